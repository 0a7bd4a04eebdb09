/- What the document's Last comes to: whether one of the address stands behind, those with none behind them, and the least of them one by one; and what the law's own 'great' tells. For rows of less than 100000 leases. -/
import Derived.Test.YtniocdbapkkdhaaLlOwn
import Derived.Test.YtniocdbapkkdhaaLaMath
import Derived.BigQuiet
import Derived.Deep.QuietTactic
import Derived.Deep.LoopGhost
import Derived.Deep.RegionLaw
import Derived.Deep.CutRange
set_option maxRecDepth 8000
namespace Go.Proofs.Ytniocdbapkkdhaa.Lw
open Go.RowKit Co By Ky Rc Ew Jw La
open Dw (ba ba_size ba_data ba_list alloc_more)

/-! ### behind -/
/-- One of the address x from the place k on. -/
def behB (l : List L) (k : Nat) (x : Int) : Bool := decide (∃ b ∈ l.drop k, b.addr = x)
theorem beh_yes {l : List L} {k : Nat} {a : L} {x : Int} (h : l[k]? = some a) (hv : a.addr = x) : behB l k x = true := by
  obtain ⟨hk, e⟩ := List.getElem?_eq_some_iff.1 h
  exact decide_eq_true ⟨a, by rw [List.drop_eq_getElem_cons hk, e]; exact .head _, hv⟩
theorem beh_no {l : List L} {k : Nat} {a : L} {x : Int} (h : l[k]? = some a) (hv : ¬ a.addr = x) : behB l k x = behB l (k + 1) x := by
  obtain ⟨hk, e⟩ := List.getElem?_eq_some_iff.1 h
  unfold behB
  rw [List.drop_eq_getElem_cons hk, e]
  refine decide_eq_decide.2 ⟨?_, ?_⟩
  · rintro ⟨b, hb, hx⟩
    rcases List.mem_cons.1 hb with rfl | hb
    · exact absurd hx hv
    · exact ⟨b, hb, hx⟩
  · rintro ⟨b, hb, hx⟩
    exact ⟨b, .tail _ hb, hx⟩
theorem beh_end {l : List L} {k : Nat} (x : Int) (h : l.length ≤ k) : behB l k x = false := by
  unfold behB
  rw [List.drop_of_length_le h]
  exact decide_eq_false (by rintro ⟨b, hb, _⟩; cases hb)
theorem behind_any (A : Option Addr) (n c U i : Nat) (x : Int) (l : List L) (w : World) (h : RdLs U w A n c l) (_ : n < 1000000) (hi : i < n) :
    Calls Try.prog 40 #[.slice A n c, .int .i64 i, .int .i64 x] w fun e w' => e = .returned (.bool (behB l (i + 1) x)) ∧ w = w' := by
  have HX := Lib.hid h
  have HL := Lib.hid h.len
  have hm := h.max
  have hc := h.cap
  clear h
  go_enter Try.func40, Try.ntmps40
  go_wp2
  go_loopw [7] (fun v wr => ∃ k : Nat, v = .int .i64 k ∧ i + 1 ≤ k ∧ k ≤ n ∧ Hid (behB l (i + 1) x = behB l k x) ∧ w = wr) (fun v _ => n - (intOf v).toNat)
  case atStart => exact ⟨i + 1, by go_num, by omega, by omega, rfl, rfl⟩
  case round =>
    obtain ⟨k, rfl, hk1, hk2, HE, rfl⟩ := hrel
    by_cases hlt : k < n
    · obtain ⟨b, o, a, rfl, _, HA, c0, _, _, _⟩ := atL HX.out hlt
      have hkz : (k : Int) < (n : Int) := by omega
      by_cases hv : a.addr = x
      · have HT : Hid (behB l (i + 1) x = true) := HE.out.trans (beh_yes HA.out hv)
        have hvz : (a.addr == x) = true := by simpa using hv
        clear hv HE HA
        go_wp2
        go_ret
        exact ⟨ret_bool HT.out.symm, rfl⟩
      · have HT : Hid (behB l (i + 1) x = behB l (k + 1) x) := HE.out.trans (beh_no HA.out hv)
        have hvz : (a.addr == x) = false := by simpa using hv
        clear hv HE HA
        go_wp2
        go_roundw
        case rel => exact ⟨k + 1, by go_num, by omega, by omega, HT.out, trivial⟩
        case measure => simp [intOf]; omega
    · have HT : Hid (behB l (i + 1) x = false) := HE.out.trans (beh_end x (by rw [HL.out]; omega))
      have hkz : ¬ (k : Int) < (n : Int) := by omega
      clear hlt HE
      go_wp2
      go_ret
      exact ⟨ret_bool HT.out.symm, rfl⟩

/-! ### Last -/
theorem uniq_put {l : List L} {k : Nat} {a : L} (h : l[k]? = some a) {ks : List L} (hk : ks ++ uniqL (l.drop k) = uniqL l) (hb : behB l (k + 1) a.addr = false) : (ks ++ [a]) ++ uniqL (l.drop (k + 1)) = uniqL l := by
  obtain ⟨hlt, e⟩ := List.getElem?_eq_some_iff.1 h
  rw [← hk, List.drop_eq_getElem_cons hlt, e, uniqL, if_pos, List.append_assoc]
  · rfl
  · intro b hb2 hx
    have := of_decide_eq_false hb
    exact this ⟨b, hb2, hx⟩
theorem uniq_skip {l : List L} {k : Nat} {a : L} (h : l[k]? = some a) {ks : List L} (hk : ks ++ uniqL (l.drop k) = uniqL l) (hb : behB l (k + 1) a.addr = true) : ks ++ uniqL (l.drop (k + 1)) = uniqL l := by
  obtain ⟨hlt, e⟩ := List.getElem?_eq_some_iff.1 h
  rw [← hk, List.drop_eq_getElem_cons hlt, e, uniqL, if_neg]
  intro hall
  obtain ⟨b, hb2, hx⟩ := of_decide_eq_true hb
  exact hall b hb2 hx
theorem best_lt {l : List L} {n : Nat} (h : n < l.length) : bestL l n < l.length := Nat.lt_of_le_of_lt (best_le l n) h
theorem best_all {l : List L} {n : Nat} (h : n + 1 = l.length) {a : L} (ha : l[bestL l n]? = some a) : ∀ b ∈ l, a.addr ≤ b.addr := by
  intro b hb
  obtain ⟨i, hi, rfl⟩ := List.mem_iff_getElem.1 hb
  have := best_least l n i (by omega)
  rw [List.getD_eq_getElem?_getD, List.getD_eq_getElem?_getD, ha, List.getElem?_eq_getElem hi] at this
  exact this
theorem best_more {l : List L} {k : Nat} {x y : L} (hx : l[k + 1]? = some x) (hy : l[bestL l k]? = some y) (hv : x.addr < y.addr) : bestL l (k + 1) = k + 1 := by
  rw [bestL, if_pos]
  rw [List.getD_eq_getElem?_getD, List.getD_eq_getElem?_getD, hx, hy]
  exact hv
theorem best_same {l : List L} {k : Nat} {x y : L} (hx : l[k + 1]? = some x) (hy : l[bestL l k]? = some y) (hv : ¬ x.addr < y.addr) : bestL l (k + 1) = bestL l k := by
  rw [bestL, if_neg]
  rw [List.getD_eq_getElem?_getD, List.getD_eq_getElem?_getD, hx, hy]
  exact hv
/-- The row that is grown and the row that is left: the one's block is older than the other's. -/
structure Two2 (w wr : World) (A1 A2 : Option Addr) (c1 c2 : Nat) (lf o : List L) : Prop where
  b : Below w.heap.size w wr
  out : OwnLs w.heap.size wr A2 o.length c2 o
  left : ∃ B, OwnLs B wr A1 lf.length c1 lf ∧ B ≤ wr.heap.size ∧ ∀ g, A2 = some ⟨g, 0, none⟩ → g < B
theorem Two2.below {w wr w' : World} {A1 A2 : Option Addr} {c1 c2 : Nat} {lf o : List L} (h : Two2 w wr A1 A2 c1 c2 lf o) (hb : Below wr.heap.size wr w') : Two2 w w' A1 A2 c1 c2 lf o := by
  obtain ⟨B, h1, h2, h3⟩ := h.left
  exact ⟨h.b.trans (hb.mono h.b.size), h.out.below hb, B, h1.below hb, Nat.le_trans h2 hb.size, h3⟩
theorem own_cases2 {B n c : Nat} {w : World} {A : Option Addr} {l : List L} (h : OwnLs B w A n c l) : (A = none ∧ n = 0) ∨ ∃ g, A = some ⟨g, 0, none⟩ := by
  rcases h.1.2 with ⟨h', _⟩ | ⟨g, cap, cur, h', _⟩
  · simp only [Value.slice.injEq] at h'
    exact .inl ⟨h'.1, h'.2.1⟩
  · simp only [Value.slice.injEq, true_and] at h'
    exact .inr ⟨g, h'.1⟩
theorem own_ge {B n c g : Nat} {w : World} {A : Option Addr} {l : List L} (h : OwnLs B w A n c l) (hA : A = some ⟨g, 0, none⟩) : B ≤ g := by
  subst hA
  exact (own_lt h).2
theorem rd_apart {B n c : Nat} {w w' : World} {A : Option Addr} {l : List L} {row : Option Nat} (h : OwnLs B w A n c l) (hg : w.grownBy w' row) (hne : ∀ g, A = some ⟨g, 0, none⟩ → row ≠ some g) : RdLs w.heap.size w' A n c l := by
  have hr := h.rd
  refine ⟨hr.1, hr.2.1, hr.2.2.1, fun h0 => ?_⟩
  obtain ⟨b, o, e, hb, hc⟩ := hr.2.2.2 h0
  refine ⟨b, o, e, hb, fun i hi => ?_⟩
  have hbl : w'.heap[b]? = w.heap[b]? := hg.block b hb fun k => by
    rcases own_cases2 h with ⟨rfl, _⟩ | ⟨g, rfl⟩
    · cases e
    · cases e
      exact hne b rfl k.symm
  have := hc i hi
  simp only [World.cell?, hbl] at *
  exact this
theorem below_grownBy {B : Nat} {w w' : World} {row : Option Nat} (hg : w.grownBy w' row) (hB : B ≤ w.heap.size) (hr : ∀ k, row = some k → B ≤ k) : Below B w w' := (Below.refl _ _).grown hg hB hr
set_option maxHeartbeats 4000000 in
theorem refLast_any (A : Option Addr) (n c : Nat) (l : List L) (w : World) (h : RdLs w.heap.size w A n c l) (hn : n < 100000) :
    Calls Try.prog 29 #[.slice A n c] w (OwL w.heap.size w (lastL l)) := by
  have HX := Lib.hid h
  have HL := Lib.hid h.len
  have hmx := h.max
  have hcp := h.cap
  clear h
  go_enter Try.func29, Try.ntmps29
  go_wp2
  go_loopw [3, 4] (fun v i wr => ∃ (k : Nat) (A1 : Option Addr) (c1 : Nat) (ks : List L), k ≤ n ∧ ks.length ≤ k ∧ i = .int .i64 k ∧ v = .slice A1 ks.length c1 ∧ Hid (OwnLs w.heap.size wr A1 ks.length c1 ks) ∧ Hid (ks ++ uniqL (l.drop k) = uniqL l) ∧ Hid (Below w.heap.size w wr)) (fun _ i _ => n - (intOf i).toNat)
  case atStart => exact ⟨0, none, 0, [], by omega, Nat.le_refl _, rfl, rfl, OwnG.nil _ _ _, rfl, Below.refl _ _⟩
  case round =>
    obtain ⟨k, A1, c1, ks, hk, hkl, rfl, rfl, HO, HU, HB⟩ := hrel
    by_cases hlt : k < n
    · have hrd := HX.out.below HB.out
      obtain ⟨b, o, a, rfl, _, HA, d0, d1, d2, d3⟩ := atL hrd hlt
      have HBH := Lib.hid (behind_any (some ⟨b, o, none⟩) n c w.heap.size k a.addr l wr hrd (by omega) hlt)
      have hkz : (k : Int) < (n : Int) := by omega
      cases hbe : behB l (k + 1) a.addr with
      | true =>
        have HT := Lib.hid (uniq_skip HA.out HU.out hbe)
        rw [hbe] at HBH
        clear hbe hrd HA HU
        go_wp2_with fail
        refine HBH.out.mono ?_
        rintro e w2 ⟨rfl, rfl⟩
        go_wp2
        go_roundw
        case rel => exact ⟨k + 1, A1, c1, ks, by omega, by omega, by go_num, rfl, HO, HT.out, HB.out⟩
        case measure => simp [intOf]; omega
      | false =>
        have HT := Lib.hid (uniq_put HA.out HU.out hbe)
        rw [hbe] at HBH
        have hlit := litL wr a
        have hba : Below wr.heap.size wr (wr.alloc (.cells (lcs a) 26)) := alloc_more _ _
        have hown := HO.out.below hba
        have hsz := HB.out.size
        clear hbe hrd HA HU HO
        go_wp2_with fail
        refine HBH.out.mono ?_
        rintro e w2 ⟨rfl, rfl⟩
        go_wp2_with (at_builtin; refine wpList_appG lesP (by decide) (by decide) (by kernel_rfl) rfl (.tmp 23) (.tmp 28) rfl rfl hown rfl hlit (by omega) (by simp; omega) ?_; intro A5 c5 w5 happ)
        go_roundw
        case rel =>
          refine ⟨k + 1, A5, c5, ks ++ [a], by omega, by rw [List.length_append]; simp; omega, by go_num, by rw [List.length_append]; rfl, ?_, HT.out, HB.out.trans ((hba.mono hsz).trans happ.2.1)⟩
          rw [List.length_append]
          exact happ.1
        case measure => simp [intOf]; omega
    · obtain rfl : k = n := by omega
      have hku : ks = uniqL l := by
        have e := HU.out
        rw [List.drop_of_length_le (by rw [HL.out]; exact Nat.le_refl _)] at e
        rw [← e]
        show ks = ks ++ []
        simp
      have hkz : ¬ (k : Int) < (k : Int) := by omega
      obtain ⟨w2, hw2⟩ : ∃ w2, w2 = wr := ⟨_, rfl⟩
      subst hw2
      have HST : Hid (Two2 w w2 A1 none c1 0 ks []) := ⟨HB.out, OwnG.nil _ _ _, w.heap.size, HO.out, HB.out.size, fun g hg => by cases hg⟩
      have HSEL : Hid (Sel (uniqL l) [] ks) := by show Sel _ _ _; rw [hku]; exact sel_start (uniq_apart l)
      clear hlt hku HU HO HB
      go_wp2
      go_loopg [3, 5] k (fun gk v3 v5 wr => ∃ (A1 A2 : Option Addr) (c1 c2 : Nat) (lf o : List L), v3 = .slice A1 lf.length c1 ∧ v5 = .slice A2 o.length c2 ∧ lf.length ≤ gk ∧ o.length + lf.length ≤ k ∧ Hid (Two2 w wr A1 A2 c1 c2 lf o) ∧ Hid (Sel (uniqL l) o lf))
      case atStart => exact ⟨A1, none, c1, 0, ks, [], rfl, rfl, by omega, by simpa using hkl, HST, HSEL⟩
      case round =>
        clear HST HSEL hkl
        obtain ⟨A1, A2, c1, c2, lf, o, rfl, rfl, hgk, hol, HS, HE⟩ := hrel
        obtain ⟨n1, hn1⟩ : ∃ n1, n1 = lf.length := ⟨_, rfl⟩
        obtain ⟨n2, hn2⟩ : ∃ n2, n2 = o.length := ⟨_, rfl⟩
        have HN1 := Lib.hid hn1
        have HN2 := Lib.hid hn2
        rw [← hn1] at hgk hol ⊢
        rw [← hn2] at hol ⊢
        by_cases h0 : n1 = 0
        · have hlf : lf = [] := List.length_eq_zero_iff.1 (by omega)
          have hz : ¬ ((n1 : Int) > 0) := by omega
          have HR : Hid (o = lastL l) := by
            have := HE.out
            rw [hlf] at this
            exact sel_end (uniq_apart l) this
          clear hlf h0 hn1 hn2
          go_wp2
          go_ret
          exact ⟨A2, n2, c2, rfl, by rw [← HR.out, HN2.out]; exact HS.out.out, HS.out.b⟩
        · have hz : (n1 : Int) > 0 := by omega
          obtain ⟨wo, hwo⟩ : ∃ wo, wo = wr := ⟨_, rfl⟩
          subst hwo
          have hleft : OwnLs 0 wo A1 n1 c1 lf := by
            obtain ⟨B, h1, _, _⟩ := HS.out.left
            rw [hn1]
            exact h1.mono (Nat.zero_le _)
          have HLE := Lib.hid hleft.rd
          have hcap := hleft.rd.cap
          have hmax := hleft.rd.max
          clear hn1 hn2 hleft
          go_wp2
          rw [show decide (0 < n1) = true from decide_eq_true (by omega)]
          go_loopw [6, 7] (fun v6 v7 wr => ∃ k : Nat, v6 = .int .i64 (bestL lf k : Nat) ∧ v7 = .int .i64 ((k + 1 : Nat) : Int) ∧ k + 1 ≤ n1 ∧ Hid (Below wo.heap.size wo wr)) (fun _ v7 _ => n1 - (intOf v7).toNat)
          case atStart => exact ⟨0, rfl, rfl, by omega, Below.refl _ _⟩
          case round =>
            obtain ⟨p, rfl, rfl, hp, HBW⟩ := hrel
            have hbl : bestL lf p < n1 := by have := best_lt (l := lf) (n := p) (by rw [← HN1.out]; omega); rw [HN1.out]; exact this
            by_cases hlt : p + 1 < n1
            · have hrd := HLE.out.below HBW.out
              obtain ⟨b, o1, x, rfl, _, HXX, x0, _, _, _⟩ := atL hrd (k := p + 1) hlt
              obtain ⟨b', o', y, e', _, HYY, y0, _, _, _⟩ := atL hrd (k := bestL lf p) hbl
              cases e'
              have hpz : ((p + 1 : Nat) : Int) < (n1 : Int) := by omega
              have HM := Lib.hid (fun hv => best_more HXX.out HYY.out hv)
              have HSM := Lib.hid (fun hv => best_same HXX.out HYY.out hv)
              obtain ⟨q, hq⟩ : ∃ q, q = bestL lf p := ⟨_, rfl⟩
              obtain ⟨r, hr⟩ : ∃ r, r = p + 1 := ⟨_, rfl⟩
              have HQ := Lib.hid hq
              have HR := Lib.hid hr
              rw [← hq] at hbl y0 ⊢
              rw [← hr] at x0 hpz hlt ⊢
              have hqz : (q : Int) < (n1 : Int) := by omega
              clear hq hr hrd HXX HYY hp
              by_cases hv : x.addr < y.addr
              · have HNB := Lib.hid (HM.out hv)
                clear HM HSM
                go_wp2_with fail
                go_quiet (fail)
                go_wp2
                go_roundw
                case rel =>
                  have e1 := HR.out
                  exact ⟨p + 1, by rw [HNB.out, e1], by rw [e1]; go_num, by omega, below_drewN HBW.out _⟩
                case measure => simp [intOf]; omega
              · have HNB := Lib.hid (HSM.out hv)
                clear HM HSM
                go_wp2_with fail
                go_quiet (fail)
                go_wp2
                go_roundw
                case rel =>
                  have e1 := HR.out
                  have e2 := HQ.out
                  exact ⟨p + 1, by rw [HNB.out, ← e2], by rw [e1]; go_num, by omega, below_drewN HBW.out _⟩
                case measure => simp [intOf]; omega
            · have hpn : p + 1 = lf.length := by rw [← HN1.out]; omega
              have hpz : ¬ ((p + 1 : Nat) : Int) < (n1 : Int) := by omega
              obtain ⟨q, hq⟩ : ∃ q, q = bestL lf p := ⟨_, rfl⟩
              rw [← hq] at hbl ⊢
              obtain ⟨a, ha⟩ : ∃ a, lf[q]? = some a := ⟨_, List.getElem?_eq_getElem (by rw [← HN1.out]; exact hbl)⟩
              have HSEL2 := Lib.hid (sel_step HE.out ha (best_all hpn (by rw [← hq]; exact ha)))
              have hS := HS.out.below HBW.out
              obtain ⟨B, hl1, hl2, hl3⟩ := hS.left
              rw [← HN1.out] at hl1
              have hout := hS.out
              rw [← HN2.out] at hout
              have hrd := hl1.rd
              obtain ⟨b, o1, a', rfl, hbU, HA', d0, d1, d2, d3⟩ := atL hrd hbl
              obtain rfl : a' = a := by have := HA'.out.symm.trans ha; injection this
              have hlit := litL wr a'
              have hba : Below wr.heap.size wr (wr.alloc (.cells (lcs a') 26)) := alloc_more _ _
              have hown := hout.below hba
              have hsz := hS.b.size
              have HB := Lib.hid hS.b
              have hqz : (q : Int) < (n1 : Int) := by omega
              have HL1 := Lib.hid (hl1.below hba)
              have HL3 : Hid (∀ g, A2 = some ⟨g, 0, none⟩ → g < B) := hl3
              have HL2 : Hid (B ≤ wr.heap.size) := hl2
              have HBA := Lib.hid hba
              have HQP : Hid (q < n1 ∧ n1 = lf.length) := ⟨hbl, HN1.out⟩
              clear hpn hq ha hS hl1 hl2 hl3 hout hrd HA' HE HS HLE HBW hp hlt
              go_wp2_with (at_builtin; refine wpList_appG lesP (by decide) (by decide) (by kernel_rfl) rfl (.tmp 51) (.tmp 56) rfl rfl hown rfl hlit (by omega) (by simp; omega) ?_; intro A5 c5 w5 happ)
              have hlow : RdLs (wr.heap.size + 1) w5 (some ⟨b, o1, none⟩) n1 c1 lf := by
                have := rd_apart HL1.out happ.2.2.1 (fun g hg k => by
                  rcases own_cases2 hown with ⟨e, _⟩ | ⟨g2, e⟩
                  · rw [e] at k
                    simp [Value.ownBlock] at k
                  · rw [e] at k
                    simp [Value.ownBlock] at k
                    have h1 := HL3.out g2 e
                    have h2 := own_ge HL1.out hg
                    omega)
                simpa using this
              have hb5 : Below w.heap.size w w5 := HB.out.trans ((HBA.out.mono hsz).trans happ.2.1)
              have hs5 : wr.heap.size + 1 ≤ w5.heap.size := by have := happ.2.2.1.size; simpa using this
              obtain ⟨A61, hc61, hr61⟩ := lesP.cut_h hlow q (q : Int) rfl (by omega)
              obtain ⟨A66, hc66, hr66⟩ := lesP.cut_l hlow (q + 1) ((q : Int) + 1) (by omega) (by omega)
              have hal0 : Below w5.heap.size w5 (w5.drew.alloc (.cells #[] 26)) := (Below.refl _ _).drew.alloc (Nat.le_refl _) _
              have hl0 : OwnLs w5.heap.size (w5.drew.alloc (.cells #[] 26)) (some ⟨w5.heap.size, 0, none⟩) 0 0 [] := litL0 w5.drew
              have hd61 := hc61.below (hal0.mono hs5)
              have HD66 := Lib.hid hc66
              have hwp : IntKind.i64.wrap ((q : Int) + 1) = (q : Int) + 1 := by rw [IntKind.wrap_i64]; omega
              have hq1 : (0 : Nat) + q ≤ 1000000 := by omega
              have hq2 : q + (n1 - (q + 1)) ≤ 1000000 := by omega
              have hqb1 : (0 + q) * 40 ≤ 140737488355328 := by omega
              have hqb2 : (q + (n1 - (q + 1))) * 40 ≤ 140737488355328 := by omega
              have HO5 := Lib.hid happ.1
              have HB5 := Lib.hid hb5
              have HLT5 : Hid (∀ g, A5 = some ⟨g, 0, none⟩ → g < w5.heap.size) := fun g hg => by have h := happ.1; subst hg; exact (own_lt h).1
              have hgm : n1 - 1 < gk ∧ q < n1 := by omega
              have HGM := Lib.hid hgm
              clear happ hlow hb5 hown hlit hba hsz hc61 hc66 hgm hbU d0 d1 d2 d3 HL1 HL2 HL3 HBA HB
              go_wp2_with fail
              go_region_law (first
                | (refine step_appG lesP (by decide) (by decide) (by kernel_rfl) (by rfl) (.tmp 58) (.tmp 61) (by rfl) (by rfl) hl0 (by rfl) hd61 hqb1 (by exact hal0.size) ?_; intro A7 c7 w7 happ7; have ho7 := happ7.1; simp only [Nat.zero_add, List.nil_append] at ho7; have hb7 : Below w5.heap.size w5 w7 := hal0.trans (happ7.2.1.mono (Nat.le_refl _)); have hd66 := HD66.out.below (hb7.mono hs5))
                | (refine step_appG lesP (by decide) (by decide) (by kernel_rfl) (by rfl) (.tmp 62) (.tmp 66) (by rfl) (by rfl) ho7 (by rfl) hd66 hqb2 (by exact hb7.size) ?_; intro A8 c8 w8 happ8; have hb8 : Below w5.heap.size w5 w8 := hb7.trans (happ8.2.1.mono (Nat.le_refl _))))
              all_goals (
                go_wp2
                go_roundg (n1 - 1)
                case measure => exact HGM.out.1
                case rel =>
                  have hlen : (lf.take q ++ lf.drop (q + 1)).length = q + (n1 - (q + 1)) := by
                    have := HQP.out
                    rw [List.length_append, List.length_take, List.length_drop]
                    omega
                  have hlo : (o ++ [a']).length = n2 + 1 := by rw [List.length_append, HN2.out]; rfl
                  have hg := HGM.out
                  refine ⟨A8, A5, c8, c5, lf.take q ++ lf.drop (q + 1), o ++ [a'], by rw [hlen], by rw [hlo], by rw [hlen]; omega, by rw [hlen, hlo]; omega, ?_, HSEL2.out⟩
                  refine ⟨HB5.out.trans (hb8.mono HB5.out.size), by rw [hlo]; exact HO5.out.below hb8, w5.heap.size, by rw [hlen]; exact happ8.1, hb8.size, HLT5.out⟩)

/-! ### great -/
theorem take_nextL {α : Type} {l : List α} {k : Nat} {a : α} (h : l[k]? = some a) : l.take (k + 1) = l.take k ++ [a] := by
  obtain ⟨hk, e⟩ := List.getElem?_eq_some_iff.1 h
  rw [List.take_succ_eq_append_getElem hk, e]
def greatL (l : List L) : Bool := decide (∃ a ∈ l, 1000 < a.key.length) || decide (200 < l.length)
theorem small_of {l : List L} (h : greatL l = false) : l.length ≤ 200 ∧ ∀ a ∈ l, a.key.length ≤ 1000 := by
  unfold greatL at h
  obtain ⟨h1, h2⟩ := Bool.or_eq_false_iff.1 h
  have h1 := of_decide_eq_false h1
  have h2 := of_decide_eq_false h2
  exact ⟨by omega, fun a ha => by
    rcases Nat.lt_or_ge 1000 a.key.length with k | k
    · exact absurd ⟨a, ha, k⟩ h1
    · exact k⟩
end Go.Proofs.Ytniocdbapkkdhaa.Lw
