/- slices.CompactFunc on a row of leases, with the comparison of clean.Last for equality: of each run of one address the first stays. For rows of less than a million leases. -/
import Derived.Test.YtlefpodonkdbeaaGreatLwOwn
import Derived.Test.YtlefpodonkdbeaaGreatLwMrg
import Derived.Test.YtlefpodonkdbeaaGreatMathA
import Derived.BigRegion
import Derived.Deep.LoopGhost
set_option maxRecDepth 8000
namespace Go.Proofs.YtlefpodonkdbeaaGreat.Lw
open Go.RowKit Go.Lib Co By Ky Rc Jn Ew Jw La
open Dw (ba ba_size ba_data ba_list)
open Go.Sort (grow)

theorem eq_any (x y : L) (bx : Nat) (w : World) (hb : bx < w.heap.size) (hc : w.cell? ⟨bx, 0, none⟩ = some (.func (.func 25) #[] #[])) :
    Calls Tryz.prog 49 #[.agg #[.int .i64 x.addr, .int .i64 x.state, .int .i64 x.till, .string (ba x.key)], .agg #[.int .i64 y.addr, .int .i64 y.state, .int .i64 y.till, .string (ba y.key)], .pointer (some ⟨bx, 0, none⟩)] w
      fun e w' => e = .returned (.bool (cmpI x.addr y.addr == 0)) ∧ ∃ q os', w' = grow (w.drewN q) os' := by
  have hcon := fun w' => less_any x y w'
  have hne1 : bx ≠ w.heap.size := by omega
  have hne2 : bx ≠ w.heap.size + 1 := by omega
  generalize cmpI x.addr y.addr = r at hcon ⊢
  go_enter Tryz.func49, Tryz.ntmps49
  go_wp2_with fail
  refine (hcon _).mono ?_
  rintro e w1 ⟨rfl, q, os, rfl⟩
  go_wp2
  go_ret
  exact ⟨by simp, q, _, by rw [Sort.alloc_eq_grow, Sort.alloc_eq_grow, Sort.grow_grow]; exact Sort.grow_grow (w.drewN q) _ os⟩
theorem cmp_eq {x y : Int} : (cmpI x y == 0) = decide (x = y) := by
  unfold cmpI
  split
  · have : ¬ x = y := by omega
    simp [this]
  · split
    · have : ¬ x = y := by omega
      simp [this]
    · have : x = y := by omega
      simp [this]

/-! ### What the loops hold -/
/-- No two neighbours among the first k are of one address. -/
def Diff (l : List L) (k : Nat) : Prop := uqL (l.take k) = l.take k
theorem diff_next {l : List L} {k : Nat} (h : Diff l k) (h1 : 1 ≤ k) (hk : k < l.length) (hne : (l[k]).addr ≠ (l[k - 1]'(by omega)).addr) : Diff l (k + 1) := by
  unfold Diff at *
  rw [uq_next h1 hk, if_neg hne, h, List.take_succ_eq_append_getElem hk]
/-- The row m, of which the first k are what the first j of l come to; those from j - 1 = i on are as they were. -/
def HalfU (l m : List L) (k i : Nat) : Prop := m.length = l.length ∧ m.take k = uqL (l.take (i + 1)) ∧ m.drop i = l.drop i ∧ k ≤ i
theorem halfu_start {l : List L} {k : Nat} (h : Diff l k) (h1 : 1 ≤ k) (hk : k < l.length) (he : (l[k]).addr = (l[k - 1]'(by omega)).addr) : HalfU l l k k := by
  refine ⟨rfl, ?_, rfl, Nat.le_refl _⟩
  rw [uq_next h1 hk, if_pos he, List.append_nil]
  exact h.symm
theorem halfu_get {l m : List L} {k i j : Nat} (h : HalfU l m k i) (hij : i ≤ j) (hj : j < l.length) : m[j]? = some l[j] := by
  have h3 := h.2.2.1
  have e : m[j]? = (m.drop i)[j - i]? := by rw [List.getElem?_drop, show i + (j - i) = j by omega]
  rw [e, h3, List.getElem?_drop, show i + (j - i) = j by omega, List.getElem?_eq_getElem hj]
theorem halfu_drop {l m : List L} {k i : Nat} (h : HalfU l m k i) (hi : i + 1 < l.length) (he : (l[i + 1]).addr = (l[i]).addr) : HalfU l m k (i + 1) := by
  obtain ⟨h1, h2, h3, h4⟩ := h
  refine ⟨h1, ?_, ?_, by omega⟩
  · rw [uq_next (by omega) hi, if_pos (by simpa using he), List.append_nil]
    exact h2
  · rw [← List.drop_drop, h3, List.drop_drop]
theorem halfu_keep {l m : List L} {k i : Nat} (h : HalfU l m k i) (hi : i + 1 < l.length) (he : (l[i + 1]).addr ≠ (l[i]).addr) : HalfU l (m.set k l[i + 1]) (k + 1) (i + 1) := by
  obtain ⟨h1, h2, h3, h4⟩ := h
  have hkm : k < m.length := by omega
  refine ⟨by rw [List.length_set]; exact h1, ?_, ?_, by omega⟩
  · rw [uq_next (by omega) hi, if_neg (by simpa using he), ← h2]
    rw [List.take_succ_eq_append_getElem (by rw [List.length_set]; exact hkm), List.take_set_of_le (Nat.le_refl _)]
    simp
  · rw [List.drop_set_of_lt (by omega), ← List.drop_drop, h3, List.drop_drop]
theorem halfu_done {l m : List L} {k i : Nat} (h : HalfU l m k i) (hi : l.length ≤ i + 1) : m.take k = uqL l := by
  rw [h.2.1, List.take_of_length_le hi]
theorem own_one {B g n c : Nat} {w : World} {l : List L} (h : OwnLs B w (some ⟨g, 0, none⟩) n c l) {i : Nat} {a : L} (ha : l[i]? = some a) :
    w.cell? ⟨g, i * 4, none⟩ = some (.int .i64 a.addr) ∧ w.cell? ⟨g, i * 4 + 1, none⟩ = some (.int .i64 a.state) ∧ w.cell? ⟨g, i * 4 + 2, none⟩ = some (.int .i64 a.till) ∧ w.cell? ⟨g, i * 4 + 3, none⟩ = some (.string (ba a.key)) := by
  have hi : i < n := by rw [← h.2]; exact (List.getElem?_eq_some_iff.1 ha).1
  obtain ⟨b', o', a', e1, _, e2, c0, c1, c2, c3⟩ := atL h.rd hi
  injection e1 with e1
  injection e1 with e1 e3 _
  subst e1 e3
  have e4 : a' = a := by have := e2.out; rw [ha] at this; exact (Option.some.inj this).symm
  subst e4
  rw [Nat.zero_add] at c0 c1 c2 c3
  exact ⟨c0, c1, c2, c3⟩
/-- Two leases of the row that the call owns, in whatever world behind draws and new blocks. -/
theorem own_two {B g n c : Nat} {w : World} {l : List L} (h : OwnLs B w (some ⟨g, 0, none⟩) n c l) {i j : Nat} {a b : L} (ha : l[i]? = some a) (hb : l[j]? = some b) : Two w g (i * 4) (j * 4) a b :=
  ⟨fun k os => ⟨own_one (h.below (below_grow w k os)) ha, own_one (h.below (below_grow w k os)) hb⟩⟩
theorem own_fr {B g n c : Nat} {w : World} {l : List L} (h : OwnLs B w (some ⟨g, 0, none⟩) n c l) (i : Nat) : w.frozen? ⟨g, i, none⟩ = false := by
  rcases h.1.2 with ⟨h', _⟩ | ⟨g', cap, cur, h', _, hg, _⟩
  · cases h'
  · simp only [Value.slice.injEq, Option.some.injEq, Addr.mk.injEq, and_true, true_and] at h'
    obtain ⟨rfl, rfl⟩ := h'
    simp [World.frozen?, hg]
set_option maxHeartbeats 4000000 in
theorem compact_any (B g n c bx : Nat) (l : List L) (w : World) (hB : B ≤ w.heap.size) (hO : OwnLs B w (some ⟨g, 0, none⟩) n c l) (hn : n < 1000000) (hbx : bx < B) (hcx : w.cell? ⟨bx, 0, none⟩ = some (.func (.func 25) #[] #[])) :
    Calls Tryz.prog 48 #[.slice (some ⟨g, 0, none⟩) n c, .func (.func 49) #[] #[.pointer (some ⟨bx, 0, none⟩)]] w (OwL B w (uqL l)) := by
  have HL := Lib.hid hO.2
  have hrd := hO.rd
  have hnc := hrd.cap
  have hcm := hrd.max
  obtain ⟨hglt, hBg⟩ := own_lt hO
  have HO := Lib.hid hO
  have HCX := Lib.hid hcx
  have HBX : Hid (bx < w.heap.size ∧ B ≤ w.heap.size ∧ B ≤ g) := ⟨by omega, hB, hBg⟩
  clear hO hrd hcx hB
  by_cases h2 : n < 2
  · have hlz : (n : Int) < 2 := by omega
    have HU : Hid (uqL l = l) := by
      have e := HL.out
      have := uq_one l
      rwa [List.take_of_length_le (by omega)] at this
    clear h2
    go_enter Tryz.func48, Tryz.ntmps48
    go_wp2
    go_ret
    exact ⟨_, _, _, rfl, by rw [HU.out]; exact HO.out, Below.refl _ _⟩
  · have hlz : ¬ (n : Int) < 2 := by omega
    go_enter Tryz.func48, Tryz.ntmps48
    go_wp2
    go_loopg [5] n (fun gk v5 wr => ∃ k : Nat, v5 = .int .i64 (k : Int) ∧ 1 ≤ k ∧ k ≤ n ∧ n ≤ k + gk ∧ Hid (Diff l k) ∧ Hid (Below w.heap.size w wr))
    case atStart => exact ⟨1, rfl, by omega, by omega, by omega, uq_one l, Below.refl _ _⟩
    case round =>
      obtain ⟨k, rfl, hk1, hkn, hgk, HD, HBW⟩ := hrel
      by_cases hlt : k < n
      · obtain ⟨q, rfl⟩ : ∃ q, k = q + 1 := ⟨k - 1, by omega⟩
        have hql : q + 1 < l.length := by have := HL.out; omega
        obtain ⟨x, hx⟩ : ∃ x, l[q + 1] = x := ⟨_, rfl⟩
        obtain ⟨y, hy⟩ : ∃ y, l[q] = y := ⟨_, rfl⟩
        have HOW := Lib.hid (HO.out.below HBW.out)
        have two := own_two HOW.out (i := q + 1) (j := q) (by rw [List.getElem?_eq_getElem hql, hx]) (by rw [List.getElem?_eq_getElem (by omega), hy])
        have mixed : Tryz.prog.follows Departure.mixedOrders = true := by kernel_rfl
        have a0 := fun k os => (two.c k os).1.1
        have a1 := fun k os => (two.c k os).1.2.1
        have a2 := fun k os => (two.c k os).1.2.2.1
        have a3 := fun k os => (two.c k os).1.2.2.2
        have b0 := fun k os => (two.c k os).2.1
        have b1 := fun k os => (two.c k os).2.2.1
        have b2 := fun k os => (two.c k os).2.2.2.1
        have b3 := fun k os => (two.c k os).2.2.2.2
        have hcg0 := fun k os => eq_any x y bx (grow (wr.drewN k) os) (Nat.lt_of_lt_of_le HBX.out.1 (Nat.le_trans HBW.out.size (below_grow wr k os).size)) (((HBW.out.trans ((below_grow wr k os).mono HBW.out.size)).cell (p := ⟨bx, 0, none⟩) HBX.out.1).trans HCX.out)
        have ec : ((q + 1 : Nat) : Int) = (q : Int) + 1 := by omega
        rw [ec]
        have jz : (q : Int) + 1 < (n : Int) := by omega
        have jz1 : (q : Int) < (n : Int) := by omega
        have p0 : (0 : Int) ≤ (q : Int) + 1 := by omega
        have e0 : ((q : Int) + 1).toNat = q + 1 := by omega
        have hwp : IntKind.i64.wrap (q : Int) = (q : Int) := by rw [IntKind.wrap_i64]; omega
        have hqn : q + 1 < n := hlt
        by_cases hv : x.addr = y.addr
        · have hcg : ∀ k os, Calls Tryz.prog _ _ (grow (wr.drewN k) os) fun e w' => e = .returned (.bool true) ∧ ∃ q os', w' = grow ((grow (wr.drewN k) os).drewN q) os' := fun k os => by
            have h := hcg0 k os
            rwa [cmp_eq, decide_eq_true hv] at h
          have HU := Lib.hid (halfu_start HD.out hk1 hql (by rw [hx]; show _ = (l[q]).addr; rw [hy]; exact hv))
          clear hx hy two hv hlt ec hk1 hkn hql hcg0
          go_wp2_with fail
          go_quiet_grown (first | (refine Calls.grown_of (hcg _ _)))
          have HOX := Lib.hid (HOW.out.below (below_grow wr nq osq))
          have HBX2 := Lib.hid (HBW.out.trans ((below_grow wr nq osq).mono HBW.out.size))
          clear hcg a0 a1 a2 a3 b0 b1 b2 b3 HOW HBW
          generalize grow (wr.drewN nq) osq = w2 at HOX HBX2 ⊢
          go_wp2
          go_loopg [5, 7] n (fun g2 v5 v7 wr2 => ∃ (k p : Nat) (m : List L), v5 = .int .i64 (k : Int) ∧ v7 = .int .i64 ((p : Int) + 1) ∧ 1 ≤ k ∧ q + 1 + p < n ∧ n ≤ q + 1 + p + g2 ∧ Hid (HalfU l m k (q + 1 + p)) ∧ Hid (OwnLs B wr2 (some ⟨g, 0, none⟩) n c m) ∧ Hid (Below B w wr2))
          case atStart => exact ⟨q + 1, 0, l, ret_i64 (by omega), ret_i64 (by omega), by omega, by omega, by omega, HU.out, HOX.out, HBX2.out.mono HBX.out.2.1⟩
          case round =>
            obtain ⟨k, p, m, rfl, rfl, hk1, hpn, hg2, HH, HOM, HBM⟩ := hrel
            have hki := HH.out.2.2.2
            have hkn : k < n := by omega
            have hml := HH.out.1
            clear hki
            by_cases hlt2 : q + 1 + p + 1 < n
            · have hil : q + 1 + p + 1 < l.length := by have := HL.out; omega
              obtain ⟨x2, hx2⟩ : ∃ x2, l[q + 1 + p + 1] = x2 := ⟨_, rfl⟩
              obtain ⟨y2, hy2⟩ : ∃ y2, l[q + 1 + p]'(by omega) = y2 := ⟨_, rfl⟩
              have hmx : m[q + 1 + p + 1]? = some x2 := by rw [halfu_get HH.out (by omega) hil, hx2]
              have hmy : m[q + 1 + p]? = some y2 := by rw [halfu_get HH.out (Nat.le_refl _) (by omega), hy2]
              have two := own_two HOM.out hmx hmy
              rw [show (q + 1 + p + 1) * 4 = (q + 1) * 4 + (p + 1) * 4 by omega, show (q + 1 + p) * 4 = (q + 1) * 4 + p * 4 by omega] at two
              have a0 := fun k os => (two.c k os).1.1
              have a1 := fun k os => (two.c k os).1.2.1
              have a2 := fun k os => (two.c k os).1.2.2.1
              have a3 := fun k os => (two.c k os).1.2.2.2
              have b0 := fun k os => (two.c k os).2.1
              have b1 := fun k os => (two.c k os).2.2.1
              have b2 := fun k os => (two.c k os).2.2.2.1
              have b3 := fun k os => (two.c k os).2.2.2.2
              have hcg0 := fun k os => eq_any x2 y2 bx (grow (wr.drewN k) os) (Nat.lt_of_lt_of_le (Nat.lt_of_lt_of_le HBX.out.1 HBM.out.size) (below_grow wr k os).size) (((HBM.out.trans ((below_grow wr k os).mono (Nat.le_trans HBX.out.2.1 HBM.out.size))).cell (p := ⟨bx, 0, none⟩) hbx).trans HCX.out)
              have hpz : (p : Int) + 1 < ((n - (q + 1) : Nat) : Int) := by omega
              have hpz1 : (p : Int) < ((n - (q + 1) : Nat) : Int) := by omega
              have p1 : (0 : Int) ≤ (p : Int) + 1 := by omega
              have e1 : ((p : Int) + 1).toNat = p + 1 := by omega
              have hwp1 : IntKind.i64.wrap (p : Int) = (p : Int) := by rw [IntKind.wrap_i64]; omega
              have HMX : Hid (m[q + 1 + p + 1]? = some x2) := hmx
              by_cases hv : x2.addr = y2.addr
              · have hcg : ∀ k os, Calls Tryz.prog _ _ (grow (wr.drewN k) os) fun e w' => e = .returned (.bool true) ∧ ∃ q os', w' = grow ((grow (wr.drewN k) os).drewN q) os' := fun k os => by
                  have h := hcg0 k os
                  rwa [cmp_eq, decide_eq_true hv] at h
                have HU2 := Lib.hid (halfu_drop HH.out hil (by rw [hx2, hy2]; exact hv))
                clear hx2 hy2 hmx hmy two hv hlt2 hil hml hcg0
                go_wp2_with fail
                go_quiet_grown (first | (refine Calls.grown_of (hcg _ _)))
                go_wp2
                go_roundg (n - (q + 1 + p + 1))
                case measure => omega
                case rel => exact ⟨k, p + 1, m, rfl, ret_i64 (by omega), by omega, by omega, by omega, HU2.out, HOM.out.below (below_grow wr nq osq), HBM.out.trans ((below_grow wr nq osq).mono (Nat.le_trans HBX.out.2.1 HBM.out.size))⟩
              · have hcg : ∀ k os, Calls Tryz.prog _ _ (grow (wr.drewN k) os) fun e w' => e = .returned (.bool false) ∧ ∃ q os', w' = grow ((grow (wr.drewN k) os).drewN q) os' := fun k os => by
                  have h := hcg0 k os
                  rwa [cmp_eq, decide_eq_false hv] at h
                have hu2 := halfu_keep HH.out hil (by rw [hx2, hy2]; exact hv)
                rw [hx2] at hu2
                have HU2 := Lib.hid hu2
                have hkm : k < m.length := by have := HL.out; omega
                have HKM := Lib.hid hkm
                clear hx2 hy2 hmx hmy two hv hlt2 hil hml hu2 hkm hcg0
                go_wp2_with fail
                go_quiet_grown (first | (refine Calls.grown_of (hcg _ _)))
                have HOX3 := Lib.hid (HOM.out.below (below_grow wr nq osq))
                have HBX3 := Lib.hid (HBM.out.trans ((below_grow wr nq osq).mono (Nat.le_trans HBX.out.2.1 HBM.out.size)))
                clear hcg a0 a1 a2 a3 b0 b1 b2 b3 HOM HBM
                generalize grow (wr.drewN nq) osq = w3 at HOX3 HBX3 ⊢
                have one := own_one HOX3.out HMX.out
                rw [show (q + 1 + p + 1) * 4 = (q + 1) * 4 + (p + 1) * 4 by omega] at one
                obtain ⟨a0, a1, a2, a3⟩ := one
                have f0 := own_fr HOX3.out (k * 4)
                have f1 := own_fr HOX3.out (k * 4 + 1)
                have f2 := own_fr HOX3.out (k * 4 + 2)
                have f3 := own_fr HOX3.out (k * 4 + 3)
                obtain ⟨y3, hy3⟩ : ∃ y3, m[k]? = some y3 := ⟨_, List.getElem?_eq_getElem HKM.out⟩
                obtain ⟨d0, d1, d2, d3⟩ := own_one HOX3.out hy3
                clear hy3
                have hput := own_put HOX3.out HKM.out x2
                have HPUT := Lib.hid hput.1
                have HPB := Lib.hid ((HBX3.out).trans ((Below.refl B w3).grown hput.2 (Nat.le_trans HBX.out.2.1 HBX3.out.size) (fun k hk => by cases hk; exact HBX.out.2.2)))
                clear hput
                go_wp2
                go_roundg (n - (q + 1 + p + 1))
                case measure => omega
                case rel => exact ⟨k + 1, p + 1, m.set k x2, ret_i64 (by omega), ret_i64 (by omega), by omega, by omega, by omega, HU2.out, HPUT.out, HPB.out⟩
            · have hpz : ¬ (p : Int) + 1 < ((n - (q + 1) : Nat) : Int) := by omega
              have HE : Hid (m.take k = uqL l) := halfu_done HH.out (by have := HL.out; omega)
              obtain ⟨W', hclr, hown', hgr'⟩ := clear_tailL HOM.out hkn
              have HO' := Lib.hid hown'
              have HG' := Lib.hid ((HBM.out).trans ((Below.refl B wr).grown hgr' (Nat.le_trans HBX.out.2.1 HBM.out.size) (fun k hk => by cases hk; exact HBX.out.2.2)))
              have hkz : (k : Int) ≤ (n : Int) := by omega
              clear hown' hgr' hlt2 hml
              go_wp2
              go_ret
              exact ⟨_, k, c, rfl, by rw [← HE.out]; exact HO'.out, HG'.out⟩
        · have hcg : ∀ k os, Calls Tryz.prog _ _ (grow (wr.drewN k) os) fun e w' => e = .returned (.bool false) ∧ ∃ q os', w' = grow ((grow (wr.drewN k) os).drewN q) os' := fun k os => by
            have h := hcg0 k os
            rwa [cmp_eq, decide_eq_false hv] at h
          have HD2 := Lib.hid (diff_next HD.out hk1 hql (by rw [hx]; show _ ≠ (l[q]).addr; rw [hy]; exact hv))
          clear hx hy two hv hlt ec hk1 hkn hql hcg0
          go_wp2_with fail
          go_quiet_grown (first | (refine Calls.grown_of (hcg _ _)))
          go_wp2
          go_roundg (n - (q + 2))
          case measure => omega
          case rel => exact ⟨q + 2, ret_i64 (by omega), by omega, by omega, by omega, HD2.out, HBW.out.trans ((below_grow wr nq osq).mono HBW.out.size)⟩
      · have hkz : ¬ (k : Int) < (n : Int) := by omega
        have HU : Hid (uqL l = l) := by
          have e := HL.out
          have e2 : Diff l k := HD.out
          unfold Diff at e2
          rwa [List.take_of_length_le (by omega)] at e2
        clear hlt
        go_wp2
        go_ret
        exact ⟨_, _, _, rfl, by rw [HU.out]; exact HO.out.below HBW.out, HBW.out.mono HBX.out.2.1⟩
end Go.Proofs.YtlefpodonkdbeaaGreat.Lw
