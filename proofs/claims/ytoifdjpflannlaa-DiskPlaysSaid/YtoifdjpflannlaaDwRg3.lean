/- What the document's renumbered and Ordered come to. For disks of up to 1000 entries. -/
import Derived.Test.YtoifdjpflannlaaDwRf4
import Derived.Test.YtoifdjpflannlaaDwAs
import Derived.Test.YtoifdjpflannlaaDwRg1
import Derived.BigQuiet
import Derived.Deep.QuietTactic
set_option maxRecDepth 8000
namespace Go.Proofs.Ytoifdjpflannlaa.Dw
open Go.RowKit By Dk

/-! ### renumbered -/
/-- What the inner loop has added behind so many files. -/
def upto (c : List Int) (s : N) (f : Int) (k : Nat) : List E := if f ∈ c.take k then [(s, idx c f)] else []
theorem upto_zero (c : List Int) (s : N) (f : Int) : upto c s f 0 = [] := by unfold upto; rw [if_neg (by simp)]
theorem upto_no {c : List Int} {s : N} {f : Int} {k : Nat} (hk : k < c.length) (h : c[k] ≠ f) : upto c s f (k + 1) = upto c s f k := by
  have e : (f ∈ c.take (k + 1)) ↔ f ∈ c.take k := by
    rw [List.take_succ_eq_append_getElem hk, List.mem_append, List.mem_singleton]
    exact ⟨fun q => q.elim id fun q => absurd q.symm h, .inl⟩
  unfold upto
  by_cases q : f ∈ c.take k
  · rw [if_pos q, if_pos (e.2 q)]
  · rw [if_neg q, if_neg (fun z => q (e.1 z))]
theorem upto_hit {c : List Int} {s : N} {f : Int} {k : Nat} (hd : c.Nodup) (hk : k < c.length) (h : c[k] = f) : upto c s f (k + 1) = upto c s f k ++ [(s, (k : Int))] := by
  have hno : f ∉ c.take k := by
    intro q
    obtain ⟨i, hi, e⟩ := List.mem_iff_getElem.1 q
    rw [List.length_take] at hi
    rw [List.getElem_take, ← h] at e
    have h1 := List.Nodup.idxOf_getElem hd i (by omega)
    have h2 := List.Nodup.idxOf_getElem hd k hk
    rw [e] at h1
    omega
  have hyes : f ∈ c.take (k + 1) := by rw [List.take_succ_eq_append_getElem hk, h]; simp
  have hi : idx c f = (k : Int) := by
    subst h
    unfold idx
    rw [List.Nodup.idxOf_getElem hd k hk]
  unfold upto
  rw [if_pos hyes, if_neg hno, hi]
  rfl
theorem upto_all {c : List Int} {s : N} {f : Int} {n : Nat} (hm : f ∈ c) (hn : c.length ≤ n) : upto c s f n = [(s, idx c f)] := by
  unfold upto
  rw [List.take_of_length_le hn, if_pos hm]
theorem renum_next {l : List E} {k : Nat} {s : N} {f : Int} (c : List Int) (h : l[k]? = some (s, f)) : renum (l.take (k + 1)) c = renum (l.take k) c ++ [(s, idx c f)] := by
  rw [take_next h, renum, List.map_append]
  rfl
theorem ints_at {w : World} {A : Option Addr} {n c : Nat} {zs : List Int} (h : Rd w A n c (intV zs)) {k : Nat} (hk : k < n) : ∃ (b o : Nat) (z : Int) (hz : k < zs.length), A = some ⟨b, o, none⟩ ∧ zs[k] = z ∧ w.cell? ⟨b, o + k, none⟩ = some (.int .i64 z) := by
  obtain ⟨b, o, e, hc⟩ := h.at_ hk
  have hl := h.len
  rw [intV_len] at hl
  have hz : k < zs.length := by omega
  refine ⟨b, o, zs[k], hz, e, rfl, ?_⟩
  rw [hc k (by rw [intV_len]; omega)]
  simp [intV]
def StRo (w : World) (l : List E) (c : List Int) (m : Nat) (v i : Value) (wr : World) : Prop :=
  ∃ (k : Nat) (A1 : Option Addr) (c1 : Nat), k ≤ m ∧ i = .int .i64 k ∧ v = .slice A1 k c1 ∧ OwnG layE 69 w.heap.size wr A1 k c1 (renum (l.take k) c) ∧ Below w.heap.size w wr
def StRi (w : World) (l : List E) (c : List Int) (p m : Nat) (s : N) (f : Int) (v i : Value) (wr : World) : Prop :=
  ∃ (k : Nat) (A1 : Option Addr) (n1 c1 : Nat), k ≤ m ∧ i = .int .i64 k ∧ v = .slice A1 n1 c1 ∧ n1 ≤ p + k ∧ OwnG layE 69 w.heap.size wr A1 n1 c1 (renum (l.take p) c ++ upto c s f k) ∧ Below w.heap.size w wr
set_option maxHeartbeats 4000000 in
theorem refRenumbered_any (A : Option Addr) (n c : Nat) (l : List E) (B : Option Addr) (m d : Nat) (zs : List Int) (w : World) (h : RdE w.heap.size w A n c l) (hz : Rd w B m d (intV zs)) (hn : n ≤ 1000) (hm : m ≤ 1000) (hd : zs.Nodup) (hin : ∀ e ∈ l, e.2 ∈ zs) :
    Calls Try.prog 93 #[.slice A n c, .slice B m d] w (EnR w (renum l zs)) := by
  have hl := Lib.hid h.len
  have hzl := hz.len
  rw [intV_len] at hzl
  have HZL := Lib.hid hzl
  have hmx := h.max
  have hcap := h.cap
  have hmy := hz.max
  have hcay := hz.cap
  have HD := Lib.hid hd
  have HIN := Lib.hid hin
  clear hd hin hzl
  go_enter Try.func93, Try.ntmps93
  go_wp2
  go_loopw [5, 6] (fun v i wr => StRo w l zs n v i wr) (fun _ i _ => n - (intOf i).toNat)
  case atStart => exact ⟨0, none, 0, by omega, rfl, rfl, OwnG.nil _ _ _, Below.refl _ _⟩
  case round =>
    obtain ⟨p, A1, c1, hp, rfl, rfl, hown, hbw⟩ := hrel
    by_cases hlt : p < n
    · obtain ⟨b, o, s, f, rfl, hblt, HE, d1, d2⟩ := atE h hlt
      have HM := Lib.hid (HIN.out _ (List.mem_of_getElem? HE.out))
      have HRN := Lib.hid (renum_next zs HE.out)
      have hpz : (p : Int) < (n : Int) := by omega
      have HD1 := Lib.hid d1
      have HD2 := Lib.hid d2
      obtain ⟨wo, hwo⟩ : ∃ wo, wo = wr := ⟨_, rfl⟩
      have HOW : Hid (OwnG layE 69 w.heap.size wo A1 p c1 (renum (l.take p) zs)) := by rw [hwo]; exact Lib.hid hown
      have HBO : Hid (Below w.heap.size w wo) := by rw [hwo]; exact Lib.hid hbw
      clear HE hown d1 d2 hbw
      subst hwo
      go_wp2
      go_loopw [5, 7] (fun v i wr => StRi w l zs p m s f v i wr) (fun _ i _ => m - (intOf i).toNat)
      case atStart => exact ⟨0, A1, p, c1, by omega, rfl, rfl, by omega, by rw [upto_zero, List.append_nil]; exact HOW.out, HBO.out⟩
      case round =>
        obtain ⟨k, A2, n2, c2, hk, rfl, rfl, hn2, hown, hbw⟩ := hrel
        have hsw := hbw.size
        have d1 : wr.cell? ⟨b, o + p * 2, none⟩ = some (.string (ba s)) := (hbw.cell (p := ⟨b, o + p * 2, none⟩) hblt).trans HD1.out
        have d2 : wr.cell? ⟨b, o + p * 2 + 1, none⟩ = some (.int .i64 f) := (hbw.cell (p := ⟨b, o + p * 2 + 1, none⟩) hblt).trans HD2.out
        by_cases hkm : k < m
        · obtain ⟨b2, o2, z, hzk, rfl, hze, g1⟩ := ints_at (hz.below hbw) hkm
          have hkz : (k : Int) < (m : Int) := by omega
          by_cases he : z = f
          · have H : Hid (upto zs s f (k + 1) = upto zs s f k ++ [(s, (k : Int))]) := upto_hit HD.out hzk (hze.trans he)
            have hb : (z == f) = true := by simpa using he
            clear he hze
            go_wp2_with fail
            go_quiet (fail)
            rename_i nq
            obtain ⟨wq, hwq⟩ : ∃ wq, wq = wr.drewN nq := ⟨_, rfl⟩
            have hbq : Below wr.heap.size wr wq := by rw [hwq]; exact below_drewN (Below.refl _ _) nq
            have e1 : wq.cell? ⟨b, o + p * 2, none⟩ = some (.string (ba s)) := by rw [hwq]; exact d1
            have hownq := hown.below hbq
            have hlit := litRE 69 wq s (k : Int)
            have hba := alloc_more wq (.cells #[.string (ba s), .int .i64 (k : Int)] 69)
            have hzq : w.heap.size ≤ wq.heap.size := Nat.le_trans hsw hbq.size
            rw [← hwq]
            clear hwq d1 d2 g1
            go_wp2_with (at_builtin; refine wpList_appG rentP (by decide) (by decide) (by kernel_rfl) rfl (.tmp 30) (.tmp 38) rfl rfl (hownq.below hba) rfl hlit (by omega) (by simp; omega) ?_; intro A5 c5 w5 happ)
            go_roundw
            case rel => exact ⟨k + 1, A5, n2 + 1, c5, by omega, by go_num, rfl, by omega, by rw [H.out, ← List.append_assoc]; exact happ.1, (hbw.trans (hbq.mono hsw)).trans ((hba.mono hzq).trans happ.2.1)⟩
            case measure => simp [intOf]; omega
          · have H : Hid (upto zs s f (k + 1) = upto zs s f k) := upto_no hzk (fun q => he (hze.symm.trans q))
            have hb : (z == f) = false := by simpa using he
            clear he hze
            go_wp2_with fail
            go_quiet (fail)
            go_wp2
            go_roundw
            case rel => exact ⟨k + 1, A2, n2, c2, by omega, by go_num, rfl, by omega, by rw [H.out]; exact hown, below_drewN hbw _⟩
            case measure => simp [intOf]; omega
        · obtain rfl : k = m := by omega
          have H : Hid (renum (l.take (p + 1)) zs = renum (l.take p) zs ++ upto zs s f k) := by show _ = _; rw [HRN.out, upto_all HM.out (Nat.le_of_eq HZL.out)]
          rw [← H.out] at hown
          have hnn : n2 = p + 1 := by
            have e := hown.len
            rw [renum, List.length_map, List.length_take] at e
            have := hl.out
            omega
          subst hnn
          go_wp2
          go_roundw
          case rel => exact ⟨p + 1, A2, c2, by omega, by go_num, rfl, hown, hbw⟩
          case measure => simp [intOf]; omega
    · obtain rfl : p = n := by omega
      rw [List.take_of_length_le (Nat.le_of_eq hl.out)] at hown
      go_wp2
      go_ret
      exact ⟨A1, p, c1, rfl, hown, hbw⟩
end Go.Proofs.Ytoifdjpflannlaa.Dw
