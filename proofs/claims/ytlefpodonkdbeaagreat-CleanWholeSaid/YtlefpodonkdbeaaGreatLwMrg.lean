/- slices.symMergeCmpFunc on a row of leases, where one of the two sorted parts is one lease: it is put in its place. For all rows. -/
import Derived.Test.YtlefpodonkdbeaaGreatLwA
set_option maxRecDepth 8000
namespace Go.Proofs.YtlefpodonkdbeaaGreat.Lw
open Go.RowKit Go.Lib Co By Ky Rc Jn Ew Jw
open Dw (ba ba_size ba_data ba_list)
open Go.Sort (grow)

theorem ret_i64 {a b : Int} (h : a = b) : Value.int .i64 a = Value.int .i64 b := by rw [h]
/-! ### A search by halves -/
theorem take_lt {t : List L} (ht : Sb.Ord adr t) {h : Nat} (hh : h < t.length) {v : Int} (hv : (t[h]).addr < v) : ∀ q ∈ t.take (h + 1), q.addr < v :=
  Sb.take_all fun k hk hkh => by
    have := ht.get (i := k) (j := h) (by omega) hh
    exact Int.lt_of_le_of_lt this hv
theorem take_le {t : List L} (ht : Sb.Ord adr t) {h : Nat} (hh : h < t.length) {v : Int} (hv : (t[h]).addr ≤ v) : ∀ q ∈ t.take (h + 1), q.addr ≤ v :=
  Sb.take_all fun k hk hkh => by
    have := ht.get (i := k) (j := h) (by omega) hh
    exact Int.le_trans this hv
theorem drop_le {t : List L} (ht : Sb.Ord adr t) {h : Nat} {v : Int} (hh : h < t.length) (hv : v ≤ (t[h]).addr) : ∀ q ∈ t.drop h, v ≤ q.addr :=
  Sb.drop_all fun k hk hkh => by
    have := ht.get (i := h) (j := k) hkh hk
    exact Int.le_trans hv this
theorem drop_lt {t : List L} (ht : Sb.Ord adr t) {h : Nat} {v : Int} (hh : h < t.length) (hv : v < (t[h]).addr) : ∀ q ∈ t.drop h, v < q.addr :=
  Sb.drop_all fun k hk hkh => by
    have := ht.get (i := h) (j := k) hkh hk
    exact Int.lt_of_lt_of_le hv this
/-- The middle, as the program reckons it. -/
theorem half_nat (k : Nat) : k >>> 1 = k / 2 := by rw [Nat.shiftRight_eq_div_pow]

theorem get_ahead {x t y : List L} {e : L} {a h : Nat} (ha : x.length = a) (hh : h < t.length) : ∃ q, t[h] = q ∧ (x ++ e :: (t ++ y))[a]? = some e ∧ (x ++ e :: (t ++ y))[a + 1 + h]? = some q :=
  ⟨_, rfl, get_mid ha, by
    rw [List.getElem?_append_right (by omega), show a + 1 + h - x.length = h + 1 by omega, List.getElem?_cons_succ, List.getElem?_append_left hh, List.getElem?_eq_getElem hh]⟩
/-- What a test by the comparison wants of memory: two leases of the row, in whatever world behind draws and new blocks. -/
structure Two (w : World) (g p q : Nat) (a b : L) : Prop where
  c : ∀ k os, ((grow (w.drewN k) os).cell? ⟨g, p, none⟩ = some (.int .i64 a.addr) ∧ (grow (w.drewN k) os).cell? ⟨g, p + 1, none⟩ = some (.int .i64 a.state) ∧ (grow (w.drewN k) os).cell? ⟨g, p + 2, none⟩ = some (.int .i64 a.till) ∧ (grow (w.drewN k) os).cell? ⟨g, p + 3, none⟩ = some (.string (ba a.key))) ∧
    ((grow (w.drewN k) os).cell? ⟨g, q, none⟩ = some (.int .i64 b.addr) ∧ (grow (w.drewN k) os).cell? ⟨g, q + 1, none⟩ = some (.int .i64 b.state) ∧ (grow (w.drewN k) os).cell? ⟨g, q + 2, none⟩ = some (.int .i64 b.till) ∧ (grow (w.drewN k) os).cell? ⟨g, q + 3, none⟩ = some (.string (ba b.key)))
theorem Sw.two {w0 W : World} {g o n : Nat} {l : List L} (h : Sw w0 g o l W) (R : Rw w0 g o n) (hl : l.length = n) {i j : Nat} {a b : L} (ha : l[i]? = some a) (hb : l[j]? = some b) : Two W g (o + i * 4) (o + j * 4) a b :=
  ⟨fun k os => ⟨((h.grown k os).cells R hl ha).1, ((h.grown k os).cells R hl hb).1⟩⟩

/-! ### One lease ahead of a sorted part -/
def StA (w0 : World) (g o m : Nat) (x t y : List L) (e : L) (v10 v11 : Value) (wr : World) : Prop :=
  ∃ i j : Nat, v10 = .int .i64 ((m + i : Nat) : Int) ∧ v11 = .int .i64 ((m + j : Nat) : Int) ∧ i ≤ j ∧ j ≤ t.length ∧ Hid ((∀ q ∈ t.take i, q.addr < e.addr) ∧ (∀ q ∈ t.drop j, e.addr ≤ q.addr)) ∧ Hid (Sw w0 g o (x ++ e :: (t ++ y)) wr)
theorem atU_get {A T : List L} {e : L} {a k : Nat} (ha : A.length = a) (hk : k < T.length) : ∃ p, (Sb.atU A T e k)[a + k]? = some e ∧ (Sb.atU A T e k)[a + k + 1]? = some p := by
  refine ⟨T[k], ?_, ?_⟩
  · unfold Sb.atU
    rw [← List.append_assoc]
    exact get_mid (by rw [List.length_append, List.length_take]; omega)
  · unfold Sb.atU
    rw [List.drop_eq_getElem_cons hk, show A ++ (T.take k ++ e :: T[k] :: T.drop (k + 1)) = (A ++ (T.take k ++ [e])) ++ T[k] :: T.drop (k + 1) by simp only [List.append_assoc, List.cons_append, List.nil_append]]
    exact get_mid (by simp; omega)
def StB (w0 : World) (g o a i : Nat) (x T : List L) (e : L) (v13 : Value) (wr : World) : Prop := ∃ k : Nat, v13 = .int .i64 ((a + k : Nat) : Int) ∧ k ≤ i ∧ Sw w0 g o (Sb.atU x T e k) wr
set_option maxHeartbeats 4000000 in
theorem merge_ahead {w0 : World} {g o n : Nat} (R : Rw w0 g o n) (c a m b : Nat) (x t y : List L) (e : L) (W : World) (hl : (x ++ e :: (t ++ y)).length = n) (ha : x.length = a) (hm : a + 1 = m) (hb : m + t.length = b) (ht : Sb.Ord adr t) (hS : Sw w0 g o (x ++ e :: (t ++ y)) W) :
    Calls Tryz.prog 99 #[.slice (some ⟨g, o, none⟩) n c, .int .i64 a, .int .i64 m, .int .i64 b, .func (.func 25) #[] #[]] W fun e' w' => e' = .returned (.tuple #[]) ∧ Sw w0 g o (x ++ (srt (e :: t) ++ y)) w' := by
  have hn := R.lt
  have hlen : a + (1 + (t.length + y.length)) = n := by rw [← hl]; simp [ha]; omega
  have hbn : b ≤ n := by omega
  have HS := Lib.hid hS
  have HR := Lib.hid R
  have HA := Lib.hid ha
  have HB := Lib.hid hb
  have HN := Lib.hid hl
  have HT := Lib.hid ht
  obtain ⟨tl, htl⟩ : ∃ tl, tl = t.length := ⟨_, rfl⟩
  have HTL := Lib.hid htl
  have hmn : m ≤ n := by omega
  have han : (a : Int) < (n : Int) := by omega
  have HBE : Hid (b = m + tl ∧ a + 1 = m) := ⟨by omega, hm⟩
  have hma : ((m : Int) - (a : Int) == 1) = true := by simp; omega
  clear hS hl R ha hb hlen ht htl hm
  go_enter Tryz.func99, Tryz.ntmps99
  go_wp2
  go_loopw [10, 11] (fun v10 v11 wr => StA w0 g o m x t y e v10 v11 wr) (fun v10 v11 _ => (intOf v11).toNat - (intOf v10).toNat)
  case atStart => exact ⟨0, tl, ret_i64 (by omega), ret_i64 (by have := HBE.out; omega), by omega, by have := HTL.out; omega, ⟨fun q hq => by simp at hq, fun q hq => by rw [HTL.out, List.drop_length] at hq; cases hq⟩, HS.out⟩
  case round =>
    obtain ⟨i, j, rfl, rfl, hij, hjt, HD, HW⟩ := hrel
    by_cases hlt : i < j
    · obtain ⟨I, hI⟩ : ∃ I, I = m + i := ⟨_, rfl⟩
      obtain ⟨J, hJ⟩ : ∃ J, J = m + j := ⟨_, rfl⟩
      obtain ⟨H, hH⟩ : ∃ H, H = (I + J) / 2 := ⟨_, rfl⟩
      obtain ⟨h, hh⟩ : ∃ h, h = H - m := ⟨_, rfl⟩
      have hm := HBE.out.2
      have hhj : i ≤ h ∧ h < j := by omega
      have hHm : a + 1 + h = H := by omega
      have hht : h < t.length := by omega
      obtain ⟨q, hq, hgA, hgH⟩ := get_ahead (y := y) (e := e) HA.out hht
      rw [hHm] at hgH
      have two := HW.out.two HR.out HN.out hgH hgA
      have HL : Hid (q.addr < e.addr → ∀ r ∈ t.take (h + 1), r.addr < e.addr) := fun hv => take_lt HT.out hht (by rw [hq]; exact hv)
      have HG : Hid (¬ q.addr < e.addr → ∀ r ∈ t.drop h, e.addr ≤ r.addr) := fun hv => drop_le HT.out hht (by rw [hq]; omega)
      have HI : Hid (I = m + i ∧ J = m + j ∧ H = m + h ∧ i ≤ h ∧ h < j ∧ h < t.length ∧ j ≤ t.length ∧ i ≤ j) := ⟨hI, hJ, by omega, hhj.1, hhj.2, hht, hjt, hij⟩
      have hIJ : (I : Int) < (J : Int) := by omega
      have hJn : J ≤ n := by have := HTL.out; have := HBE.out; omega
      have eH : ((I : Int) + (J : Int)) / 2 = (H : Int) := by omega
      have hHn : (H : Int) < (n : Int) := by omega
      have mixed : Tryz.prog.follows Departure.mixedOrders = true := by kernel_rfl
      have a0 := fun k os => (two.c k os).1.1
      have a1 := fun k os => (two.c k os).1.2.1
      have a2 := fun k os => (two.c k os).1.2.2.1
      have a3 := fun k os => (two.c k os).1.2.2.2
      have b0 := fun k os => (two.c k os).2.1
      have b1 := fun k os => (two.c k os).2.2.1
      have b2 := fun k os => (two.c k os).2.2.2.1
      have b3 := fun k os => (two.c k os).2.2.2.2
      have hcg := fun k os => less_any q e (grow (wr.drewN k) os)
      rw [← hI, ← hJ]
      clear hI hJ hH hh hhj hHm hht hgA hgH hq two hij hjt hlt hm
      by_cases hlv : cmpI q.addr e.addr < 0
      · have HLV := Lib.hid (HL.out (cmp_less.1 hlv))
        go_wp2_with fail
        go_quiet_grown (first | (refine Calls.grown_of (hcg _ _)))
        go_wp2
        go_roundw
        case rel =>
          obtain ⟨e1, e2, e3, e4, e5, e6, e7, e8⟩ := HI.out
          exact ⟨h + 1, j, ret_i64 (by omega), ret_i64 (by omega), by omega, by omega, ⟨HLV.out, HD.out.2⟩, HW.out.grown nq osq⟩
        case measure =>
          obtain ⟨e1, e2, e3, e4, e5, e6, e7, e8⟩ := HI.out
          simp only [intOf]
          omega
      · have HLV := Lib.hid (HG.out (fun hv => hlv (cmp_less.2 hv)))
        have hlv0 : ¬ cmpI q.addr e.addr < 0 := hlv
        go_wp2_with fail
        go_quiet_grown (first | (refine Calls.grown_of (hcg _ _)))
        go_wp2
        go_roundw
        case rel =>
          obtain ⟨e1, e2, e3, e4, e5, e6, e7, e8⟩ := HI.out
          exact ⟨i, h, ret_i64 (by omega), ret_i64 (by omega), by omega, by omega, ⟨HD.out.1, HLV.out⟩, HW.out.grown nq osq⟩
        case measure =>
          obtain ⟨e1, e2, e3, e4, e5, e6, e7, e8⟩ := HI.out
          simp only [intOf]
          omega
    · obtain rfl : i = j := by omega
      obtain ⟨I, hI⟩ : ∃ I, I = m + i := ⟨_, rfl⟩
      have HI : Hid (I = m + i ∧ i ≤ t.length) := ⟨hI, hjt⟩
      have hIn : I ≤ n := by have := HTL.out; have := HBE.out; omega
      have hII : ¬ (I : Int) < (I : Int) := by omega
      rw [← hI]
      clear hI hjt hij hlt
      go_wp2
      go_loopw [13] (fun v13 wr2 => StB w0 g o a i x (t ++ y) e v13 wr2) (fun v13 _ => I - (intOf v13).toNat)
      case atStart => exact ⟨0, ret_i64 (by omega), by omega, HW.out⟩
      case round =>
        obtain ⟨k, rfl, hk, hs⟩ := hrel
        by_cases hlt : k < i
        · have hkt : k < (t ++ y).length := by have := HI.out; rw [List.length_append]; omega
          obtain ⟨p, hp1, hp2⟩ := atU_get (A := x) (e := e) HA.out hkt
          have hml : (Sb.atU x (t ++ y) e k).length = n := by
            rw [Sb.atU_len]
            have := HN.out
            simp only [List.length_append, List.length_cons] at this ⊢
            omega
          have hsw := hs.swapped HR.out (a + k) (a + k + 1) hp1 hp2
          rw [Sb.atU_step x (t ++ y) e k (a + k) hkt (by rw [HA.out])] at hsw
          have HSW := Lib.hid hsw
          obtain ⟨⟨a0, a1, a2, a3⟩, f0, f1, f2, f3⟩ := hs.cells HR.out hml hp1
          obtain ⟨⟨b0, b1, b2, b3⟩, j0, j1, j2, j3⟩ := hs.cells HR.out hml hp2
          obtain ⟨T, hT⟩ : ∃ T, T = a + k := ⟨_, rfl⟩
          rw [← hT] at a0 a1 a2 a3 f0 f1 f2 f3 b0 b1 b2 b3 j0 j1 j2 j3 HSW ⊢
          have HTK : Hid (T = a + k ∧ k < i ∧ I = a + 1 + i) := ⟨hT, hlt, by have := HI.out; have := HBE.out; omega⟩
          have hTI : (T : Int) < (I : Int) - 1 := by have := HTK.out; omega
          have hTn : T + 1 < n := by have := HTK.out; omega
          clear hs hsw hml hp1 hp2 hkt hT hk hlt
          go_wp2_with fail
          go_region
          go_wp2
          go_roundw
          case rel =>
            have := HTK.out
            exact ⟨k + 1, ret_i64 (by omega), by omega, HSW.out⟩
          case measure =>
            have := HTK.out
            simp only [intOf]
            omega
        · obtain rfl : k = i := by omega
          have hTI : ¬ ((a + k : Nat) : Int) < (I : Int) - 1 := by have := HI.out; have := HBE.out; omega
          obtain ⟨T, hT⟩ : ∃ T, T = a + k := ⟨_, rfl⟩
          have hTn : T < n := by have := HI.out; have := HBE.out; omega
          rw [← hT] at hTI ⊢
          clear hT hlt hk
          go_wp2
          refine bodyPost_ret (results_none rfl _ _ _) rfl ?_
          refine ⟨rfl, ?_⟩
          have e1 := Sb.put_ahead HT.out k HD.out.1 HD.out.2
          have e2 := HI.out.2
          show Sw w0 g o (x ++ (Sb.srt adr (e :: t) ++ y)) _
          rw [← e1]
          unfold Sb.atU at hs
          rw [List.take_append_of_le_length e2, List.drop_append_of_le_length e2] at hs
          simpa using hs

/-! ### One lease behind a sorted part -/
def StC (w0 : World) (g o a : Nat) (x s y : List L) (e : L) (v14 v15 : Value) (wr : World) : Prop :=
  ∃ i j : Nat, v14 = .int .i64 ((a + i : Nat) : Int) ∧ v15 = .int .i64 ((a + j : Nat) : Int) ∧ i ≤ j ∧ j ≤ s.length ∧ Hid ((∀ q ∈ s.take i, q.addr ≤ e.addr) ∧ (∀ q ∈ s.drop j, e.addr < q.addr)) ∧ Hid (Sw w0 g o (x ++ (s ++ e :: y)) wr)
theorem get_behind {x s y : List L} {e : L} {a h m : Nat} (ha : x.length = a) (hm : a + s.length = m) (hh : h < s.length) : ∃ q, s[h] = q ∧ (x ++ (s ++ e :: y))[m]? = some e ∧ (x ++ (s ++ e :: y))[a + h]? = some q :=
  ⟨_, rfl, by rw [← List.append_assoc]; exact get_mid (by rw [List.length_append]; omega), by
    rw [List.getElem?_append_right (by omega), show a + h - x.length = h by omega, List.getElem?_append_left hh, List.getElem?_eq_getElem hh]⟩
def StE (w0 : World) (g o a i : Nat) (x s y : List L) (e : L) (v17 : Value) (wr : World) : Prop := ∃ k : Nat, v17 = .int .i64 ((a + k : Nat) : Int) ∧ i ≤ k ∧ k ≤ s.length ∧ Sw w0 g o (Sb.atD (x ++ s) y e (a + k)) wr
set_option maxHeartbeats 4000000 in
theorem merge_behind {w0 : World} {g o n : Nat} (R : Rw w0 g o n) (c a m b : Nat) (x s y : List L) (e : L) (W : World) (hl : (x ++ (s ++ e :: y)).length = n) (ha : x.length = a) (hm : a + s.length = m) (h2 : 2 ≤ s.length) (hb : m + 1 = b) (hs : Sb.Ord adr s) (hS : Sw w0 g o (x ++ (s ++ e :: y)) W) :
    Calls Tryz.prog 99 #[.slice (some ⟨g, o, none⟩) n c, .int .i64 a, .int .i64 m, .int .i64 b, .func (.func 25) #[] #[]] W fun e' w' => e' = .returned (.tuple #[]) ∧ Sw w0 g o (x ++ (srt (s ++ [e]) ++ y)) w' := by
  have hn := R.lt
  have hlen : a + (s.length + (1 + y.length)) = n := by rw [← hl]; simp [ha]; omega
  have hbn : b ≤ n := by omega
  have HS := Lib.hid hS
  have HR := Lib.hid R
  have HA := Lib.hid ha
  have HN := Lib.hid hl
  have HT := Lib.hid hs
  have hmn : (m : Int) < (n : Int) := by omega
  have han : (a : Int) < (n : Int) := by omega
  have HBE : Hid (b = m + 1 ∧ a + s.length = m ∧ 2 ≤ s.length) := ⟨by omega, hm, h2⟩
  have hma : ((m : Int) - (a : Int) == 1) = false := by simp; omega
  have hbm : ((b : Int) - (m : Int) == 1) = true := by simp; omega
  clear hS hl R ha hb hlen hs hm h2
  go_enter Tryz.func99, Tryz.ntmps99
  go_wp2
  go_loopw [14, 15] (fun v14 v15 wr => StC w0 g o a x s y e v14 v15 wr) (fun v14 v15 _ => (intOf v15).toNat - (intOf v14).toNat)
  case atStart => exact ⟨0, s.length, ret_i64 (by omega), ret_i64 (by have := HBE.out; omega), by omega, by omega, ⟨fun q hq => by simp at hq, fun q hq => by rw [List.drop_length] at hq; cases hq⟩, HS.out⟩
  case round =>
    obtain ⟨i, j, rfl, rfl, hij, hjt, HD, HW⟩ := hrel
    by_cases hlt : i < j
    · obtain ⟨I, hI⟩ : ∃ I, I = a + i := ⟨_, rfl⟩
      obtain ⟨J, hJ⟩ : ∃ J, J = a + j := ⟨_, rfl⟩
      obtain ⟨H, hH⟩ : ∃ H, H = (I + J) / 2 := ⟨_, rfl⟩
      obtain ⟨h, hh⟩ : ∃ h, h = H - a := ⟨_, rfl⟩
      have hm := HBE.out.2.1
      have hhj : i ≤ h ∧ h < j := by omega
      have hHm : a + h = H := by omega
      have hht : h < s.length := by omega
      obtain ⟨q, hq, hgM, hgH⟩ := get_behind (y := y) (e := e) HA.out hm hht
      rw [hHm] at hgH
      have two := HW.out.two HR.out HN.out hgM hgH
      have HL : Hid (¬ e.addr < q.addr → ∀ r ∈ s.take (h + 1), r.addr ≤ e.addr) := fun hv => take_le HT.out hht (by rw [hq]; omega)
      have HG : Hid (e.addr < q.addr → ∀ r ∈ s.drop h, e.addr < r.addr) := fun hv => drop_lt HT.out hht (by rw [hq]; exact hv)
      have HI : Hid (I = a + i ∧ J = a + j ∧ H = a + h ∧ i ≤ h ∧ h < j ∧ h < s.length ∧ j ≤ s.length ∧ i ≤ j) := ⟨hI, hJ, by omega, hhj.1, hhj.2, hht, hjt, hij⟩
      have hIJ : (I : Int) < (J : Int) := by omega
      have hJn : J ≤ n := by have := HBE.out; omega
      have eH : ((I : Int) + (J : Int)) / 2 = (H : Int) := by omega
      have hHn : (H : Int) < (n : Int) := by omega
      have mixed : Tryz.prog.follows Departure.mixedOrders = true := by kernel_rfl
      have a0 := fun k os => (two.c k os).1.1
      have a1 := fun k os => (two.c k os).1.2.1
      have a2 := fun k os => (two.c k os).1.2.2.1
      have a3 := fun k os => (two.c k os).1.2.2.2
      have b0 := fun k os => (two.c k os).2.1
      have b1 := fun k os => (two.c k os).2.2.1
      have b2 := fun k os => (two.c k os).2.2.2.1
      have b3 := fun k os => (two.c k os).2.2.2.2
      have hcg := fun k os => less_any e q (grow (wr.drewN k) os)
      rw [← hI, ← hJ]
      clear hI hJ hH hh hhj hHm hht hgM hgH hq two hij hjt hlt hm
      by_cases hlv : cmpI e.addr q.addr < 0
      · have HLV := Lib.hid (HG.out (cmp_less.1 hlv))
        go_wp2_with fail
        go_quiet_grown (first | (refine Calls.grown_of (hcg _ _)))
        go_wp2
        go_roundw
        case rel =>
          obtain ⟨e1, e2, e3, e4, e5, e6, e7, e8⟩ := HI.out
          exact ⟨i, h, ret_i64 (by omega), ret_i64 (by omega), by omega, by omega, ⟨HD.out.1, HLV.out⟩, HW.out.grown nq osq⟩
        case measure =>
          obtain ⟨e1, e2, e3, e4, e5, e6, e7, e8⟩ := HI.out
          simp only [intOf]
          omega
      · have HLV := Lib.hid (HL.out (fun hv => hlv (cmp_less.2 hv)))
        have hlv0 : decide (cmpI e.addr q.addr < 0) = false := decide_eq_false hlv
        clear hlv
        go_wp2_with fail
        go_quiet_grown (first | (refine Calls.grown_of (hcg _ _)))
        go_wp2
        go_roundw
        case rel =>
          obtain ⟨e1, e2, e3, e4, e5, e6, e7, e8⟩ := HI.out
          exact ⟨h + 1, j, ret_i64 (by omega), ret_i64 (by omega), by omega, by omega, ⟨HLV.out, HD.out.2⟩, HW.out.grown nq osq⟩
        case measure =>
          obtain ⟨e1, e2, e3, e4, e5, e6, e7, e8⟩ := HI.out
          simp only [intOf]
          omega
    · obtain rfl : i = j := by omega
      obtain ⟨I, hI⟩ : ∃ I, I = a + i := ⟨_, rfl⟩
      have HI : Hid (I = a + i ∧ i ≤ s.length) := ⟨hI, hjt⟩
      have hIn : I ≤ n := by have := HBE.out; omega
      have hII : ¬ (I : Int) < (I : Int) := by omega
      rw [← hI]
      clear hI hjt hij hlt
      go_wp2
      go_loopw [17] (fun v17 wr2 => StE w0 g o a i x s y e v17 wr2) (fun v17 _ => (intOf v17).toNat)
      case atStart =>
        have e1 := HBE.out
        have e2 := HI.out
        refine ⟨s.length, ret_i64 (by omega), by omega, by omega, ?_⟩
        rw [show a + s.length = (x ++ s).length by rw [List.length_append, HA.out], Sb.atD_all, List.append_assoc]
        exact HW.out
      case round =>
        obtain ⟨k, rfl, hk, hks, hs⟩ := hrel
        by_cases hlt : i < k
        · obtain ⟨k, rfl⟩ : ∃ k', k = k' + 1 := ⟨k - 1, by omega⟩
          have hjP : a + k + 1 ≤ (x ++ s).length := by have := HA.out; rw [List.length_append]; omega
          rw [← Nat.add_assoc] at hs
          obtain ⟨p, _, hpe, hpp⟩ := atD_prev (R := y) (e := e) hjP
          have hml : (Sb.atD (x ++ s) y e (a + k + 1)).length = n := by
            rw [Sb.atD_len _ _ _ _ hjP]
            have := HN.out
            simp only [List.length_append, List.length_cons] at this ⊢
            omega
          have hsw := hs.swapped HR.out (a + k + 1) (a + k) hpe hpp
          rw [Sb.atD_step _ _ _ _ hjP] at hsw
          have HSW := Lib.hid hsw
          obtain ⟨⟨a0, a1, a2, a3⟩, f0, f1, f2, f3⟩ := hs.cells HR.out hml hpe
          obtain ⟨⟨b0, b1, b2, b3⟩, j0, j1, j2, j3⟩ := hs.cells HR.out hml hpp
          obtain ⟨T, hT⟩ : ∃ T, T = a + k := ⟨_, rfl⟩
          have ec : ((a + (k + 1) : Nat) : Int) = (T : Int) + 1 := by omega
          rw [ec]
          rw [← hT] at a0 a1 a2 a3 f0 f1 f2 f3 b0 b1 b2 b3 j0 j1 j2 j3 HSW
          have HTK : Hid (T = a + k ∧ i < k + 1 ∧ I = a + i ∧ k + 1 ≤ s.length) := ⟨hT, hlt, HI.out.1, hks⟩
          have hTI : (T : Int) + 1 > (I : Int) := by have := HTK.out; omega
          have hTn : T + 1 < n := by have := HTK.out; have := HBE.out; omega
          have p0 : (0 : Int) ≤ (T : Int) + 1 := by omega
          have e0 : ((T : Int) + 1).toNat = T + 1 := by omega
          have hwp : IntKind.i64.wrap (T : Int) = (T : Int) := by rw [IntKind.wrap_i64]; omega
          clear hs hsw hml hpe hpp hjP hT hk hks hlt ec
          go_wp2_with fail
          go_region
          go_wp2
          go_roundw
          case rel =>
            have q1 := HTK.out
            refine ⟨k, ret_i64 (by omega), by omega, by omega, ?_⟩
            rw [← q1.1]
            exact HSW.out
          case measure =>
            have := HTK.out
            simp only [intOf]
            omega
        · obtain rfl : k = i := by omega
          have hTI : ¬ ((a + k : Nat) : Int) > (I : Int) := by have := HI.out; omega
          obtain ⟨T, hT⟩ : ∃ T, T = a + k := ⟨_, rfl⟩
          have hTn : T < n := by have := HI.out; have := HBE.out; omega
          rw [← hT] at hTI ⊢
          clear hlt hk
          have HTT := Lib.hid hT
          clear hT
          go_wp2
          refine bodyPost_ret (results_none rfl _ _ _) rfl ?_
          refine ⟨rfl, ?_⟩
          have e1 := Sb.put_behind HT.out k HD.out.1 HD.out.2
          show Sw w0 g o (x ++ (Sb.srt adr (s ++ [e]) ++ y)) _
          rw [← e1]
          rw [show a = x.length from HA.out.symm, atD_split] at hs
          simpa using hs
end Go.Proofs.YtlefpodonkdbeaaGreat.Lw
