/- Words for a row of leases that is sorted where it lies: every world that the sort passes through, what is loaded and stored there; and the comparison by address. For all leases. -/
import Derived.Test.YtlefpodonkdbeaaGreatJwKit
import Derived.Test.YtlefpodonkdbeaaGreatMathA
import Derived.Shelf.SlSortCmp.KitK
import Derived.BigRegion
import Derived.Deep.LoopGhost
section
set_option maxRecDepth 8000
namespace Go.Proofs.YtlefpodonkdbeaaGreat.Lw
open Go.RowKit Go.Lib Co By Ky Rc Jn Ew Jw
open Dw (ba ba_size ba_data ba_list)
open Go.Sort (grow)

instance : Inhabited L := ⟨zeroL⟩
/-- W is a world of the sort's: its base is the world w0, and the row in the block g, from o on, holds l. -/
abbrev Sw (w0 : World) (g o : Nat) (l : List L) (W : World) : Prop := SWK layL.cs 4 w0 g o l.toArray W
/-- What the sort is told of the row, once: n leases. -/
structure Rw (w0 : World) (g o n : Nat) : Prop where
  row : ∃ d0 : List L, d0.length = n ∧ RowK layL.cs 4 w0 g o d0.toArray
  lt : n < 1000000
section
variable {w0 W : World} {g o n : Nat} {l : List L}
theorem Rw.blk (R : Rw w0 g o n) : g < w0.heap.size := by
  obtain ⟨_, _, h⟩ := R.row
  exact h.hblk
theorem Sw.cells (h : Sw w0 g o l W) (R : Rw w0 g o n) (hl : l.length = n) {i : Nat} {a : L} (ha : l[i]? = some a) :
    (W.cell? ⟨g, o + i * 4, none⟩ = some (.int .i64 a.addr) ∧ W.cell? ⟨g, o + i * 4 + 1, none⟩ = some (.int .i64 a.state) ∧ W.cell? ⟨g, o + i * 4 + 2, none⟩ = some (.int .i64 a.till) ∧ W.cell? ⟨g, o + i * 4 + 3, none⟩ = some (.string (ba a.key))) ∧
    (W.frozen? ⟨g, o + i * 4, none⟩ = false ∧ W.frozen? ⟨g, o + i * 4 + 1, none⟩ = false ∧ W.frozen? ⟨g, o + i * 4 + 2, none⟩ = false ∧ W.frozen? ⟨g, o + i * 4 + 3, none⟩ = false) := by
  obtain ⟨d0, hd, r⟩ := R.row
  have hH := h.holds r.hblk r.hH (by simp [hl, hd])
  obtain ⟨hi, e⟩ := List.getElem?_eq_some_iff.1 ha
  have he : l.toArray[i]! = a := by
    rw [getElem!_pos l.toArray i (by simpa using hi)]
    simpa using e
  have c := fun j (hj : j < 4) => hH.cell (i := i) (c := j) (by simpa using hi) hj
  rw [he] at c
  exact ⟨⟨(c 0 (by omega)).1, (c 1 (by omega)).1, (c 2 (by omega)).1, (c 3 (by omega)).1⟩, (c 0 (by omega)).2, (c 1 (by omega)).2, (c 2 (by omega)).2, (c 3 (by omega)).2⟩
theorem Sw.start {d0 : List L} (h : Go.Sort.HoldsK layL.cs 4 w0 g o d0.toArray) : Sw w0 g o d0 w0 := SWK.start h
theorem Sw.grown (h : Sw w0 g o l W) (k : Nat) (os : Array Obj) : Sw w0 g o l (grow (W.drewN k) os) := SWK.grown h k os
theorem Sw.drew (h : Sw w0 g o l W) : Sw w0 g o l W.drew := SWK.drew h
theorem Sw.size (h : Sw w0 g o l W) : w0.heap.size ≤ W.heap.size := SWK.le h
theorem swp_arr {l : List L} {i j : Nat} {a b : L} (ha : l[i]? = some a) (hb : l[j]? = some b) : Sort.swp l.toArray i j = (Sb.swp l i j).toArray := by
  obtain ⟨hi, ea⟩ := List.getElem?_eq_some_iff.1 ha
  obtain ⟨hj, eb⟩ := List.getElem?_eq_some_iff.1 hb
  unfold Sort.swp
  rw [Sb.swp_eq hi hj, getElem!_pos l.toArray i (by simpa using hi), getElem!_pos l.toArray j (by simpa using hj)]
  simp
/-- Two leases that changed places. -/
def put8 (w : World) (g o i j : Nat) (a b : L) : World := ((((((((w.setCell ⟨g, o + i * 4, none⟩ (.int .i64 a.addr)).setCell ⟨g, o + i * 4 + 1, none⟩ (.int .i64 a.state)).setCell ⟨g, o + i * 4 + 2, none⟩ (.int .i64 a.till)).setCell ⟨g, o + i * 4 + 3, none⟩ (.string (ba a.key))).setCell ⟨g, o + j * 4, none⟩ (.int .i64 b.addr)).setCell ⟨g, o + j * 4 + 1, none⟩ (.int .i64 b.state)).setCell ⟨g, o + j * 4 + 2, none⟩ (.int .i64 b.till)).setCell ⟨g, o + j * 4 + 3, none⟩ (.string (ba b.key)))
theorem Sw.swapped (h : Sw w0 g o l W) (R : Rw w0 g o n) (i j : Nat) {a b : L} (ha : l[i]? = some a) (hb : l[j]? = some b) : Sw w0 g o (Sb.swp l i j) (put8 W g o i j b a).drew := by
  obtain ⟨d0, hd, r⟩ := R.row
  obtain ⟨hi, ea⟩ := List.getElem?_eq_some_iff.1 ha
  obtain ⟨hj, eb⟩ := List.getElem?_eq_some_iff.1 hb
  have k := SWK.swap h r.hk r.hblk i j (by simpa using hi) (by simpa using hj)
  rw [swp_arr ha hb, getElem!_pos l.toArray i (by simpa using hi), getElem!_pos l.toArray j (by simpa using hj)] at k
  have e1 : l.toArray[i]'(by simpa using hi) = a := by simpa using ea
  have e2 : l.toArray[j]'(by simpa using hj) = b := by simpa using eb
  rw [e1, e2] at k
  exact SWK.drew k
end

/-! ### The comparison -/
def cmpI (x y : Int) : Int := if x < y then -1 else if y < x then 1 else 0
theorem isNaN_any (x : Int) (w : World) : Calls Tryz.prog 50 #[.int .i64 x] w fun e w' => e = .returned (.bool false) ∧ w = w' := by
  go_enter Tryz.func50, Tryz.ntmps50
  go_wp2
  go_ret
  exact ⟨by simp, rfl⟩
theorem compare_any (x y : Int) (w : World) : Calls Tryz.prog 26 #[.int .i64 x, .int .i64 y] w fun e w' => e = .returned (.int .i64 (cmpI x y)) ∧ w = w' := by
  have H : Hid (cmpI x y = if x < y then -1 else if y < x then 1 else 0) := rfl
  by_cases h1 : x < y
  · go_enter Tryz.func26, Tryz.ntmps26
    go_wp2_with fail
    refine (isNaN_any x w).mono ?_
    rintro e w1 ⟨rfl, rfl⟩
    go_wp2_with fail
    refine (isNaN_any y w).mono ?_
    rintro e w1 ⟨rfl, rfl⟩
    go_wp2
    go_ret
    exact ⟨ret_int (by rw [H.out, if_pos h1]), rfl⟩
  · by_cases h2 : y < x
    · have h2' : x > y := h2
      go_enter Tryz.func26, Tryz.ntmps26
      go_wp2_with fail
      refine (isNaN_any x w).mono ?_
      rintro e w1 ⟨rfl, rfl⟩
      go_wp2_with fail
      refine (isNaN_any y w).mono ?_
      rintro e w1 ⟨rfl, rfl⟩
      go_wp2
      go_ret
      exact ⟨ret_int (by rw [H.out, if_neg (by omega), if_pos h2]), rfl⟩
    · have h2' : ¬ x > y := h2
      go_enter Tryz.func26, Tryz.ntmps26
      go_wp2_with fail
      refine (isNaN_any x w).mono ?_
      rintro e w1 ⟨rfl, rfl⟩
      go_wp2_with fail
      refine (isNaN_any y w).mono ?_
      rintro e w1 ⟨rfl, rfl⟩
      go_wp2
      go_ret
      exact ⟨ret_int (by rw [H.out, if_neg (by omega), if_neg (by omega)]), rfl⟩
/-- The comparison that clean.Last hands on: two blocks are laid. -/
theorem less_any (x y : L) (w : World) : Calls Tryz.prog 25 #[.agg #[.int .i64 x.addr, .int .i64 x.state, .int .i64 x.till, .string (ba x.key)], .agg #[.int .i64 y.addr, .int .i64 y.state, .int .i64 y.till, .string (ba y.key)]] w
    fun e w' => e = .returned (.int .i64 (cmpI x.addr y.addr)) ∧ ∃ q os', w' = grow (w.drewN q) os' := by
  have hcon := fun w' => compare_any x.addr y.addr w'
  generalize cmpI x.addr y.addr = r at hcon ⊢
  go_enter Tryz.func25, Tryz.ntmps25
  go_wp2_with fail
  refine (hcon _).mono ?_
  rintro e w1 ⟨rfl, rfl⟩
  go_wp2
  go_ret
  exact ⟨rfl, 0, _, by rw [Sort.alloc_eq_grow, Sort.alloc_eq_grow, Sort.grow_grow]; rfl⟩
end Go.Proofs.YtlefpodonkdbeaaGreat.Lw
end
/- slices.Reverse on a row of leases. For all rows. -/
section
set_option maxRecDepth 8000
namespace Go.Proofs.YtlefpodonkdbeaaGreat.Lw
open Go.RowKit Go.Lib Co By Ky Rc Jn Ew Jw
open Dw (ba ba_size ba_data ba_list)
open Go.Sort (grow)

/-- A row that is turned round so far. -/
def Turned (l m : List L) (k : Nat) : Prop := ∃ A M B : List L, l = A ++ (M ++ B) ∧ A.length = k ∧ B.length = k ∧ m = B.reverse ++ (M ++ A.reverse)
theorem Turned.len {l m : List L} {k : Nat} (h : Turned l m k) : m.length = l.length := by
  obtain ⟨A, M, B, rfl, h1, h2, rfl⟩ := h
  simp
  omega
theorem Turned.step {l m : List L} {k n : Nat} (h : Turned l m k) (hn : l.length = n) (hk : k + 1 < n - k) : ∃ a b, m[k]? = some a ∧ m[n - 1 - k]? = some b ∧ Turned l (Sb.swp m k (n - 1 - k)) (k + 1) := by
  obtain ⟨A, M, B, rfl, h1, h2, rfl⟩ := h
  have hM : 2 ≤ M.length := by simp at hn; omega
  obtain ⟨p, M1, rfl⟩ : ∃ p M1, M = p :: M1 := by
    cases M with
    | nil => simp at hM
    | cons p M1 => exact ⟨p, M1, rfl⟩
  obtain ⟨M2, q, rfl⟩ : ∃ M2 q, M1 = M2 ++ [q] := ⟨M1.dropLast, M1.getLast (by intro e; subst e; simp at hM), (List.dropLast_concat_getLast _).symm⟩
  have hj : n - 1 - k = k + 1 + M2.length := by simp at hn; omega
  have e : B.reverse ++ ((p :: (M2 ++ [q])) ++ A.reverse) = B.reverse ++ p :: (M2 ++ q :: A.reverse) := by simp
  rw [e, hj]
  refine ⟨p, q, ?_, ?_, A ++ [p], M2, q :: B, by simp, by simp [h1], by simp [h2], ?_⟩
  · rw [List.getElem?_append_right (by simp [h2]), List.length_reverse, h2, Nat.sub_self]
    rfl
  · rw [List.getElem?_append_right (by simp [h2]; omega), List.length_reverse, h2, show k + 1 + M2.length - k = M2.length + 1 by omega, List.getElem?_cons_succ, List.getElem?_append_right (Nat.le_refl _), Nat.sub_self]
    rfl
  · rw [Sb.swp_two _ _ _ _ _ _ _ (by simp [h2]) rfl]
    simp
theorem Turned.done {l m : List L} {k n : Nat} (h : Turned l m k) (hn : l.length = n) (hk : n - k ≤ k + 1) : m = l.reverse := by
  obtain ⟨A, M, B, rfl, h1, h2, rfl⟩ := h
  have hM : M.length ≤ 1 := by simp at hn; omega
  have e : M.reverse = M := by
    match M, hM with
    | [], _ => rfl
    | [a], _ => rfl
  simp [e]
def StV (w0 : World) (g o n : Nat) (l : List L) (v2 v3 : Value) (wr : World) : Prop :=
  ∃ (k : Nat) (m : List L), v2 = .int .i64 k ∧ v3 = .int .i64 ((n : Int) - 1 - k) ∧ k ≤ n ∧ 2 * k ≤ n + 1 ∧ Turned l m k ∧ Sw w0 g o m wr
set_option maxHeartbeats 2000000 in
theorem reverse_any {w0 : World} {g o n : Nat} (R : Rw w0 g o n) (c : Nat) (l : List L) (W : World) (hl : l.length = n) (hS : Sw w0 g o l W) :
    Calls Tryz.prog 46 #[.slice (some ⟨g, o, none⟩) n c] W fun e w' => e = .returned (.tuple #[]) ∧ Sw w0 g o l.reverse w' := by
  have HL := Lib.hid hl
  have hn := R.lt
  have HS := Lib.hid hS
  have HR := Lib.hid R
  clear hS hl R
  go_enter Tryz.func46, Tryz.ntmps46
  go_wp2
  go_loopw [2, 3] (fun v2 v3 wr => StV w0 g o n l v2 v3 wr) (fun v2 _ _ => n - (intOf v2).toNat)
  case atStart => exact ⟨0, l, rfl, by go_num, by omega, by omega, ⟨[], l, [], by simp, rfl, rfl, by simp⟩, HS.out⟩
  case round =>
    obtain ⟨k, m, rfl, rfl, hk, hk2, ht, hs⟩ := hrel
    have HT := Lib.hid ht
    have hml := ht.len
    by_cases hlt : k + 1 < n - k
    · obtain ⟨a, b, ha, hb, hstep⟩ := ht.step HL.out hlt
      have HA := Lib.hid (hs.swapped HR.out k (n - 1 - k) ha hb)
      have HST := Lib.hid hstep
      obtain ⟨⟨a0, a1, a2, a3⟩, f0, f1, f2, f3⟩ := hs.cells HR.out (by rw [hml]; exact HL.out) ha
      obtain ⟨⟨b0, b1, b2, b3⟩, j0, j1, j2, j3⟩ := hs.cells HR.out (by rw [hml]; exact HL.out) hb
      have hltz : (k : Int) < (n : Int) - 1 - k := by omega
      obtain ⟨j, hj⟩ : ∃ j, j = n - 1 - k := ⟨_, rfl⟩
      have ej : (n : Int) - 1 - k = (j : Int) := by omega
      have hkn : (k : Int) < (n : Int) := by omega
      have hjn : (j : Int) < (n : Int) := by omega
      rw [← hj] at b0 b1 b2 b3 j0 j1 j2 j3 HA HST
      rw [ej] at hltz ⊢
      have hkj : k < j := by omega
      have HJ := Lib.hid hj
      have HE := Lib.hid ej
      clear hj ej ht hs hstep ha hb hlt hml
      go_wp2_with fail
      go_region
      go_wp2
      go_roundw
      case rel =>
        have e1 := HJ.out
        have e2 := HE.out
        exact ⟨k + 1, Sb.swp m k j, by go_num, congrArg (Value.int .i64) (by omega), by omega, by omega, HST.out, HA.out⟩
      case measure => simp [intOf]; omega
    · have hltz : ¬ (k : Int) < (n : Int) - 1 - k := by omega
      go_wp2
      go_end0
      exact ⟨rfl, by rw [← HT.out.done HL.out (by omega)]; exact hs⟩
end Go.Proofs.YtlefpodonkdbeaaGreat.Lw
end
/- slices.swapRangeCmpFunc and rotateCmpFunc on a row of leases: two rows side by side change places. For all rows. -/
section
set_option maxRecDepth 8000
namespace Go.Proofs.YtlefpodonkdbeaaGreat.Lw
open Go.RowKit Go.Lib Co By Ky Rc Jn Ew Jw
open Dw (ba ba_size ba_data ba_list)
open Go.Sort (grow)

theorem get_mid {x : List L} {p : L} {y : List L} {i : Nat} (h : x.length = i) : (x ++ p :: y)[i]? = some p := by
  rw [List.getElem?_append_right (by omega), h, Nat.sub_self]
  rfl
theorem atR_get {x u z v y : List L} {k i a b : Nat} (hu : u.length = k) (hv : v.length = k) (hi : i < k) (ha : x.length = a) (hb : a + k + z.length = b) :
    ∃ p q, (Sb.atR x u z v y i)[a + i]? = some p ∧ (Sb.atR x u z v y i)[b + i]? = some q := by
  have hlen := Sb.atR_len (x := x) (z := z) (y := y) hu hv (Nat.le_of_lt hi)
  exact ⟨_, _, List.getElem?_eq_getElem (by omega), List.getElem?_eq_getElem (by omega)⟩
def StR (w0 : World) (g o k : Nat) (x u z v y : List L) (v10 : Value) (wr : World) : Prop := ∃ i : Nat, i ≤ k ∧ v10 = .int .i64 i ∧ Sw w0 g o (Sb.atR x u z v y i) wr
set_option maxHeartbeats 2000000 in
theorem swapRange_any {w0 : World} {g o n : Nat} (R : Rw w0 g o n) (c a b k : Nat) (cmp : Value) (x u z v y : List L) (W : World) (hl : (x ++ (u ++ (z ++ (v ++ y)))).length = n) (hu : u.length = k) (hv : v.length = k) (ha : x.length = a) (hb : a + k + z.length = b)
    (hS : Sw w0 g o (x ++ (u ++ (z ++ (v ++ y)))) W) :
    Calls Tryz.prog 127 #[.slice (some ⟨g, o, none⟩) n c, .int .i64 a, .int .i64 b, .int .i64 k, cmp] W fun e w' => e = .returned (.tuple #[]) ∧ Sw w0 g o (x ++ (v ++ (z ++ (u ++ y)))) w' := by
  have hlen : x.length + (k + (z.length + (k + y.length))) = n := by rw [← hl]; simp [hu, hv]
  have hn := R.lt
  have HS := Lib.hid hS
  have HR := Lib.hid R
  have HU := Lib.hid hu
  have HV := Lib.hid hv
  have HA := Lib.hid ha
  have HB := Lib.hid hb
  have hab : a + k ≤ b := by omega
  have hbn : b + k ≤ n := by omega
  have HN := Lib.hid hlen
  clear hS hl R hu hv ha hb hlen
  go_enter Tryz.func127, Tryz.ntmps127
  go_wp2
  go_loopw [10] (fun v10 wr => StR w0 g o k x u z v y v10 wr) (fun v10 _ => k - (intOf v10).toNat)
  case atStart => exact ⟨0, by omega, rfl, by rw [Sb.atR_none]; exact HS.out⟩
  case round =>
    obtain ⟨i, hi, rfl, hs⟩ := hrel
    by_cases hlt : i < k
    · obtain ⟨p, q, hp, hq⟩ := atR_get (y := y) HU.out HV.out hlt HA.out HB.out
      have hl2 : (Sb.atR x u z v y i).length = n := by
        rw [Sb.atR_len (x := x) (z := z) (y := y) HU.out HV.out (by omega)]
        have := HN.out
        omega
      have HT := Lib.hid (hs.swapped HR.out (a + i) (b + i) hp hq)
      have HX := Lib.hid (Sb.atR_step (y := y) HU.out HV.out hlt HA.out HB.out)
      obtain ⟨⟨a0, a1, a2, a3⟩, f0, f1, f2, f3⟩ := hs.cells HR.out hl2 hp
      obtain ⟨⟨b0, b1, b2, b3⟩, j0, j1, j2, j3⟩ := hs.cells HR.out hl2 hq
      have hltz : (i : Int) < (k : Int) := by omega
      obtain ⟨s, hs1⟩ : ∃ s, s = a + i := ⟨_, rfl⟩
      obtain ⟨t, ht1⟩ : ∃ t, t = b + i := ⟨_, rfl⟩
      have es : (a : Int) + (i : Int) = (s : Int) := by omega
      have et : (b : Int) + (i : Int) = (t : Int) := by omega
      have hst : s < t := by omega
      have hsn : (s : Int) < (n : Int) := by omega
      have htn : (t : Int) < (n : Int) := by omega
      rw [← hs1] at HT HX a0 a1 a2 a3 f0 f1 f2 f3
      rw [← ht1] at HT HX b0 b1 b2 b3 j0 j1 j2 j3
      clear hs hp hq hl2 hs1 ht1
      go_wp2_with fail
      go_region
      go_wp2
      go_roundw
      case rel =>
        have e1 := HX.out
        refine ⟨i + 1, by omega, by go_num, ?_⟩
        rw [← e1]
        exact HT.out
      case measure => simp [intOf]; omega
    · obtain rfl : i = k := by omega
      have hltz : ¬ (i : Int) < (i : Int) := by omega
      go_wp2
      go_end0
      exact ⟨rfl, by rw [← Sb.atR_all HU.out HV.out]; exact hs⟩
/-- What a turn's loop holds: what is left to turn stands around m. -/
def StT (w0 : World) (g o m : Nat) (T : List L) (v10 v11 : Value) (wr : World) : Prop :=
  ∃ (x U V y : List L), v10 = .int .i64 U.length ∧ v11 = .int .i64 V.length ∧ 0 < U.length ∧ 0 < V.length ∧ x.length + U.length = m ∧ x ++ (V ++ (U ++ y)) = T ∧ Sw w0 g o (x ++ (U ++ (V ++ y))) wr
theorem turn_more {x U V y : List L} {j : Nat} (hj : j = V.length) (h : V.length < U.length) : ∃ U1 U2, U = U1 ++ U2 ∧ U1.length = j ∧ 0 < U2.length ∧ U2.length + j = U.length ∧
    x ++ (U ++ (V ++ y)) = x ++ (U1 ++ (U2 ++ (V ++ y))) ∧ x ++ (V ++ (U2 ++ (U1 ++ y))) = (x ++ V) ++ (U2 ++ (U1 ++ y)) ∧ (x ++ V) ++ (U1 ++ (U2 ++ y)) = x ++ (V ++ (U ++ y)) := by
  refine ⟨U.take j, U.drop j, (List.take_append_drop j U).symm, by rw [List.length_take]; omega, by rw [List.length_drop]; omega, by rw [List.length_drop]; omega, ?_, by simp, ?_⟩
  · rw [← List.append_assoc (U.take j), List.take_append_drop]
  · rw [← List.append_assoc (U.take j), List.take_append_drop, List.append_assoc]
theorem turn_less {x U V y : List L} {i : Nat} (hi : i = U.length) (h : U.length < V.length) : ∃ V1 V2, V = V1 ++ V2 ∧ V2.length = i ∧ 0 < V1.length ∧ V1.length + i = V.length ∧
    x ++ (U ++ (V ++ y)) = x ++ (U ++ (V1 ++ (V2 ++ y))) ∧ x ++ (V2 ++ (V1 ++ (U ++ y))) = x ++ (V2 ++ (V1 ++ (U ++ y))) ∧ x ++ (V1 ++ (V2 ++ (U ++ y))) = x ++ (V ++ (U ++ y)) := by
  refine ⟨V.take (V.length - i), V.drop (V.length - i), (List.take_append_drop _ V).symm, by rw [List.length_drop]; omega, by rw [List.length_take]; omega, by rw [List.length_take]; omega, ?_, rfl, ?_⟩
  · rw [← List.append_assoc (V.take _), List.take_append_drop]
  · rw [← List.append_assoc (V.take _), List.take_append_drop]
set_option maxHeartbeats 2000000 in
theorem rotate_any {w0 : World} {g o n : Nat} (R : Rw w0 g o n) (c a m b : Nat) (cmp : Value) (x u v y : List L) (W : World) (hl : (x ++ (u ++ (v ++ y))).length = n) (ha : x.length = a) (hm : a + u.length = m) (hb : m + v.length = b) (hu : 0 < u.length) (hv : 0 < v.length)
    (hS : Sw w0 g o (x ++ (u ++ (v ++ y))) W) :
    Calls Tryz.prog 120 #[.slice (some ⟨g, o, none⟩) n c, .int .i64 a, .int .i64 m, .int .i64 b, cmp] W fun e w' => e = .returned (.tuple #[]) ∧ Sw w0 g o (x ++ (v ++ (u ++ y))) w' := by
  have hlen : a + (u.length + (v.length + y.length)) = n := by rw [← hl]; simp [ha]
  have hn := R.lt
  have HS := Lib.hid hS
  have HR := Lib.hid R
  have HN := Lib.hid hl
  have hum : (m : Int) - (a : Int) = ((u.length : Nat) : Int) := by omega
  have hvm : (b : Int) - (m : Int) = ((v.length : Nat) : Int) := by omega
  have HLT : Hid (u.length < n ∧ v.length < n ∧ m < n ∧ b ≤ n) := ⟨by omega, by omega, by omega, by omega⟩
  have hmn : m < n := by omega
  obtain ⟨ul, hul⟩ : ∃ ul, ul = u.length := ⟨_, rfl⟩
  obtain ⟨vl, hvl⟩ : ∃ vl, vl = v.length := ⟨_, rfl⟩
  have HUL : Hid (ul = u.length ∧ vl = v.length ∧ x.length + u.length = m ∧ 0 < u.length ∧ 0 < v.length) := ⟨hul, hvl, by omega, hu, hv⟩
  rw [← hul] at hum
  rw [← hvl] at hvm
  have hun : ul < n := by omega
  have hvn : vl < n := by omega
  clear hS hl R hlen hm hb hul hvl hu hv ha
  go_enter Tryz.func120, Tryz.ntmps120
  go_wp2
  go_loopw [10, 11] (fun v10 v11 wr => StT w0 g o m (x ++ (v ++ (u ++ y))) v10 v11 wr) (fun v10 v11 _ => (intOf v10).toNat + (intOf v11).toNat)
  case atStart =>
    obtain ⟨e1, e2, e3, e4, e5⟩ := HUL.out
    exact ⟨x, u, v, y, by rw [← e1], by rw [← e2], e4, e5, e3, rfl, HS.out⟩
  case round =>
    obtain ⟨x', U, V, y', rfl, rfl, hU, hV, hm, hT, hs⟩ := hrel
    have HT := Lib.hid hT
    have hlen : (x' ++ (U ++ (V ++ y'))).length = n := by
      have e1 := HN.out
      have e2 : (x' ++ (V ++ (U ++ y'))).length = (x ++ (v ++ (u ++ y))).length := by rw [HT.out]
      simp only [List.length_append] at e1 e2 ⊢
      omega
    have hlen2 : x'.length + (U.length + (V.length + y'.length)) = n := by rw [← hlen]; simp
    obtain ⟨i, hi⟩ : ∃ i, i = U.length := ⟨_, rfl⟩
    obtain ⟨j, hj⟩ : ∃ j, j = V.length := ⟨_, rfl⟩
    have HI := Lib.hid hi
    have HJ := Lib.hid hj
    have emi : (m : Int) - (i : Int) = ((x'.length : Nat) : Int) := by omega
    rcases Nat.lt_trichotomy U.length V.length with h | h | h
    · obtain ⟨V1, V2, hV12, hl2, hl1, hsum, e1, e2, e3⟩ := turn_less (x := x') (y := y') hi h
      have hcall := swapRange_any HR.out c x'.length (m + V1.length) i cmp x' U V1 V2 y' wr (by rw [← e1]; exact hlen) hi.symm hl2 rfl (by omega) (by rw [← e1]; exact hs)
      have em2 : (m : Int) + (j : Int) - (i : Int) = ((m + V1.length : Nat) : Int) := by omega
      have HC := Lib.hid hcall
      obtain ⟨xl, hxl⟩ : ∃ xl, xl = x'.length := ⟨_, rfl⟩
      obtain ⟨vl1, hvl1⟩ : ∃ vl1, vl1 = V1.length := ⟨_, rfl⟩
      have HV1 : Hid (vl1 = V1.length ∧ vl1 + i = j ∧ 0 < vl1 ∧ V2.length = i ∧ xl = x'.length ∧ xl + i = m ∧ 0 < i) := ⟨hvl1, by omega, by omega, hl2, hxl, by omega, by omega⟩
      have HE := Lib.hid (e3.trans hT)
      have ej : (j : Int) - (i : Int) = (vl1 : Int) := by omega
      have hij : i < j := by omega
      have hijz : ((i : Int) != (j : Int)) = true := by simp; omega
      have hij2 : ¬ (i : Int) > (j : Int) := by omega
      have hin : i < n := by omega
      have hjn : j < n := by omega
      rw [← hxl] at emi HC
      rw [← hvl1] at em2 HC
      rw [← hi, ← hj]
      clear hi hj hcall hs hT hlen hlen2 e1 e2 e3 hV12 hl2 hl1 hsum h hU hV hm hxl hvl1
      go_wp2_with fail
      refine HC.out.mono ?_
      rintro e w1 ⟨rfl, hs1⟩
      have HS1 := Lib.hid hs1
      clear hs1 HC
      go_wp2
      go_roundw
      case rel =>
        obtain ⟨q1, q2, q3, q4, q5, q6, q7⟩ := HV1.out
        exact ⟨x', V2, V1, U ++ y', by rw [q4], by rw [← q1], by omega, by omega, by omega, HE.out, HS1.out⟩
      case measure =>
        have q := HV1.out
        simp only [intOf]
        omega
    · have hij : i = j := by omega
      have hcall := swapRange_any HR.out c x'.length m i cmp x' U [] V y' wr hlen hi.symm (by omega) rfl (by simp; omega) hs
      have HC := Lib.hid hcall
      obtain ⟨xl, hxl⟩ : ∃ xl, xl = x'.length := ⟨_, rfl⟩
      rw [← hxl] at emi HC
      have hijz : ((i : Int) != (i : Int)) = false := by simp
      have hin : i < n := by omega
      rw [← hi, ← hj, ← hij]
      clear hi hj hcall hs hT hlen hlen2 h hU hV hm hxl HI HJ hij
      go_wp2_with fail
      refine HC.out.mono ?_
      rintro e w1 ⟨rfl, hs1⟩
      have HS1 := Lib.hid hs1
      clear hs1 HC
      go_wp2
      go_end0
      exact ⟨rfl, by have := HS1.out; rw [← HT.out]; simpa using this⟩
    · obtain ⟨U1, U2, hU12, hl1, hl2, hsum, e1, e2, e3⟩ := turn_more (x := x') (y := y') hj h
      have hcall := swapRange_any HR.out c x'.length m j cmp x' U1 U2 V y' wr (by rw [← e1]; exact hlen) hl1 hj.symm rfl (by omega) (by rw [← e1]; exact hs)
      have HC := Lib.hid hcall
      obtain ⟨xl, hxl⟩ : ∃ xl, xl = x'.length := ⟨_, rfl⟩
      obtain ⟨ul2, hul2⟩ : ∃ ul2, ul2 = U2.length := ⟨_, rfl⟩
      have HV1 : Hid (ul2 = U2.length ∧ ul2 + j = i ∧ 0 < ul2 ∧ U1.length = j ∧ xl = x'.length ∧ xl + i = m ∧ 0 < j ∧ V.length = j) := ⟨hul2, by omega, by omega, hl1, hxl, by omega, by omega, by omega⟩
      have HE := Lib.hid (e3.trans hT)
      have ej : (i : Int) - (j : Int) = (ul2 : Int) := by omega
      have hij : j < i := by omega
      have hijz : ((i : Int) != (j : Int)) = true := by simp; omega
      have hij2 : (i : Int) > (j : Int) := by omega
      have hin : i < n := by omega
      have hjn : j < n := by omega
      have HE2 := Lib.hid e2
      rw [← hxl] at emi HC
      rw [← hi, ← hj]
      clear hi hj hcall hs hT hlen hlen2 e1 e2 e3 hU12 hl2 hl1 hsum h hU hV hm hxl hul2
      go_wp2_with fail
      refine HC.out.mono ?_
      rintro e w1 ⟨rfl, hs1⟩
      have HS1 := Lib.hid hs1
      clear hs1 HC
      go_wp2
      go_roundw
      case rel =>
        obtain ⟨q1, q2, q3, q4, q5, q6, q7, q8⟩ := HV1.out
        exact ⟨x' ++ V, U2, U1, y', by rw [← q1], by rw [q4], by omega, by omega, by rw [List.length_append]; omega, HE.out, by rw [← HE2.out]; exact HS1.out⟩
      case measure =>
        have q := HV1.out
        simp only [intOf]
        omega
end Go.Proofs.YtlefpodonkdbeaaGreat.Lw
end
/- slices.insertionSortCmpFunc on a row of leases: a part of the row is sorted by address, equals in their order. For all rows. -/
section
set_option maxRecDepth 8000
namespace Go.Proofs.YtlefpodonkdbeaaGreat.Lw
open Go.RowKit Go.Lib Co By Ky Rc Jn Ew Jw
open Dw (ba ba_size ba_data ba_list)
open Go.Sort (grow)

abbrev adr (l : L) : Int := l.addr
abbrev srt (l : List L) : List L := Sb.srt adr l
theorem atD_split (x P R : List L) (e : L) (k : Nat) : Sb.atD (x ++ P) R e (x.length + k) = x ++ (P.take k ++ e :: (P.drop k ++ R)) := by
  unfold Sb.atD
  rw [List.take_append, List.drop_append, List.take_of_length_le (by omega), List.drop_eq_nil_of_le (by omega), Nat.add_sub_cancel_left]
  simp
theorem ins_stop {x P R : List L} {e : L} {k : Nat} (hP : Sb.Ord adr P) (hk : k ≤ P.length) (h1 : ∀ a ∈ P.drop k, e.addr < a.addr) (h2 : ∀ h : 0 < k, (P[k - 1]'(by omega)).addr ≤ e.addr) :
    Sb.atD (x ++ P) R e (x.length + k) = x ++ (srt (P ++ [e]) ++ R) := by
  have e1 := Sb.put_behind hP k (e := e) (fun a ha => by
    obtain ⟨p, hp, rfl⟩ := List.mem_iff_getElem.1 ha
    rw [List.length_take] at hp
    rw [List.getElem_take]
    have k1 := hP.get (i := p) (j := k - 1) (by omega) (by omega)
    have k2 := h2 (by omega)
    show (P[p]).addr ≤ e.addr
    exact Int.le_trans k1 k2) h1
  rw [atD_split x P R e k, show srt (P ++ [e]) = Sb.srt adr (P ++ [e]) from rfl, ← e1]
  simp
theorem srt_next {s : List L} {i : Nat} (h : i < s.length) : srt (srt (s.take i) ++ [s[i]]) = srt (s.take (i + 1)) := by
  have e : srt [s[i]] = [s[i]] := rfl
  have := Sb.srt_two (f := adr) (s.take i) [s[i]]
  rw [show Sb.srt adr [s[i]] = [s[i]] from rfl] at this
  rw [List.take_succ_eq_append_getElem h]
  exact this
theorem cmp_less {x y : Int} : cmpI x y < 0 ↔ x < y := by
  unfold cmpI
  split
  · simp; assumption
  · split <;> simp <;> omega
/-- What the outer loop holds: the first i of the part are sorted. -/
def StO (w0 : World) (g o a : Nat) (x s y : List L) (i : Nat) (wr : World) : Prop := ∃ k : Nat, i = a + k ∧ 1 ≤ k ∧ (k ≤ s.length ∨ k = 1) ∧ Sw w0 g o (x ++ (srt (s.take k) ++ (s.drop k ++ y))) wr
theorem outer_open {w0 : World} {g o a b n i : Nat} {x s y : List L} {wr : World} (h : StO w0 g o a x s y i wr) (ha : x.length = a) (hb : a + s.length = b) (hn : a + (s.length + y.length) = n) (hlt : i < b) :
    ∃ (k : Nat) (P R : List L) (e : L), i = a + k ∧ 1 ≤ k ∧ P.length = k ∧ Sb.Ord adr P ∧ a + k + 1 + R.length = n ∧ Sw w0 g o (Sb.atD (x ++ P) R e (a + k)) wr ∧ (∀ wr', Sw w0 g o (x ++ (srt (P ++ [e]) ++ R)) wr' → StO w0 g o a x s y (i + 1) wr') := by
  obtain ⟨k, rfl, hk1, hk2, hs⟩ := h
  have hks : k < s.length := by omega
  have hPl : (srt (s.take k)).length = k := by rw [Sb.srt_len, List.length_take]; omega
  have hrow : x ++ (srt (s.take k) ++ (s.drop k ++ y)) = Sb.atD (x ++ srt (s.take k)) (s.drop (k + 1) ++ y) s[k] (a + k) := by
    obtain ⟨P, hP⟩ : ∃ P, P = srt (s.take k) := ⟨_, rfl⟩
    rw [← hP] at hPl ⊢
    rw [← ha, atD_split x _ _ _ _, List.take_of_length_le (by omega : P.length ≤ k), List.drop_eq_nil_of_le (by omega : P.length ≤ k), List.drop_eq_getElem_cons hks]
    simp only [List.cons_append, List.nil_append]
  rw [hrow] at hs
  refine ⟨k, srt (s.take k), s.drop (k + 1) ++ y, s[k], rfl, hk1, hPl, Sb.srt_ord _, by rw [List.length_append, List.length_drop]; omega, hs, fun wr' h' => ⟨k + 1, by omega, by omega, .inl (by omega), ?_⟩⟩
  rw [srt_next hks] at h'
  exact h'
theorem StO.drew {w0 : World} {g o a i : Nat} {x s y : List L} {wr : World} (h : StO w0 g o a x s y i wr) : StO w0 g o a x s y i wr.drew := by
  obtain ⟨k, h1, h2, h3, h4⟩ := h
  exact ⟨k, h1, h2, h3, h4.drew⟩
theorem StO.drewN {w0 : World} {g o a i : Nat} {x s y : List L} {wr : World} (h : StO w0 g o a x s y i wr) (q : Nat) : StO w0 g o a x s y i (wr.drewN q) := by
  obtain ⟨k, h1, h2, h3, h4⟩ := h
  exact ⟨k, h1, h2, h3, SWK.drewN h4 q⟩
theorem StO.grown {w0 : World} {g o a i : Nat} {x s y : List L} {wr : World} (h : StO w0 g o a x s y i wr) (q : Nat) (os : Array Obj) : StO w0 g o a x s y i (grow (wr.drewN q) os) := by
  obtain ⟨k, h1, h2, h3, h4⟩ := h
  exact ⟨k, h1, h2, h3, h4.grown q os⟩
theorem outer_done {w0 : World} {g o a b i : Nat} {x s y : List L} {wr : World} (h : StO w0 g o a x s y i wr) (hb : a + s.length = b) (hlt : ¬ i < b) : Sw w0 g o (x ++ (srt s ++ y)) wr := by
  obtain ⟨k, rfl, hk1, hk2, hs⟩ := h
  rw [List.take_of_length_le (by omega), List.drop_eq_nil_of_le (by omega)] at hs
  exact hs
theorem outer_start {w0 : World} {g o a : Nat} {x s y : List L} {wr : World} (h : Sw w0 g o (x ++ (s ++ y)) wr) : StO w0 g o a x s y (a + 1) wr := by
  refine ⟨1, rfl, by omega, .inr rfl, ?_⟩
  have e : srt (s.take 1) = s.take 1 := by
    match s with
    | [] => rfl
    | [_] => rfl
    | _ :: _ :: _ => rfl
  rw [e, ← List.append_assoc (s.take 1), List.take_append_drop]
  exact h
theorem atD_prev {A R : List L} {e : L} {j : Nat} (hj : j + 1 ≤ A.length) : ∃ p, A[j]? = some p ∧ (Sb.atD A R e (j + 1))[j + 1]? = some e ∧ (Sb.atD A R e (j + 1))[j]? = some p :=
  ⟨A[j], List.getElem?_eq_getElem (by omega), Sb.atD_get A R e (j + 1) hj, by rw [Sb.atD_below A R e (j + 1) j (by omega) hj]; exact List.getElem?_eq_getElem (by omega)⟩
set_option maxHeartbeats 4000000 in
theorem insertion_any {w0 : World} {g o n : Nat} (R : Rw w0 g o n) (c a b : Nat) (x s y : List L) (W : World) (hl : (x ++ (s ++ y)).length = n) (ha : x.length = a) (hb : a + s.length = b) (hS : Sw w0 g o (x ++ (s ++ y)) W) :
    Calls Tryz.prog 98 #[.slice (some ⟨g, o, none⟩) n c, .int .i64 a, .int .i64 b, .func (.func 25) #[] #[]] W fun e w' => e = .returned (.tuple #[]) ∧ Sw w0 g o (x ++ (srt s ++ y)) w' := by
  have hn := R.lt
  have hlen : a + (s.length + y.length) = n := by rw [← hl]; simp [ha]
  have hbn : b ≤ n := by omega
  have han : a ≤ n := by omega
  have HS := Lib.hid hS
  have HR := Lib.hid R
  have HA := Lib.hid ha
  have HB := Lib.hid hb
  have HN := Lib.hid hlen
  clear hS hl R ha hb hlen
  go_enter Tryz.func98, Tryz.ntmps98
  go_wp2
  go_loopg [8] (b - a) (fun g1 vi wr => ∃ i : Nat, vi = .int .i64 i ∧ a < i ∧ i ≤ n + 1 ∧ b - i ≤ g1 ∧ Hid (StO w0 g o a x s y i wr))
  case atStart => exact ⟨a + 1, by go_num, by omega, by omega, by omega, outer_start HS.out⟩
  case round =>
    obtain ⟨i, rfl, hai, hin, hg1, HO⟩ := hrel
    by_cases hlt : i < b
    · have hltz : (i : Int) < (b : Int) := by omega
      obtain ⟨k, P, R, e, hik, hk1, hPl, hP, hrl, hs, hnext⟩ := outer_open HO.out HA.out HB.out HN.out hlt
      have HP := Lib.hid hPl
      have HO2 := Lib.hid hP
      have HIK := Lib.hid hik
      have HRL := Lib.hid hrl
      have HNX := Lib.hid hnext
      have HS2 := Lib.hid hs
      have hkn : a + k < n := by omega
      clear hik hPl hP hrl hs hnext
      go_wp2
      go_loopg [9] i (fun g2 vj wr2 => ∃ j : Nat, vj = .int .i64 ((a + j : Nat) : Int) ∧ j ≤ k ∧ a + j ≤ g2 ∧ Hid (∀ q ∈ P.drop j, e.addr < q.addr) ∧ Hid (Sw w0 g o (Sb.atD (x ++ P) R e (a + j)) wr2))
      case atStart =>
        have e1 := HIK.out
        refine ⟨k, by rw [e1], by omega, by omega, ?_, HS2.out⟩
        have e2 := HP.out
        show ∀ q ∈ P.drop k, e.addr < q.addr
        rw [List.drop_eq_nil_of_le (by omega)]
        intro q hq
        cases hq
      case round =>
        obtain ⟨j, rfl, hjk, hg2, HD, HW⟩ := hrel
        cases j with
        | zero =>
          have HQ : Hid (StO w0 g o a x s y (i + 1) wr) := by
            refine HNX.out wr ?_
            have e1 := ins_stop (x := x) (R := R) (k := 0) HO2.out (by omega) HD.out (fun h => by omega)
            rw [HA.out] at e1
            rw [← e1]
            exact HW.out
          rw [Nat.add_zero]
          have hjaz : decide ((a : Int) > (a : Int)) = false := decide_eq_false (by omega)
          have hjaz' : ¬ (a : Int) < (a : Int) := by omega
          clear HD HW hg2
          go_wp2_with fail
          go_quiet (fail)
          go_wp2
          go_roundg (b - (i + 1))
          case measure => omega
          case rel => exact ⟨i + 1, by go_num, by omega, by omega, by omega, HQ.out.drewN nq⟩
        | succ j =>
          have hjP : a + j + 1 ≤ (x ++ P).length := by
            have e1 := HP.out
            have e2 := HA.out
            rw [List.length_append]
            omega
          obtain ⟨t, ht⟩ : ∃ t, t = a + j := ⟨_, rfl⟩
          have et : a + (j + 1) = t + 1 := by omega
          rw [et] at HW ⊢
          rw [← ht] at hjP
          obtain ⟨p, hp0, hpe, hpp⟩ := atD_prev (R := R) (e := e) hjP
          have hml : (Sb.atD (x ++ P) R e (t + 1)).length = n := by
            rw [Sb.atD_len _ _ _ _ hjP]
            have e1 := HRL.out
            have e2 := HP.out
            have e3 := HA.out
            rw [List.length_append]
            omega
          have cE := fun q os => (HW.out.grown q os).cells HR.out hml hpe
          have cP := fun q os => (HW.out.grown q os).cells HR.out hml hpp
          have a0 := fun q os => (cE q os).1.1
          have a1 := fun q os => (cE q os).1.2.1
          have a2 := fun q os => (cE q os).1.2.2.1
          have a3 := fun q os => (cE q os).1.2.2.2
          have b0 := fun q os => (cP q os).1.1
          have b1 := fun q os => (cP q os).1.2.1
          have b2 := fun q os => (cP q os).1.2.2.1
          have b3 := fun q os => (cP q os).1.2.2.2
          have HPP := Lib.hid hpp
          have HPE := Lib.hid hpe
          have HML := Lib.hid hml
          have HPI := Lib.hid hp0
          have HT := Lib.hid ht
          have hta : a ≤ t := by omega
          have htn : t + 1 < n := by omega
          have mixed : Tryz.prog.follows Departure.mixedOrders = true := by kernel_rfl
          have hcg : ∀ q os, Calls Tryz.prog 25 #[.agg #[.int .i64 e.addr, .int .i64 e.state, .int .i64 e.till, .string (ba e.key)], .agg #[.int .i64 p.addr, .int .i64 p.state, .int .i64 p.till, .string (ba p.key)]] (grow (wr.drewN q) os)
            fun e1 w' => e1 = .returned (.int .i64 (cmpI e.addr p.addr)) ∧ ∃ q' os', w' = grow ((grow (wr.drewN q) os).drewN q') os' := fun q os => less_any e p _
          have ec : ((t + 1 : Nat) : Int) = (t : Int) + 1 := by omega
          rw [ec]
          have hjaz' : (a : Int) < (t : Int) + 1 := by omega
          have jz : (t : Int) + 1 < (n : Int) := by omega
          have jz1 : (t : Int) < (n : Int) := by omega
          have p0 : (0 : Int) ≤ (t : Int) + 1 := by omega
          have e0 : ((t : Int) + 1).toNat = t + 1 := by omega
          have hwp : IntKind.i64.wrap (t : Int) = (t : Int) := by rw [IntKind.wrap_i64]; omega
          clear cE cP hpp hpe hml hp0 ht et hjP ec
          by_cases hlv : cmpI e.addr p.addr < 0
          · have HLV := Lib.hid hlv
            go_wp2_with fail
            go_quiet_grown (first | (refine Calls.grown_of (hcg _ _)))
            have hs2 : Sw w0 g o (Sb.atD (x ++ P) R e (t + 1)) (grow (wr.drewN nq) osq) := HW.out.grown nq osq
            clear hcg a0 a1 a2 a3 b0 b1 b2 b3
            generalize grow (wr.drewN nq) osq = w2 at hs2 ⊢
            obtain ⟨⟨a0, a1, a2, a3⟩, f0, f1, f2, f3⟩ := hs2.cells HR.out HML.out HPE.out
            obtain ⟨⟨b0, b1, b2, b3⟩, j0, j1, j2, j3⟩ := hs2.cells HR.out HML.out HPP.out
            have hsw := hs2.swapped HR.out (t + 1) t HPE.out HPP.out
            have hjP : t + 1 ≤ (x ++ P).length := by
              have e1 := HP.out
              have e2 := HA.out
              have e3 := HT.out
              rw [List.length_append]
              omega
            rw [Sb.atD_step _ _ _ _ hjP] at hsw
            have HSW := Lib.hid hsw
            have HD2 : Hid (∀ q ∈ P.drop j, e.addr < q.addr) := by
              have e1 := HP.out
              have e2 := HA.out
              have e3 := HT.out
              have hjp : j < P.length := by omega
              have hpj : P[j] = p := by
                have e4 := HPI.out
                rw [List.getElem?_append_right (by omega), show t - x.length = j by omega, List.getElem?_eq_getElem hjp] at e4
                injection e4
              show ∀ q ∈ P.drop j, e.addr < q.addr
              rw [List.drop_eq_getElem_cons hjp, hpj]
              intro q hq
              rcases List.mem_cons.1 hq with rfl | hq
              · exact cmp_less.1 HLV.out
              · exact HD.out q hq
            clear hs2 hsw hjP HML HPE HPP HLV hlv HD HW HPI
            go_wp2_with fail
            go_region
            go_wp2
            go_roundg t
            case measure =>
              have e3 := HT.out
              omega
            case rel =>
              have e3 := HT.out
              refine ⟨j, ?_, by omega, by omega, HD2.out, ?_⟩
              · rw [← e3]
              · rw [← e3]
                exact HSW.out
          · have HQ : Hid (StO w0 g o a x s y (i + 1) wr) := by
              have e1 := HP.out
              have e2 := HA.out
              have e3 := HT.out
              have hjp : j < P.length := by omega
              have hpj : P[j] = p := by
                have e4 := HPI.out
                rw [List.getElem?_append_right (by omega), show t - x.length = j by omega, List.getElem?_eq_getElem hjp] at e4
                injection e4
              refine HNX.out wr ?_
              have e5 := ins_stop (x := x) (R := R) (k := j + 1) HO2.out (by omega) HD.out (fun h => by
                show (P[j]).addr ≤ e.addr
                rw [hpj]
                have := mt cmp_less.2 hlv
                omega)
              rw [← e5, show x.length + (j + 1) = t + 1 by omega]
              exact HW.out
            have hlv0 : ¬ cmpI e.addr p.addr < 0 := hlv
            clear HD HW
            go_wp2_with fail
            go_quiet_grown (first | (refine Calls.grown_of (hcg _ _)))
            go_wp2
            go_roundg (b - (i + 1))
            case measure => omega
            case rel => exact ⟨i + 1, by go_num, by omega, by omega, by omega, HQ.out.grown nq osq⟩
    · have hltz : ¬ (i : Int) < (b : Int) := by omega
      go_wp2
      go_end0
      exact ⟨rfl, outer_done HO.out HB.out hlt⟩
end Go.Proofs.YtlefpodonkdbeaaGreat.Lw
end
