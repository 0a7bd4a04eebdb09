/- msg.within, rightNumbers, overloaded, Right: which messages are right. For all inputs. -/
import Derived.Test.YtgdomcjonlngaaaDoorMwKit
import Derived.Test.YtgdomcjonlngaaaDoorAdNum
import Derived.Test.YtgdomcjonlngaaaDoorTlRight
set_option maxRecDepth 8000
namespace Go.Proofs.YtgdomcjonlngaaaDoor.Mw
open Go.RowKit Tl Ms By

def withinB (k : Int) (vs : List Int) : Bool := vs.all fun v => decide (0 ≤ v ∧ v ≤ k)
theorem within_bad {k : Int} {vs : List Int} {j : Nat} (h : j < vs.length) (hv : ¬ (0 ≤ vs[j] ∧ vs[j] ≤ k)) : withinB k vs = false := by
  unfold withinB
  rw [List.all_eq_false]
  exact ⟨vs[j], List.getElem_mem h, by simpa using hv⟩
theorem within_next {k : Int} {vs : List Int} {j : Nat} (h : j < vs.length) (ht : withinB k (vs.take j) = true) (hv : 0 ≤ vs[j] ∧ vs[j] ≤ k) : withinB k (vs.take (j + 1)) = true := by
  unfold withinB at ht ⊢
  rw [List.take_succ_eq_append_getElem h, List.all_append, ht]
  simp [hv]
set_option maxHeartbeats 400000 in
theorem within_any (k : Int) (g n : Nat) (vs : List Int) (w : World) (hn : vs.length = n) (hn2 : n ≤ 1000) (hc : ∀ i (h : i < vs.length), w.cell? ⟨g, i, none⟩ = some (.int .i64 vs[i])) :
    Calls Tryd.prog 37 #[.int .i64 k, .slice (some ⟨g, 0, none⟩) n n] w fun e w' => e = .returned (.bool (withinB k vs)) ∧ w = w' := by
  have HN := Lib.hid hn
  have HC := Lib.hid hc
  clear hn hc
  go_enter Tryd.func37, Tryd.ntmps37
  go_wp2
  go_loop [9] (fun i => ∃ j : Nat, j ≤ n ∧ i = .int .i64 j ∧ withinB k (vs.take j) = true) (fun i => n - (intOf i).toNat)
  case atStart => exact ⟨0, by omega, rfl, rfl⟩
  case round =>
    obtain ⟨j, hj, rfl, hs⟩ := hrel
    have HS := Lib.hid hs
    clear hs
    by_cases hlt : j < n
    · have hjl : j < vs.length := by have := HN.out; omega
      have hcell := HC.out j hjl
      have HB := fun hv => within_bad (k := k) hjl hv
      have HX := fun hv => within_next (k := k) hjl HS.out hv
      generalize vs[j] = v at hcell HB HX
      have HB2 := Lib.hid HB
      have HX2 := Lib.hid HX
      clear HB HX hjl
      by_cases h1 : v < 0
      · have H : Hid (withinB k vs = false) := HB2.out (by omega)
        go_wp2
        go_ret
        exact ⟨ret_bool H.out.symm, rfl⟩
      by_cases h2 : k < v
      · have H : Hid (withinB k vs = false) := HB2.out (by omega)
        go_wp2
        go_ret
        exact ⟨ret_bool H.out.symm, rfl⟩
      · have H : Hid (withinB k (vs.take (j + 1)) = true) := HX2.out (by omega)
        go_wp2
        go_round
        case rel => exact ⟨j + 1, by omega, by go_num, H.out⟩
        case measure => simp [intOf]; omega
    · obtain rfl : j = n := by omega
      have H : Hid (withinB k vs = true) := by have := HS.out; rwa [List.take_of_length_le (by have := HN.out; omega)] at this
      go_wp2
      go_ret
      exact ⟨ret_bool H.out.symm, rfl⟩

theorem cells1 (w : World) (t : TypeId) (a : Int) (g : Nat) (hg : g = w.heap.size) : ∀ i (h : i < [a].length), (w.alloc (.cells #[.int .i64 a] t)).cell? ⟨g, i, none⟩ = some (.int .i64 [a][i]) := by
  subst hg
  intro i hi
  match i, hi with
  | 0, _ => simp
theorem cells2 (w : World) (t : TypeId) (a b : Int) (g : Nat) (hg : g = w.heap.size) : ∀ i (h : i < [a, b].length), (w.alloc (.cells #[.int .i64 a, .int .i64 b] t)).cell? ⟨g, i, none⟩ = some (.int .i64 [a, b][i]) := by
  subst hg
  intro i hi
  match i, hi with
  | 0, _ => simp
  | 1, _ => simp
theorem cells3 (w : World) (t : TypeId) (a b c : Int) (g : Nat) (hg : g = w.heap.size) : ∀ i (h : i < [a, b, c].length), (w.alloc (.cells #[.int .i64 a, .int .i64 b, .int .i64 c] t)).cell? ⟨g, i, none⟩ = some (.int .i64 [a, b, c][i]) := by
  subst hg
  intro i hi
  match i, hi with
  | 0, _ => simp
  | 1, _ => simp
  | 2, _ => simp

def headB (x : M) : Bool := withinB 255 [x.op, x.htype, x.hops] && withinB 16 [x.hlen] && withinB 4294967295 [x.xid] && withinB 65535 [x.secs, x.flags] && Ad.rightB x.ci && Ad.rightB x.yi && Ad.rightB x.si && Ad.rightB x.gi
theorem headB_iff (x : M) : headB x = decide (HeadOk x) := by
  rw [Bool.eq_iff_iff, decide_eq_true_iff]
  unfold headB HeadOk withinB
  simp only [Bool.and_eq_true, List.all_cons, List.all_nil, decide_eq_true_eq, Ad.rightB_iff, and_true]
  omega

set_option maxHeartbeats 1000000 in
theorem rightNumbers_any (x : Mv) (w : World) : Calls Tryd.prog 31 #[x.v] w fun e w' => e = .returned (.bool (headB x.mm)) ∧ Below w.heap.size w w' := by
  have hb0 : Below w.heap.size w (w.alloc (.cells x.cells 25)) := (Below.refl _ _).alloc (Nat.le_refl _) _
  have HH : Hid (headB x.mm = (withinB 255 [x.op, x.htype, x.hops] && withinB 16 [x.hlen] && withinB 4294967295 [x.xid] && withinB 65535 [x.secs, x.flags] && Ad.rightB x.ci && Ad.rightB x.yi && Ad.rightB x.si && Ad.rightB x.gi)) := by show headB x.mm = _; unfold headB Mv.mm; rfl
  go_enter Tryd.func31, Tryd.ntmps31
  go_wp2_with fail
  refine (within_any _ _ 3 [x.op, x.htype, x.hops] _ rfl (by omega) (cells3 _ _ _ _ _ _ (by simp))).mono ?_
  rintro e w1 ⟨rfl, rfl⟩
  have hb1 := hb0.alloc hb0.size (.cells #[.int .i64 x.op, .int .i64 x.htype, .int .i64 x.hops] 3)
  cases q1 : withinB 255 [x.op, x.htype, x.hops]
  · have H : Hid (headB x.mm = false) := by show _ = _; rw [HH.out]; simp only [q1, Bool.false_and]
    go_wp2
    go_ret
    exact ⟨ret_bool H.out.symm, hb1⟩
  go_wp2_with fail
  refine (within_any _ _ 1 [x.hlen] _ rfl (by omega) (cells1 _ _ _ _ (by simp))).mono ?_
  rintro e w2 ⟨rfl, rfl⟩
  have hb2 := hb1.alloc hb1.size (.cells #[.int .i64 x.hlen] 3)
  cases q2 : withinB 16 [x.hlen]
  · have H : Hid (headB x.mm = false) := by show _ = _; rw [HH.out]; simp only [q1, q2, Bool.and_false, Bool.false_and]
    go_wp2
    go_ret
    exact ⟨ret_bool H.out.symm, hb2⟩
  go_wp2_with fail
  refine (within_any _ _ 1 [x.xid] _ rfl (by omega) (cells1 _ _ _ _ (by simp))).mono ?_
  rintro e w3 ⟨rfl, rfl⟩
  have hb3 := hb2.alloc hb2.size (.cells #[.int .i64 x.xid] 3)
  cases q3 : withinB 4294967295 [x.xid]
  · have H : Hid (headB x.mm = false) := by show _ = _; rw [HH.out]; simp only [q1, q2, q3, Bool.and_false, Bool.false_and, Bool.true_and]
    go_wp2
    go_ret
    exact ⟨ret_bool H.out.symm, hb3⟩
  go_wp2_with fail
  refine (within_any _ _ 2 [x.secs, x.flags] _ rfl (by omega) (cells2 _ _ _ _ _ (by simp))).mono ?_
  rintro e w4 ⟨rfl, rfl⟩
  have hb4 := hb3.alloc hb3.size (.cells #[.int .i64 x.secs, .int .i64 x.flags] 3)
  cases q4 : withinB 65535 [x.secs, x.flags]
  · have H : Hid (headB x.mm = false) := by show _ = _; rw [HH.out]; simp only [q1, q2, q3, q4, Bool.and_false, Bool.false_and, Bool.true_and]
    go_wp2
    go_ret
    exact ⟨ret_bool H.out.symm, hb4⟩
  go_wp2_with fail
  refine (Aw.right_any _ _).mono ?_
  rintro e w5 ⟨rfl, rfl⟩
  have hb5 := hb4
  cases q5 : Ad.rightB x.ci
  · have H : Hid (headB x.mm = false) := by show _ = _; rw [HH.out]; simp only [q1, q2, q3, q4, q5, Bool.and_false, Bool.false_and, Bool.true_and]
    go_wp2
    go_ret
    exact ⟨ret_bool H.out.symm, hb5⟩
  go_wp2_with fail
  refine (Aw.right_any _ _).mono ?_
  rintro e w6 ⟨rfl, rfl⟩
  have hb6 := hb5
  cases q6 : Ad.rightB x.yi
  · have H : Hid (headB x.mm = false) := by show _ = _; rw [HH.out]; simp only [q1, q2, q3, q4, q5, q6, Bool.and_false, Bool.false_and, Bool.true_and]
    go_wp2
    go_ret
    exact ⟨ret_bool H.out.symm, hb6⟩
  go_wp2_with fail
  refine (Aw.right_any _ _).mono ?_
  rintro e w7 ⟨rfl, rfl⟩
  have hb7 := hb6
  cases q7 : Ad.rightB x.si
  · have H : Hid (headB x.mm = false) := by show _ = _; rw [HH.out]; simp only [q1, q2, q3, q4, q5, q6, q7, Bool.and_false, Bool.false_and, Bool.true_and]
    go_wp2
    go_ret
    exact ⟨ret_bool H.out.symm, hb7⟩
  go_wp2_with fail
  refine (Aw.right_any _ _).mono ?_
  rintro e w8 ⟨rfl, rfl⟩
  have hb8 := hb7
  have H : Hid (headB x.mm = Ad.rightB x.gi) := by show _ = _; rw [HH.out]; simp only [q1, q2, q3, q4, q5, q6, q7, Bool.true_and]
  go_wp2
  go_ret
  exact ⟨ret_bool H.out.symm, hb8⟩

theorem overloaded_any (A : Option Addr) (n c : Nat) (ps : List Po) (w : World) (h : RdO w A n c ps) (hsm : ∀ p ∈ ps, p.l.length ≤ 1000) :
    Calls Tryd.prog 33 #[.slice A n c] w fun e w' => e = .returned (.bool (findL (osP ps) 52).isSome) ∧ Below w.heap.size w w' := by
  go_enter Tryd.func33, Tryd.ntmps33
  go_wp2_with fail
  refine (Tw.find_any A n c ps 52 _ h hsm).mono ?_
  rintro e w1 ⟨A1, m1, c1, rfl, _, hb1⟩
  go_wp2
  go_ret
  exact ⟨rfl, hb1⟩

theorem box_at {x : Mv} {t : TypeId} {w w1 : World} {B : Nat} (hB : w.heap.size < B) (hb : Below B (w.alloc (.cells x.cells t)) w1) : Cel w1 w.heap.size t x.cells := (Cel.born w t x.cells).below hb hB
theorem right_small {ps : List Po} (h : rightL (osP ps) = true) : ∀ p ∈ ps, p.l.length ≤ 1000 := fun p hp => by
  have := right_fit h (os_mem hp)
  have e : p.o.2.length = p.l.length := rfl
  omega
theorem find_has {l : List O} {c : Int} : (findL l c).isSome = false ↔ hasL l c = 0 := by
  rw [has_zero]
  constructor
  · intro h hm
    obtain ⟨i, hi, hp, hcode, hno⟩ := place_mem hm
    rw [find_hit hi hcode hno] at h
    cases h
  · intro h
    rw [find_none h]
    rfl

set_option maxHeartbeats 1000000 in
theorem right_any (x : Mv) (w : World) (h : x.ok w) : Calls Tryd.prog 22 #[x.v] w fun e w' => e = .returned (.bool (rightM x.mm)) ∧ Below w.heap.size w w' := by
  have hb0 : Below w.heap.size w (w.alloc (.cells x.cells 25)) := (Below.refl _ _).alloc (Nat.le_refl _) _
  have HL := Lib.hid h.ch.len
  have HR : Hid (∀ b : Bool, (RightM x.mm ↔ b = true) → rightM x.mm = b) := fun b hb => by rw [Bool.eq_iff_iff, rightM_iff]; exact hb
  have h0 := h.alloc (.cells x.cells 25)
  have hm1 := h.ch.max
  have hm2 := h.ch.cap
  clear h
  go_enter Tryd.func22, Tryd.ntmps22
  go_wp2_with fail
  refine (rightNumbers_any x _).mono ?_
  rintro e w1 ⟨rfl, hb1⟩
  have hbw1 := hb0.trans (hb1.mono hb0.size)
  cases q1 : headB x.mm
  · have H : Hid (rightM x.mm = false) := HR.out false ⟨fun k => by rw [headB_iff, decide_eq_false_iff_not] at q1; exact absurd k.1 q1, fun k => by cases k⟩
    go_wp2
    go_ret
    exact ⟨ret_bool H.out.symm, hbw1⟩
  have hcel := box_at (x := x) (by simp) hb1
  have hc11 : w1.cell? ⟨w.heap.size, 11, none⟩ = some (.slice x.A x.n x.c) := by rw [hcel.cell]; rfl
  have hc12 : w1.cell? ⟨w.heap.size, 12, none⟩ = some (.slice x.B x.m x.d) := by rw [hcel.cell]; rfl
  have h1 := h0.below hb1
  have Q1 : Hid (HeadOk x.mm) := by rw [headB_iff, decide_eq_true_iff] at q1; exact q1
  by_cases q2 : x.n = 16
  rotate_left
  · have H : Hid (rightM x.mm = false) := HR.out false ⟨fun k => by have := k.2.1; rw [show x.mm.ch.length = x.n from HL.out] at this; exact absurd this q2, fun k => by cases k⟩
    go_wp2
    go_ret
    exact ⟨ret_bool H.out.symm, hbw1⟩
  have Q2 : Hid (x.mm.ch.length = 16) := by show x.ch.length = 16; rw [HL.out, q2]
  go_wp2_with fail
  refine (Tw.right_any _ _ _ x.ps _ h1.os).mono ?_
  rintro e w2 ⟨rfl, hb2⟩
  have hbw2 := hbw1.trans (hb2.mono hbw1.size)
  cases q3 : rightL (osP x.ps)
  · have H : Hid (rightM x.mm = false) := HR.out false ⟨fun k => (by have := k.2.2.1; rw [show rightL x.mm.os = rightL (osP x.ps) from rfl, q3] at this; cases this), fun k => by cases k⟩
    go_wp2
    go_ret
    exact ⟨ret_bool H.out.symm, hbw2⟩
  have hcel2 := hcel.below hb2 (by have := hcel.lt; omega)
  have hd12 : w2.cell? ⟨w.heap.size, 12, none⟩ = some (.slice x.B x.m x.d) := by rw [hcel2.cell]; rfl
  have h2 := h1.below hb2
  go_wp2_with fail
  refine (overloaded_any _ _ _ x.ps _ h2.os (right_small q3)).mono ?_
  rintro e w3 ⟨rfl, hb3⟩
  have hbw3 := hbw2.trans (hb3.mono hbw2.size)
  have H : Hid (rightM x.mm = !(findL (osP x.ps) 52).isSome) := HR.out _ ⟨fun k => by
    have := find_has.2 k.2.2.2
    rw [show (findL (osP x.ps) 52) = findL x.mm.os 52 from rfl, this]; rfl, fun k => ⟨Q1.out, Q2.out, q3, find_has.1 (by
    cases hq : (findL (osP x.ps) 52).isSome with
    | false => exact hq
    | true => rw [hq] at k; cases k)⟩⟩
  go_wp2
  go_ret
  exact ⟨ret_bool (by rw [H.out, Option.not_isSome]), hbw3⟩
end Go.Proofs.YtgdomcjonlngaaaDoor.Mw
