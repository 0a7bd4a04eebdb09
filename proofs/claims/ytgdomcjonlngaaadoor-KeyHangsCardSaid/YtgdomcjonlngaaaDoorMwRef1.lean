/- As, Great (boarderlaw04), and the document's Right and Same for messages. For all inputs. -/
import Derived.Test.YtgdomcjonlngaaaDoorMwKit
import Derived.Test.YtgdomcjonlngaaaDoorMwRight
import Derived.Test.YtgdomcjonlngaaaDoorAdNum
import Derived.Test.YtgdomcjonlngaaaDoorTlLeaf
import Derived.Test.YtgdomcjonlngaaaDoorTlSame
import Derived.Handy
set_option maxRecDepth 8000
namespace Go.Proofs.YtgdomcjonlngaaaDoor.Mw
open Go.RowKit Tl Ms By
open Tw (greatL)

set_option maxHeartbeats 1000000 in
theorem as_msg (x : Mv) (w : World) : Calls Tryd.prog 12 #[x.v] w fun e w' => e = .returned x.v ∧ Below w.heap.size w w' := by
  go_enter Tryd.func12, Tryd.ntmps12
  go_wp2
  go_returns
  exact ⟨rfl, ((Below.refl _ _).alloc (Nat.le_refl _) _).alloc (by simp) _⟩

def greatM (m : M) : Bool := decide (100 < m.ch.length) || greatL m.os
set_option maxHeartbeats 1000000 in
theorem great_msg (x : Mv) (w : World) (h : x.ok w) : Calls Tryd.prog 8 #[x.v] w fun e w' => e = .returned (.bool (greatM x.mm)) ∧ Below w.heap.size w w' := by
  have hm := h.ch.max
  have hcap := h.ch.cap
  have HL := Lib.hid h.ch.len
  have hb0 : Below w.heap.size w (w.alloc (.cells x.cells 25)) := (Below.refl _ _).alloc (Nat.le_refl _) _
  have h0 := h.alloc (.cells x.cells 25)
  by_cases h1 : (100 : Int) < (x.n : Int)
  · have H : Hid (greatM x.mm = true) := by
      show (decide (100 < x.ch.length) || _) = true
      rw [HL.out, decide_eq_true (by omega), Bool.true_or]
    go_enter Tryd.func8, Tryd.ntmps8
    go_wp2
    go_ret
    exact ⟨ret_bool H.out.symm, hb0⟩
  · have H : Hid (greatM x.mm = greatL (osP x.ps)) := by
      show (decide (100 < x.ch.length) || _) = _
      rw [HL.out, decide_eq_false (by omega), Bool.false_or]
      rfl
    go_enter Tryd.func8, Tryd.ntmps8
    go_wp2_with fail
    refine (Tw.great_any _ _ _ x.ps _ h0.os).mono ?_
    rintro e w1 ⟨rfl, rfl⟩
    go_wp2
    go_ret
    exact ⟨ret_bool H.out.symm, hb0⟩

/-! ### The document's Right -/
theorem not_right {x : Mv} (h : ¬ RightM x.mm) : Hid (rightM x.mm = false) := by
  show rightM x.mm = false
  cases q : rightM x.mm with
  | false => rfl
  | true => exact absurd ((rightM_iff _).1 q) h
set_option maxHeartbeats 4000000 in
theorem refRight_msg (x : Mv) (w : World) (h : x.ok w) : Calls Tryd.prog 19 #[x.v] w fun e w' => e = .returned (.bool (rightM x.mm)) ∧ Below w.heap.size w w' := by
  have hm := h.ch.max
  have hcap := h.ch.cap
  have HL := Lib.hid h.ch.len
  have hb0 : Below w.heap.size w (w.alloc (.cells x.cells 33)) := (Below.refl _ _).alloc (Nat.le_refl _) _
  have h0 := h.alloc (.cells x.cells 33)
  cases hB1 : (decide (x.op < 0) || decide (255 < x.op) || decide (x.htype < 0) || decide (255 < x.htype) || decide (x.hlen < 0) || decide (16 < x.hlen) || decide (x.hops < 0) || decide (255 < x.hops))
  rotate_left
  · have H := not_right (x := x) fun k => by
      obtain ⟨⟨a1, a2, a3, a4, _⟩, _⟩ := k
      simp only [Mv.mm] at a1 a2 a3 a4
      simp only [Bool.or_eq_true, decide_eq_true_eq] at hB1
      omega
    go_enter Tryd.func19, Tryd.ntmps19
    go_wp2
    all_goals (go_ret; exact ⟨ret_bool H.out.symm, hb0⟩)
  have hB1' := hB1
  simp only [Bool.or_eq_false_iff, decide_eq_false_iff_not] at hB1'
  obtain ⟨⟨⟨⟨⟨⟨⟨n1, n2⟩, n3⟩, n4⟩, n5⟩, n6⟩, n7⟩, n8⟩ := hB1'
  go_enter Tryd.func19, Tryd.ntmps19
  go_wp2_with fail
  refine (Aw.refRight_any x.xid _).mono ?_
  rintro e w1 ⟨rfl, rfl⟩
  cases q1 : Ad.rightB x.xid
  · have hq : ¬ (0 ≤ x.xid ∧ x.xid ≤ 4294967295) := fun k => by rw [Ad.rightB_iff.2 k] at q1; cases q1
    have H := not_right (x := x) fun k => hq k.1.2.2.2.2.1
    clear hq
    go_wp2
    all_goals (go_ret; exact ⟨ret_bool H.out.symm, hb0⟩)
  cases hB2 : (decide (x.secs < 0) || decide (65535 < x.secs) || decide (x.flags < 0) || decide (65535 < x.flags))
  rotate_left
  · have H := not_right (x := x) fun k => by
      obtain ⟨⟨_, _, _, _, _, a6, a7, _⟩, _⟩ := k
      simp only [Mv.mm] at a6 a7
      simp only [Bool.or_eq_true, decide_eq_true_eq] at hB2
      omega
    go_wp2
    all_goals (go_ret; exact ⟨ret_bool H.out.symm, hb0⟩)
  have hB2' := hB2
  simp only [Bool.or_eq_false_iff, decide_eq_false_iff_not] at hB2'
  obtain ⟨⟨⟨m1, m2⟩, m3⟩, m4⟩ := hB2'
  go_wp2_with fail
  refine (Aw.refRight_any x.ci _).mono ?_
  rintro e w1 ⟨rfl, rfl⟩
  cases q2 : Ad.rightB x.ci
  · have hq : ¬ (0 ≤ x.ci ∧ x.ci ≤ 4294967295) := fun k => by rw [Ad.rightB_iff.2 k] at q2; cases q2
    have H := not_right (x := x) fun k => hq k.1.2.2.2.2.2.2.2.1
    clear hq
    go_wp2
    all_goals (go_ret; exact ⟨ret_bool H.out.symm, hb0⟩)
  go_wp2_with fail
  refine (Aw.refRight_any x.yi _).mono ?_
  rintro e w1 ⟨rfl, rfl⟩
  cases q3 : Ad.rightB x.yi
  · have hq : ¬ (0 ≤ x.yi ∧ x.yi ≤ 4294967295) := fun k => by rw [Ad.rightB_iff.2 k] at q3; cases q3
    have H := not_right (x := x) fun k => hq k.1.2.2.2.2.2.2.2.2.1
    clear hq
    go_wp2
    all_goals (go_ret; exact ⟨ret_bool H.out.symm, hb0⟩)
  go_wp2_with fail
  refine (Aw.refRight_any x.si _).mono ?_
  rintro e w1 ⟨rfl, rfl⟩
  cases q4 : Ad.rightB x.si
  · have hq : ¬ (0 ≤ x.si ∧ x.si ≤ 4294967295) := fun k => by rw [Ad.rightB_iff.2 k] at q4; cases q4
    have H := not_right (x := x) fun k => hq k.1.2.2.2.2.2.2.2.2.2.1
    clear hq
    go_wp2
    all_goals (go_ret; exact ⟨ret_bool H.out.symm, hb0⟩)
  go_wp2_with fail
  refine (Aw.refRight_any x.gi _).mono ?_
  rintro e w1 ⟨rfl, rfl⟩
  cases q5 : Ad.rightB x.gi
  · have hq : ¬ (0 ≤ x.gi ∧ x.gi ≤ 4294967295) := fun k => by rw [Ad.rightB_iff.2 k] at q5; cases q5
    have H := not_right (x := x) fun k => hq k.1.2.2.2.2.2.2.2.2.2.2
    clear hq
    go_wp2
    all_goals (go_ret; exact ⟨ret_bool H.out.symm, hb0⟩)
  have HH : Hid (HeadOk x.mm) := by
    show HeadOk x.mm
    have r1 := Ad.rightB_iff.1 q1
    have r2 := Ad.rightB_iff.1 q2
    have r3 := Ad.rightB_iff.1 q3
    have r4 := Ad.rightB_iff.1 q4
    have r5 := Ad.rightB_iff.1 q5
    unfold HeadOk
    simp only [Mv.mm]
    omega
  by_cases q6 : (x.n : Int) = 16
  rotate_left
  · have H := not_right (x := x) fun k => by
      have := k.2.1
      rw [show x.mm.ch.length = x.n from HL.out] at this
      omega
    go_wp2
    all_goals (go_ret; exact ⟨ret_bool H.out.symm, hb0⟩)
  go_wp2_with fail
  refine (Tw.refRight_any _ _ _ x.ps _ h0.os).mono ?_
  rintro e w1 ⟨rfl, rfl⟩
  cases q7 : rightL (osP x.ps)
  · have H := not_right (x := x) fun k => by
      have := k.2.2.1
      rw [show rightL x.mm.os = rightL (osP x.ps) from rfl, q7] at this
      cases this
    go_wp2
    all_goals (go_ret; exact ⟨ret_bool H.out.symm, hb0⟩)
  go_wp2_with fail
  refine (Tw.has_any _ _ _ x.ps 52 _ h0.os).mono ?_
  rintro e w1 ⟨rfl, rfl⟩
  have H : Hid (rightM x.mm = ((hasL (osP x.ps) 52 : Int) == 0)) := by
    show rightM x.mm = _
    rw [Bool.eq_iff_iff, rightM_iff]
    constructor
    · intro k
      have := k.2.2.2
      rw [show hasL x.mm.os 52 = hasL (osP x.ps) 52 from rfl] at this
      rw [this]
      rfl
    · intro k
      exact ⟨HH.out, by rw [show x.mm.ch.length = x.n from HL.out]; omega, q7, (show hasL (osP x.ps) 52 = 0 by simpa using k)⟩
  go_wp2
  go_ret
  exact ⟨ret_bool H.out.symm, hb0⟩

/-! ### The document's Same -/
theorem mm_eq {x y : Mv} (h : x.mm = y.mm) : x.op = y.op ∧ x.htype = y.htype ∧ x.hlen = y.hlen ∧ x.hops = y.hops ∧ x.xid = y.xid ∧ x.secs = y.secs ∧ x.flags = y.flags ∧ x.ci = y.ci ∧ x.yi = y.yi ∧ x.si = y.si ∧ x.gi = y.gi ∧ x.ch = y.ch ∧ osP x.ps = osP y.ps := by
  unfold Mv.mm at h
  simpa using h
end Go.Proofs.YtgdomcjonlngaaaDoor.Mw
