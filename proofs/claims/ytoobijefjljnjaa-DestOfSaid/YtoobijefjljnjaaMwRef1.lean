/- As, Great (boarderlaw04), and the document's Right and Same for messages. For all inputs. -/
import Derived.Test.YtoobijefjljnjaaMwKit
import Derived.Test.YtoobijefjljnjaaMwRight
import Derived.Test.YtoobijefjljnjaaAdNum
import Derived.Test.YtoobijefjljnjaaTlLeaf
import Derived.Test.YtoobijefjljnjaaTlSame
import Derived.Handy
set_option maxRecDepth 8000
namespace Go.Proofs.Ytoobijefjljnjaa.Mw
open Go.RowKit Tl Ms By
open Tw (greatL)

set_option maxHeartbeats 1000000 in
theorem as_msg (x : Mv) (w : World) : Calls Try.prog 10 #[x.v] w fun e w' => e = .returned x.v ∧ Below w.heap.size w w' := by
  go_enter Try.func10, Try.ntmps10
  go_wp2
  go_returns
  exact ⟨rfl, ((Below.refl _ _).alloc (Nat.le_refl _) _).alloc (by simp) _⟩

def greatM (m : M) : Bool := decide (100 < m.ch.length) || greatL m.os
set_option maxHeartbeats 1000000 in
theorem great_msg (x : Mv) (w : World) (h : x.ok w) : Calls Try.prog 6 #[x.v] w fun e w' => e = .returned (.bool (greatM x.mm)) ∧ Below w.heap.size w w' := by
  have hm := h.ch.max
  have hcap := h.ch.cap
  have HL := Lib.hid h.ch.len
  have hb0 : Below w.heap.size w (w.alloc (.cells x.cells 25)) := (Below.refl _ _).alloc (Nat.le_refl _) _
  have h0 := h.alloc (.cells x.cells 25)
  by_cases h1 : (100 : Int) < (x.n : Int)
  · have H : Hid (greatM x.mm = true) := by
      show (decide (100 < x.ch.length) || _) = true
      rw [HL.out, decide_eq_true (by omega), Bool.true_or]
    go_enter Try.func6, Try.ntmps6
    go_wp2
    go_ret
    exact ⟨ret_bool H.out.symm, hb0⟩
  · have H : Hid (greatM x.mm = greatL (osP x.ps)) := by
      show (decide (100 < x.ch.length) || _) = _
      rw [HL.out, decide_eq_false (by omega), Bool.false_or]
      rfl
    go_enter Try.func6, Try.ntmps6
    go_wp2_with fail
    refine (Tw.great_any _ _ _ x.ps _ h0.os).mono ?_
    rintro e w1 ⟨rfl, rfl⟩
    go_wp2
    go_ret
    exact ⟨ret_bool H.out.symm, hb0⟩

/-! ### The document's Right -/
theorem not_right {x : Mv} (h : ¬ RightM x.mm) : Hid (rightM x.mm = false) := by
  show rightM x.mm = false
  cases q : rightM x.mm with
  | false => rfl
  | true => exact absurd ((rightM_iff _).1 q) h
/-! ### The document's Same -/
theorem mm_eq {x y : Mv} (h : x.mm = y.mm) : x.op = y.op ∧ x.htype = y.htype ∧ x.hlen = y.hlen ∧ x.hops = y.hops ∧ x.xid = y.xid ∧ x.secs = y.secs ∧ x.flags = y.flags ∧ x.ci = y.ci ∧ x.yi = y.yi ∧ x.si = y.si ∧ x.gi = y.gi ∧ x.ch = y.ch ∧ osP x.ps = osP y.ps := by
  unfold Mv.mm at h
  simpa using h
end Go.Proofs.Ytoobijefjljnjaa.Mw
