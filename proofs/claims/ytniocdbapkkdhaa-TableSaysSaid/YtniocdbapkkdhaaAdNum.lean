/- What the calls of package addr on prefixes, and the document's own answers to them, come to: for all numbers that an int holds. -/
import Derived.Test.YtniocdbapkkdhaaAdMath
import Derived.Test.YtniocdbapkkdhaaBase
import Derived.WalkKit
import Derived.WalkSpells
import Derived.WalkLawsBesides
import Derived.IntWalk
import Derived.Lib.Hide
namespace Go.Proofs.Ytniocdbapkkdhaa.Aw
open Go.RowKit Ad

theorem ret_intErr {k : IntKind} {a b : Int} {v : Value} (h : a = b) : Ending.returned (.tuple #[.int k a, v]) = .returned (.tuple #[.int k b, v]) := by rw [h]

set_option maxHeartbeats 400000 in
theorem right_any (a : Int) (w : World) :
    Calls Try.prog 41 #[.int .i64 a] w fun e w' => e = .returned (.bool (rightB a)) ∧ w = w' := by
  go_enter Try.func41, Try.ntmps41
  go_wp2
  all_goals (go_ret; refine ⟨?_, rfl⟩; simp [rightB]; try omega)

set_option maxHeartbeats 400000 in
theorem refRight_any (a : Int) (w : World) :
    Calls Try.prog 38 #[.int .i64 a] w fun e w' => e = .returned (.bool (rightB a)) ∧ w = w' := by
  go_enter Try.func38, Try.ntmps38
  go_wp2
  all_goals (go_ret; refine ⟨ret_bool ?_, rfl⟩; rw [Bool.eq_iff_iff, rightB_iff]; simp; try omega)

/-- The document's size, by doubling. -/
theorem sz_step {k : Int} (h : k < 32) : sz k = sz (k + 1) * 2 := by
  unfold sz
  rw [show (32 - k).toNat = (32 - (k + 1)).toNat + 1 by omega, Int.pow_succ]
theorem sz_top : sz 32 = 1 := rfl

theorem bits_false {k : Int} (h : ¬ bitsB k = true) : bitsB k = false := by simpa using h
theorem right_false {k : Int} (h : ¬ rightB k = true) : rightB k = false := by simpa using h
theorem fair_false {b k : Int} (h : ¬ fairB b k = true) : fairB b k = false := by simpa using h
theorem has_false {b k a : Int} (h : ¬ hasB b k a = true) : hasB b k a = false := by simpa using h
theorem meet_false {b k c l : Int} (h : ¬ meetB b k c l = true) : meetB b k c l = false := by simpa using h

end Go.Proofs.Ytniocdbapkkdhaa.Aw
