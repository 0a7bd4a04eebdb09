/- What the calls of package addr on prefixes, and the document's own answers to them, come to: for all numbers that an int holds. -/
import Derived.Test.YtoobijefjljnjaaAdMath
import Derived.Test.YtoobijefjljnjaaBase
import Derived.WalkKit
import Derived.WalkSpells
import Derived.WalkLawsBesides
import Derived.IntWalk
import Derived.Lib.Hide
namespace Go.Proofs.Ytoobijefjljnjaa.Aw
open Go.RowKit Ad

theorem ret_intErr {k : IntKind} {a b : Int} {v : Value} (h : a = b) : Ending.returned (.tuple #[.int k a, v]) = .returned (.tuple #[.int k b, v]) := by rw [h]

/-- The document's size, by doubling. -/
theorem sz_step {k : Int} (h : k < 32) : sz k = sz (k + 1) * 2 := by
  unfold sz
  rw [show (32 - k).toNat = (32 - (k + 1)).toNat + 1 by omega, Int.pow_succ]
theorem sz_top : sz 32 = 1 := rfl

theorem bits_false {k : Int} (h : ¬ bitsB k = true) : bitsB k = false := by simpa using h
theorem right_false {k : Int} (h : ¬ rightB k = true) : rightB k = false := by simpa using h
theorem fair_false {b k : Int} (h : ¬ fairB b k = true) : fairB b k = false := by simpa using h
theorem has_false {b k a : Int} (h : ¬ hasB b k a = true) : hasB b k a = false := by simpa using h
theorem meet_false {b k c l : Int} (h : ¬ meetB b k c l = true) : meetB b k c l = false := by simpa using h

end Go.Proofs.Ytoobijefjljnjaa.Aw
