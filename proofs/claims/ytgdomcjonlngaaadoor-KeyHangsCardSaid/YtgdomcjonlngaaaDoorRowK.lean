/- What the rows on keys list gives the walks what they want of the world. -/
import Derived.Test.YtgdomcjonlngaaaDoorRowKit
import Derived.Test.YtgdomcjonlngaaaDoorRowB
import Derived.Test.YtgdomcjonlngaaaDoorKwLeaf
namespace Go.Proofs.YtgdomcjonlngaaaDoor
open Go.RowKit Kw Ky

theorem dig_of {W : World} {l : List (String × DataW Unit)} (hL : laidMet Tryd.prog l W) (hm : ("boarder/key.digits", Rows.laid_boarder_key_digits) ∈ l) : Dig W := by
  have gD : Tryd.prog.globalNamed "boarder/key.digits" = some 0 := by kernel_rfl
  have h : Lib.TabIs Tryd.prog W "boarder/key.digits" .u8 [48, 49, 50, 51, 52, 53, 54, 55, 56, 57, 97, 98, 99, 100, 101, 102] := tab_of_laid gD (by kernel_rfl) Tryd.underlying47 Tryd.underlying5 (by kernel_rfl) (by kernel_rfl) hL hm
  intro i hi
  rw [h.cell gD i hi]
  have k : i = 0 ∨ i = 1 ∨ i = 2 ∨ i = 3 ∨ i = 4 ∨ i = 5 ∨ i = 6 ∨ i = 7 ∨ i = 8 ∨ i = 9 ∨ i = 10 ∨ i = 11 ∨ i = 12 ∨ i = 13 ∨ i = 14 ∨ i = 15 := by omega
  rcases k with rfl | rfl | rfl | rfl | rfl | rfl | rfl | rfl | rfl | rfl | rfl | rfl | rfl | rfl | rfl | rfl <;> rfl
end Go.Proofs.YtgdomcjonlngaaaDoor
