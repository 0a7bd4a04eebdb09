/- What boarderref19's End, sent and ended come to. Conditions: those that each theorem names. -/
import Derived.Test.YtoldppbakapohaaGreatDoorEyKit
import Derived.Test.YtoldppbakapohaaGreatDoorRpB
import Derived.Test.YtoldppbakapohaaGreatDoorGwA
import Derived.Test.YtoldppbakapohaaGreatDoorTlB
import Derived.Test.YtoldppbakapohaaGreatDoorMwA
import Derived.Test.YtoldppbakapohaaGreatDoorCoA
import Derived.Test.YtoldppbakapohaaGreatDoorMathA
import Derived.Test.YtoldppbakapohaaGreatDoorByZ
import Derived.Test.YtoldppbakapohaaGreatDoorByMake
import Derived.Test.YtoldppbakapohaaGreatDoorBwA
set_option maxRecDepth 8000
namespace Go.Proofs.YtoldppbakapohaaGreatDoor.Ey
open Go.RowKit Tl Co Ms Cf Ad By Rp Ky Rc Ew Jw La Tb Pk Al Cl Eg
open Dw (ba ba_size ba_data ba_list)
open Pw (alloc_more celM_all boxM)
open Vw (Cx isB cel3C)
open Rpw (zc13)

theorem tr {a b c : World} (h : Below a.heap.size a b) (h2 : Below b.heap.size b c) : Below a.heap.size a c := h.trans (h2.mono h.size)

theorem refEnd_any (now time : Int) (w : World) (ht : 0 ≤ time ∧ time ≤ 4294967295) (hn : 0 ≤ now ∧ now ≤ 1125899906842624) :
    Calls Tryz.prog 22 #[.int .i64 now, .int .i64 time] w fun e w' => e = .returned (.int .i64 (endE now time)) ∧ w = w' := by
  by_cases hg : 1125899906842624 - time < now
  · have H : Hid (endE now time = 1125899906842624) := if_pos hg
    go_enter Tryz.func22, Tryz.ntmps22
    go_wp2
    go_ret
    exact ⟨by rw [H.out]; rfl, rfl⟩
  · have H : Hid (endE now time = now + time) := if_neg hg
    go_enter Tryz.func22, Tryz.ntmps22
    go_wp2
    go_ret
    exact ⟨by rw [H.out]; rfl, rfl⟩

/-! ### ended -/

/-! ### sent -/
theorem sn_sub (c : Cf) (n s : Int) : Rpw.subAt c n s = snC c n s := rfl
end Go.Proofs.YtoldppbakapohaaGreatDoor.Ey
