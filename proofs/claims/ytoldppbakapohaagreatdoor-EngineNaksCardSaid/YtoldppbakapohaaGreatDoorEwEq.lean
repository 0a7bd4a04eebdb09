/- A lease by value is equal to itself. -/
import Derived.Test.YtoldppbakapohaaGreatDoorEwA
import Derived.Laws.StructEq
set_option maxRecDepth 8000
namespace Go.Proofs.YtoldppbakapohaaGreatDoor.Ew
open Go.RowKit Co By Ky Rc
open Dw (ba ba_size ba_data ba_list)

theorem leq_self (l : L) (W : World) : (binOp .eql 35 (lv l) (lv l)).run Tryz.prog W = .ok (.bool true) W := by
  have hS : Tryz.prog.underlying 35 = some (.struct (Tryz.prog.fieldsOf 35)) := by kernel_rfl
  have hp : Tryz.prog.stoodInHeld 35 = false := by kernel_rfl
  have u3 := Tryz.underlying3
  have a3 := Tryz.isAgg3
  have z3 := Tryz.sizeOf3
  have u9 := Tryz.underlying9
  have a9 := Tryz.isAgg9
  have z9 := Tryz.sizeOf9
  rw [run_eql_struct, show (10000 : Nat) = 9999 + 1 from rfl, run_equalIn_agg W 9999 35 _ _ hS hp]
  simp only [Program.fieldsOf, Tryz.underlying35]
  go_simp
end Go.Proofs.YtoldppbakapohaaGreatDoor.Ew
