/- A lease by value is equal to itself. -/
import Derived.Test.YtniocdbapkkdhaaEwBox
import Derived.Laws.StructEq
set_option maxRecDepth 8000
namespace Go.Proofs.Ytniocdbapkkdhaa.Ew
open Go.RowKit Co By Ky Rc
open Dw (ba ba_size ba_data ba_list)

theorem leq_self (l : L) (W : World) : (binOp .eql 26 (lv l) (lv l)).run Try.prog W = .ok (.bool true) W := by
  have hS : Try.prog.underlying 26 = some (.struct (Try.prog.fieldsOf 26)) := by kernel_rfl
  have hp : Try.prog.stoodInHeld 26 = false := by kernel_rfl
  have u3 := Try.underlying3
  have a3 := Try.isAgg3
  have z3 := Try.sizeOf3
  have u9 := Try.underlying9
  have a9 := Try.isAgg9
  have z9 := Try.sizeOf9
  rw [run_eql_struct, show (10000 : Nat) = 9999 + 1 from rfl, run_equalIn_agg W 9999 26 _ _ hS hp]
  simp only [Program.fieldsOf, Try.underlying26]
  go_simp
end Go.Proofs.Ytniocdbapkkdhaa.Ew
