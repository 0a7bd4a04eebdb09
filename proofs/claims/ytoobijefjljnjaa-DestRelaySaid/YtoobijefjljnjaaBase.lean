/- Small words that all layers' walks share. -/
import Derived.Test.YtoobijefjljnjaaByKit
import Derived.Test.YtoobijefjljnjaaRows
import Derived.WalkKit
import Derived.Deep.Draws
namespace Go.Proofs.Ytoobijefjljnjaa
open Go.RowKit By

theorem own : ownKnob Try.prog.godebug = none := by kernel_rfl
theorem ret_int {k : IntKind} {a b : Int} (h : a = b) : Ending.returned (.int k a) = .returned (.int k b) := by rw [h]
theorem ret_bool {a b : Bool} (h : a = b) : Ending.returned (.bool a) = .returned (.bool b) := by rw [h]
/-- A law's walk: it returned true; nothing that was there has turned. -/
def isTrue (w : World) (e : Ending) (w' : World) : Prop := e = .returned (.bool true) ∧ Below w.heap.size w w'
theorem below_drewN {B : Nat} {a w : World} (h : Below B a w) (n : Nat) : Below B a (w.drewN n) := ⟨h.os, h.tape, h.output, h.size, h.block⟩
def lenV : Value → Nat
  | .slice _ m _ => m
  | _ => 0
theorem byP : ByP Try.prog 22 5 9 := ⟨Try.underlying22, Try.underlying5, Try.underlying9, by kernel_rfl⟩
end Go.Proofs.Ytoobijefjljnjaa
