/- Arguments of type []api.Lease, opened. No conditions of their own. -/
import Derived.Test.YtniocdbapkkdhaaRowL
import Derived.Test.YtniocdbapkkdhaaRowG
import Derived.Test.YtniocdbapkkdhaaJlKit
set_option maxRecDepth 100000
namespace Go.Proofs.Ytniocdbapkkdhaa
open Go.ChangeShapes Go.WideShapes Go.ChangeAt Go.RowKit By Ew Rc Jw

section
variable {H : Type} {enc : TypeId × Value → H}
/-- An argument of type []api.Lease. -/
theorem open_leases {base b0 : Nat} {held : Bool} {r : Reach} {W : World} {v : Value} {d : DataW H} {ps : List MemPlace}
    (hval : Value.okWide Try.prog W r b0 22 v) (h : DataW.Trod enc Try.prog W base (fun _ => true) held 22 v d ps) : ∃ A n c l, v = .slice A n c ∧ RdLs W.heap.size W A n c l ∧ ∀ a ∈ l, Fk a := by
  obtain ⟨A, n, c, rfl⟩ := okWide_slice Try.underlying22 hval
  obtain ⟨fuel, hf⟩ := h
  obtain ⟨A', n', c', l, e, h1, h2⟩ := rdg_of_trod (Y := layL) Try.underlying22 (by kernel_rfl) (by decide) Fk (fun n cs y hy => lease_of_trod hy) (by simpa [Value.cells] using hf)
  exact ⟨A', n', c', l, e, h1, h2⟩
end
end Go.Proofs.Ytniocdbapkkdhaa
