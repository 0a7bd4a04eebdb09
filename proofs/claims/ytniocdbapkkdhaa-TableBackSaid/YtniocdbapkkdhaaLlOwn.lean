/- A row of leases that the call owns; slices.Clone. For rows of less than a million leases. -/
import Derived.Test.YtniocdbapkkdhaaJlKit
set_option maxRecDepth 8000
namespace Go.Proofs.Ytniocdbapkkdhaa.Lw
open Go.RowKit Go.Lib Co By Ky Rc Ew Jw
open Dw (ba ba_size ba_data ba_list alloc_more)

theorem own_lt {B g n c : Nat} {w : World} {l : List L} (h : OwnLs B w (some ⟨g, 0, none⟩) n c l) : g < w.heap.size ∧ B ≤ g := by
  have := World.ownsRow.lt h.1 g rfl
  exact ⟨this.2, this.1⟩
/-- A slice of the call's own that holds the leases l. -/
def OwL (B : Nat) (w : World) (l : List L) (e : Ending) (w' : World) : Prop := ∃ A' k c', e = .returned (.slice A' k c') ∧ OwnLs B w' A' k c' l ∧ Below B w w'
theorem litL0 (w : World) : OwnLs w.heap.size (w.alloc (.cells #[] 26)) (some ⟨w.heap.size, 0, none⟩) 0 0 [] := ⟨World.ownsRow_lit w #[] 0 (Nat.le_refl _) (by unfold maxLen; omega) rfl, rfl⟩
end Go.Proofs.Ytniocdbapkkdhaa.Lw
