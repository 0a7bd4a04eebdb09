/- Words for slices of leases. No conditions but those that each theorem names. -/
import Derived.Test.YtniocdbapkkdhaaEwBox
set_option maxRecDepth 8000
namespace Go.Proofs.Ytniocdbapkkdhaa.Jw
open Go.RowKit Co By Ky Rc Ew
open Dw (ba ba_size ba_data ba_list)

/-! ### Leases -/
def layL : Lay L := ⟨4, fun l => [.int .i64 l.addr, .int .i64 l.state, .int .i64 l.till, .string (ba l.key)], fun _ => rfl, fun l u hu => by
  simp only [List.mem_cons, List.not_mem_nil, or_false] at hu
  rcases hu with rfl | rfl | rfl | rfl <;> rfl⟩
abbrev RdLs (U : Nat) (w : World) (A : Option Addr) (n c : Nat) (l : List L) : Prop := RdG layL U w A n c l
abbrev OwnLs (B : Nat) (w : World) (A : Option Addr) (n c : Nat) (l : List L) : Prop := OwnG layL 26 B w A n c l
theorem lesP : RgP Try.prog 22 26 layL (.agg #[.int .i64 0, .int .i64 0, .int .i64 0, .string ⟨#[]⟩]) 40 := ⟨Try.underlying22, by kernel_rfl⟩
/-- One lease of a slice that reads. -/
theorem atL {U : Nat} {w : World} {A : Option Addr} {n c : Nat} {l : List L} (h : RdLs U w A n c l) {k : Nat} (hk : k < n) : ∃ b o a, A = some ⟨b, o, none⟩ ∧ b < U ∧ Hid (l[k]? = some a) ∧
    w.cell? ⟨b, o + k * 4, none⟩ = some (.int .i64 a.addr) ∧ w.cell? ⟨b, o + k * 4 + 1, none⟩ = some (.int .i64 a.state) ∧ w.cell? ⟨b, o + k * 4 + 2, none⟩ = some (.int .i64 a.till) ∧ w.cell? ⟨b, o + k * 4 + 3, none⟩ = some (.string (ba a.key)) := by
  obtain ⟨b, o, e, hU, a, hl, hc⟩ := h.at_ hk
  exact ⟨b, o, a, e, hU, hl, hc 0 _ rfl, hc 1 _ rfl, hc 2 _ rfl, hc 3 _ rfl⟩
/-- A literal of one lease. -/
theorem litL (w : World) (l : L) : RdLs (w.heap.size + 1) (w.alloc (.cells (lcs l) 26)) (some ⟨w.heap.size, 0, none⟩) 1 1 [l] := by
  have := (OwnG.lit (Y := layL) 26 w [l] (by simp)).rd
  have e : (w.alloc (.cells (layL.cells [l]).toArray 26)).heap.size = w.heap.size + 1 := by simp
  rw [e, layL.cells_one] at this
  exact this
end Go.Proofs.Ytniocdbapkkdhaa.Jw
