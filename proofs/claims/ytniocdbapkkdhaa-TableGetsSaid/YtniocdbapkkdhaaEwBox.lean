/- Words for a lease in a block of its own: its four cells, stores to them, and a call that returns it. -/
import Derived.Test.YtniocdbapkkdhaaEwRight
set_option maxRecDepth 8000
namespace Go.Proofs.Ytniocdbapkkdhaa.Ew
open Go.RowKit Co By Ky Rc
open Dw (ba ba_size ba_data ba_list)

theorem celFr {w : World} {g : Nat} {t : TypeId} {cs : Array Value} (h : Cel w g t cs) (i : Nat) : w.frozen? ⟨g, i, none⟩ = false := by
  unfold Cel at h
  simp [World.frozen?, h]
theorem celPut {w : World} {g : Nat} {t : TypeId} {cs : Array Value} (h : Cel w g t cs) (i : Nat) (v : Value) : Cel (w.setCell ⟨g, i, none⟩ v) g t (cs.setIfInBounds i v) := by
  unfold Cel at *
  rw [setCell_eq_setRow w g i cs t (0, 0) v h]
  exact setRow_heap w g cs _ t _ h
theorem celFar {w : World} {g g' : Nat} {t : TypeId} {cs : Array Value} (h : Cel w g t cs) (i : Nat) (v : Value) (hne : g ≠ g') : Cel (w.setCell ⟨g', i, none⟩ v) g t cs := by
  unfold Cel at *
  rw [Below.heap_setCell w ⟨g', i, none⟩ v g hne]
  exact h
theorem celFr4 {w : World} {g : Nat} {t : TypeId} {cs : Array Value} (h : Cel w g t cs) : w.frozen? ⟨g, 0, none⟩ = false ∧ w.frozen? ⟨g, 1, none⟩ = false ∧ w.frozen? ⟨g, 2, none⟩ = false ∧ w.frozen? ⟨g, 3, none⟩ = false := ⟨celFr h 0, celFr h 1, celFr h 2, celFr h 3⟩
/-- The lease l stored to the block g whole. -/
@[reducible] def put4 (w : World) (g : Nat) (l : L) : World := (((w.setCell ⟨g, 0, none⟩ (.int .i64 l.addr)).setCell ⟨g, 1, none⟩ (.int .i64 l.state)).setCell ⟨g, 2, none⟩ (.int .i64 l.till)).setCell ⟨g, 3, none⟩ (.string (ba l.key))
theorem celPut4 {w : World} {g : Nat} {t : TypeId} {m l : L} (h : Cel w g t (lcs m)) : Cel (put4 w g l) g t (lcs l) := celPut (celPut (celPut (celPut h 0 _) 1 _) 2 _) 3 _
theorem belowPut4 {B : Nat} {v w : World} (h : Below B v w) {g : Nat} (hg : B ≤ g) (l : L) : Below B v (put4 w g l) :=
  (((h.setCell (p := ⟨g, 0, none⟩) hg _).setCell (p := ⟨g, 1, none⟩) hg _).setCell (p := ⟨g, 2, none⟩) hg _).setCell (p := ⟨g, 3, none⟩) hg _
theorem cellPut4 (w : World) (g : Nat) (l : L) (p : Addr) (h : p.block ≠ g) : (put4 w g l).cell? p = w.cell? p := by
  simp only [put4, World.cell?]
  rw [Below.heap_setCell _ ⟨g, 3, none⟩ _ p.block h, Below.heap_setCell _ ⟨g, 2, none⟩ _ p.block h, Below.heap_setCell _ ⟨g, 1, none⟩ _ p.block h, Below.heap_setCell _ ⟨g, 0, none⟩ _ p.block h]
theorem ret_lease2 {fn : Func} {p u : Tmp} (hres : fn.results = #[.cell p 26, .tmp u]) (tmps : Array Value) (w : World) (g : Nat) (l : L) (hp : tmps.getD p undef = .pointer (some ⟨g, 0, none⟩)) (hc : Cel w g 26 (lcs l)) :
    (results fn tmps).run Try.prog w = .ok (.tuple #[lv l, tmps.getD u undef]) w := by
  rw [results_cell_tmp hres, hp]
  have := run_loadVar_row (P := Try.prog) w g 26 26 (lcs l) (0, 0) _ hc Try.underlying26 rfl (by kernel_rfl)
  simp [asAddr, this]
/-- What a call that answers a lease and an error answers. -/
def RdL (w : World) (p : L × Int) (e : Ending) (w' : World) : Prop := e = .returned (.tuple #[lv p.1, .int .i64 p.2]) ∧ Below w.heap.size w w'
theorem val_one {l : List UInt8} (h : 4 < l.length) : valL ((l.drop 4).take 1) = (l.getD 4 0).toNat := by
  rw [List.drop_eq_getElem_cons h, List.take_succ_cons, List.take_zero, List.getD_eq_getElem?_getD, List.getElem?_eq_getElem h]
  show 0 * 256 + _ = _
  simp
end Go.Proofs.Ytniocdbapkkdhaa.Ew
