/- Words for a message that a call has boxed, and what boarderlaw04's Great says of its options. No conditions. -/
import Derived.Test.YtoobijefjljnjaaMwRef1
import Derived.Test.YtoobijefjljnjaaByU
set_option maxRecDepth 8000
namespace Go.Proofs.Ytoobijefjljnjaa.Pw
open Go.RowKit Tl Co Ms By
theorem alloc_more (w : World) (o : Obj) : Below w.heap.size w (w.alloc o) := (Below.refl _ _).alloc (Nat.le_refl _) _
theorem small_ps {ps : List Po} (h : Tw.greatL (osP ps) = false) : ∀ p ∈ ps, p.l.length ≤ 1000 := fun p hp => by
  unfold Tw.greatL at h
  rw [Bool.or_eq_false_iff, List.any_eq_false] at h
  have := h.1 p.o (os_mem hp)
  simp only [decide_eq_true_eq] at this
  have h2 : p.o.2.length = p.l.length := rfl
  omega
theorem small_ms {x : Mv} (h : Mw.greatM x.mm = false) : ∀ p ∈ x.ps, p.l.length ≤ 1000 := by
  unfold Mw.greatM at h
  rw [Bool.or_eq_false_iff] at h
  exact small_ps h.2
theorem boxM (w : World) (x : Mv) (t : TypeId) : ∃ w0, w0 = w.alloc (.cells x.cells t) ∧ Cel w0 w.heap.size t x.cells ∧ Below w.heap.size w w0 ∧ w0.heap.size = w.heap.size + 1 := ⟨_, rfl, Cel.born _ _ _, alloc_more _ _, by simp⟩
theorem celM {w : World} {g : Nat} {t : TypeId} {x : Mv} (h : Cel w g t x.cells) : w.cell? ⟨g, 7, none⟩ = some (.int .i64 x.ci) ∧ w.cell? ⟨g, 10, none⟩ = some (.int .i64 x.gi) ∧ w.cell? ⟨g, 12, none⟩ = some (.slice x.B x.m x.d) := ⟨by rw [h.cell]; rfl, by rw [h.cell]; rfl, by rw [h.cell]; rfl⟩
theorem celM_all {w : World} {g : Nat} {t : TypeId} {x : Mv} (h : Cel w g t x.cells) : (w.cell? ⟨g, 0, none⟩ = some (.int .i64 x.op) ∧ w.cell? ⟨g, 1, none⟩ = some (.int .i64 x.htype) ∧ w.cell? ⟨g, 2, none⟩ = some (.int .i64 x.hlen) ∧ w.cell? ⟨g, 3, none⟩ = some (.int .i64 x.hops) ∧ w.cell? ⟨g, 4, none⟩ = some (.int .i64 x.xid) ∧ w.cell? ⟨g, 5, none⟩ = some (.int .i64 x.secs) ∧ w.cell? ⟨g, 6, none⟩ = some (.int .i64 x.flags)) ∧ w.cell? ⟨g, 7, none⟩ = some (.int .i64 x.ci) ∧ w.cell? ⟨g, 8, none⟩ = some (.int .i64 x.yi) ∧ w.cell? ⟨g, 9, none⟩ = some (.int .i64 x.si) ∧ w.cell? ⟨g, 10, none⟩ = some (.int .i64 x.gi) ∧ w.cell? ⟨g, 11, none⟩ = some (.slice x.A x.n x.c) ∧ w.cell? ⟨g, 12, none⟩ = some (.slice x.B x.m x.d) :=
  ⟨⟨by rw [h.cell]; rfl, by rw [h.cell]; rfl, by rw [h.cell]; rfl, by rw [h.cell]; rfl, by rw [h.cell]; rfl, by rw [h.cell]; rfl, by rw [h.cell]; rfl⟩, by rw [h.cell]; rfl, by rw [h.cell]; rfl, by rw [h.cell]; rfl, by rw [h.cell]; rfl, by rw [h.cell]; rfl, by rw [h.cell]; rfl⟩
end Go.Proofs.Ytoobijefjljnjaa.Pw
