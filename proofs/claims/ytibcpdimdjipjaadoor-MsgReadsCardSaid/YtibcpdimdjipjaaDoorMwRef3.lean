/- What the document's Read (boarderref04) leans on: its result in a cell, the cookie's four bytes, and that what reads as bytes or as right options lies in no block of noughts. -/
import Derived.Test.YtibcpdimdjipjaaDoorMwRef2
import Derived.Test.YtibcpdimdjipjaaDoorMwRw
import Derived.Test.YtibcpdimdjipjaaDoorCoLeaf
set_option maxRecDepth 8000
namespace Go.Proofs.YtibcpdimdjipjaaDoor.Mw
open Go.RowKit Tl Ms Co By

theorem ret_cellR {fn : Func} {p u : Tmp} (hres : fn.results = #[.cell p 32, .tmp u]) (tmps : Array Value) (w : World) (g : Nat) (cs : Array Value) (hp : tmps.getD p undef = .pointer (some ⟨g, 0, none⟩)) (hc : Cel w g 32 cs) (hs : cs.size = 13) :
    (results fn tmps).run Tryd.prog w = .ok (.tuple #[.agg cs, tmps.getD u undef]) w := by
  rw [results_cell_tmp hres, hp]
  have := run_loadVar_row (P := Tryd.prog) w g 32 32 cs (0, 0) _ hc Tryd.underlying32 rfl (by rw [hs]; kernel_rfl)
  simp [asAddr, this]
theorem sub4 {l : List UInt8} {i : Nat} (h : i + 3 < l.length) : sub l i 4 = [l[i], l[i + 1], l[i + 2], l[i + 3]] := by
  unfold sub
  rw [List.drop_eq_getElem_cons (show i < l.length by omega), List.take_succ_cons, List.drop_eq_getElem_cons (show i + 1 < l.length by omega), List.take_succ_cons, List.drop_eq_getElem_cons (show i + 1 + 1 < l.length by omega), List.take_succ_cons, List.drop_eq_getElem_cons (show i + 1 + 1 + 1 < l.length by omega), List.take_succ_cons, List.take_zero]
theorem zero_cell {w : World} {r : Nat} {t : TypeId} (h : Cel w r t zeroV.cells) {o : Nat} {v : Value} (hv : w.cell? ⟨r, o, none⟩ = some v) : v = .int .i64 0 ∨ v = .slice none 0 0 := by
  rw [h.cell] at hv
  match o, hv with
  | 0, hv | 1, hv | 2, hv | 3, hv | 4, hv | 5, hv | 6, hv | 7, hv | 8, hv | 9, hv | 10, hv => cases hv; exact .inl rfl
  | 11, hv | 12, hv => cases hv; exact .inr rfl
  | _ + 13, hv => cases hv
/-- What reads as bytes does not lie in a block of a message's noughts. -/
theorem bs_far {w w' : World} {A : Option Addr} {n c r : Nat} {t : TypeId} {l : List UInt8} (h : Bs w A n c l) (hz : Cel w r t zeroV.cells) (hk : ∀ b, b ≠ r → b < w.heap.size → w'.heap[b]? = w.heap[b]?) : Bs w' A n c l :=
  ⟨h.1, h.2.1, h.2.2.1, fun hn => by
    obtain ⟨b, o, e, hc⟩ := h.2.2.2 hn
    refine ⟨b, o, e, fun i hi => ?_⟩
    have hne : b ≠ r := fun k => by
      subst k
      rcases zero_cell hz (hc i hi) with q | q <;> cases q
    exact (World.cell?_of_block (w := w) (a := ⟨b, o + i, none⟩) (hk b hne (World.block_lt_of_cell? w _ (hc i hi)))).trans (hc i hi)⟩
theorem rd_far {w w' : World} {A : Option Addr} {n c r : Nat} {t : TypeId} {ps : List Po} (h : RdO w A n c ps) (h0 : ∀ p ∈ ps, p.code ≠ 0) (hz : Cel w r t zeroV.cells) (hk : ∀ b, b ≠ r → b < w.heap.size → w'.heap[b]? = w.heap[b]?) : RdO w' A n c ps :=
  ⟨⟨h.1.1, h.1.2.1, h.1.2.2.1, fun hn => by
    obtain ⟨b, o, e, hc⟩ := h.1.2.2.2 hn
    refine ⟨b, o, e, fun i hi => ?_⟩
    have hne : b ≠ r := fun k => by
      subst k
      obtain ⟨b', o', co, A', m, c', l, e', h1, _, _, HP, _⟩ := h.at_ hn
      have hbb : b' = b := by rw [e] at e'; cases e'; rfl
      subst hbb
      rcases zero_cell hz h1 with q | q
      · cases q
        exact h0 _ (List.mem_of_getElem? HP.out) rfl
      · cases q
    exact (World.cell?_of_block (w := w) (a := ⟨b, o + i, none⟩) (hk b hne (World.block_lt_of_cell? w _ (hc i hi)))).trans (hc i hi)⟩, fun p hp => bs_far (h.2 p hp) hz hk⟩
end Go.Proofs.YtibcpdimdjipjaaDoor.Mw
