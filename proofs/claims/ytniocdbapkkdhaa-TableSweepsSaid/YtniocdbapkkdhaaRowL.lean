/- Arguments of type api.Lease, opened. No conditions of their own. -/
import Derived.Test.YtniocdbapkkdhaaEwKit
import Derived.Test.YtniocdbapkkdhaaRowB
import Derived.ChangeMaps5
set_option maxRecDepth 100000
namespace Go.Proofs.Ytniocdbapkkdhaa
open Go.ChangeShapes Go.WideShapes Go.ChangeAt Go.RowKit By Ew Rc
open Dw (ba)

section
variable {H : Type} {enc : TypeId × Value → H}
/-- The four cells of a lease that reads. -/
theorem lease_of_trod {base : Nat} {held : Bool} {W : World} {n : Nat} {cs : List Value} {y : DataW H × List MemPlace} (hy : DataW.trod enc Try.prog W base (fun _ => true) held n 26 cs = some y) : ∃ l : L, cs = (lcs l).toList ∧ Fk l := by
  obtain ⟨xs, k, _, _, hl, hlen, hfs⟩ := DataW.trod_struct Try.underlying26 hy
  have hl4 : cs.length = 4 := hl.trans (by kernel_rfl)
  have ks : Try.prog.cellsOf 9 = 1 := by kernel_rfl
  have ki : Try.prog.cellsOf 3 = 1 := by kernel_rfl
  match cs, hl4, xs, hlen with
  | [c0, c1, c2, c3], _, [y0, y1, y2, y3], _ =>
    have g0 : DataW.trod enc Try.prog W base (fun _ => true) held k 3 [c0] = some y0 := by have := hfs 0 _ rfl; simpa [ki] using this
    have g1 : DataW.trod enc Try.prog W base (fun _ => true) held k 3 [c1] = some y1 := by have := hfs 1 _ rfl; simpa [ki] using this
    have g2 : DataW.trod enc Try.prog W base (fun _ => true) held k 3 [c2] = some y2 := by have := hfs 2 _ rfl; simpa [ki] using this
    have g3 : DataW.trod enc Try.prog W base (fun _ => true) held k 9 [c3] = some y3 := by have := hfs 3 _ rfl; simpa [ks] using this
    obtain ⟨z0, h0, _, _⟩ := DataW.trod_int Try.underlying3 g0
    obtain ⟨z1, h1, _, _⟩ := DataW.trod_int Try.underlying3 g1
    obtain ⟨z2, h2, _, _⟩ := DataW.trod_int Try.underlying3 g2
    obtain ⟨s3, h3, _, hz3⟩ := DataW.trod_string Try.underlying9 g3
    simp only [List.cons.injEq, and_true] at h0 h1 h2 h3
    subst h0 h1 h2 h3
    unfold maxLen at hz3
    have f3 : s3.data.toList.length = s3.size := Array.length_toList
    exact ⟨⟨z0, z1, z2, s3.data.toList⟩, rfl, by show s3.data.toList.length ≤ _; omega⟩
/-- An argument of type api.Lease. -/
theorem open_lease {base b0 : Nat} {held : Bool} {r : Reach} {W : World} {v : Value} {d : DataW H} {ps : List MemPlace}
    (hval : Value.okWide Try.prog W r b0 26 v) (h : DataW.Trod enc Try.prog W base (fun _ => true) held 26 v d ps) : ∃ l : L, v = lv l ∧ Fk l := by
  obtain ⟨cs, rfl, hsz⟩ := okWide_struct Try.underlying26 hval
  obtain ⟨fuel, hf⟩ := h
  obtain ⟨l, ha, hok⟩ := lease_of_trod hf
  refine ⟨l, ?_, hok⟩
  obtain ⟨m⟩ := cs
  simp only [Value.cells] at ha
  show Value.agg _ = Value.agg _
  congr 1
  rw [show m = (lcs l).toList from ha]
end
end Go.Proofs.Ytniocdbapkkdhaa
