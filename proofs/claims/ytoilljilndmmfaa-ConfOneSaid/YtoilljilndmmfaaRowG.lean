/- A slice whose elements lie in a row of cells each, as an argument, opened. No conditions of their own. -/
import Derived.Test.YtoilljilndmmfaaRowO
import Derived.Test.YtoilljilndmmfaaBaKit
import Derived.ChangeMaps5
set_option maxRecDepth 100000
namespace Go.Proofs.Ytoilljilndmmfaa
open Go.ChangeShapes Go.WideShapes Go.ChangeAt Go.RowKit By Dw

section
variable {H : Type} {enc : TypeId × Value → H} {P : Program}
/-- A cell that reads as a slice whose elements lie in a row of cells each. -/
theorem rdg_of_trod {α : Type} {Y : Lay α} {TT E : TypeId} {W : World} {base : Nat} {held : Bool} {fuel : Nat} {v : Value} {x : DataW H × List MemPlace} (hTT : P.underlying TT = some (.slice E)) (hc : P.cellsOf E = Y.s) (hs0 : 0 < Y.s) (ok : α → Prop)
    (hel : ∀ n cs y, DataW.trod enc P W base (fun _ => true) held n E cs = some y → ∃ a, cs = Y.cs a ∧ ok a) (hf : DataW.trod enc P W base (fun _ => true) held fuel TT [v] = some x) :
    ∃ A n c l, v = .slice A n c ∧ RdG Y W.heap.size W A n c l ∧ ∀ a ∈ l, ok a := by
  rcases Go.Deep.open_slice hTT hf with ⟨h1, _⟩ | ⟨a, len, cap, m, k, D, Pl, h1, hb, hlc, hmax, hm, _, hrow⟩
  · simp at h1
    exact ⟨none, 0, 0, [], h1, RdG.nil _ _, fun a ha => by cases ha⟩
  · simp only [List.cons.injEq, and_true] at h1
    subst h1
    simp only [if_true] at hm
    have each : ∀ i, i < len → ∃ p : α, (∀ j u, (Y.cs p)[j]? = some u → W.cell? (a.add (i * Y.s + j)) = some u) ∧ ok p := fun i hi => by
      obtain ⟨cs', g1, g2⟩ := hrow i (by omega)
      rw [hc] at g1
      obtain ⟨_, hlen, hcell⟩ := World.cells?_some g1
      obtain ⟨p, rfl, hok⟩ := hel _ _ _ g2
      refine ⟨p, fun j u hu => ?_, hok⟩
      have hj : j < (Y.cs p).length := (List.getElem?_eq_some_iff.1 hu).1
      have hjs : j < Y.s := by rw [Y.len] at hj; exact hj
      have := hcell j hjs
      rw [Go.Deep.add_add] at this
      rw [this, hu]
    obtain ⟨l, hlen, hl⟩ := list_of_all len each
    refine ⟨some a, len, cap, l, rfl, ⟨hlen, hlc, hmax, fun hn => ?_⟩, fun p hp => ?_⟩
    · have hp0 := (hl 0 (by omega)).1
      have hc0 : 0 < (Y.cs (l[0]'(by omega))).length := by rw [Y.len]; exact hs0
      have := hp0 0 _ (List.getElem?_eq_getElem hc0)
      rw [Nat.zero_mul, Nat.zero_add] at this
      obtain ⟨b, o, rfl⟩ := plain_addr this
      rw [add_none] at this
      refine ⟨b, o, rfl, World.block_lt_of_cell? W _ this, fun i hi => ?_⟩
      rw [Y.cells_len] at hi
      have hq : i / Y.s < l.length := (Nat.div_lt_iff_lt_mul hs0).2 hi
      have hr : i % Y.s < Y.s := Nat.mod_lt _ hs0
      have hcr : i % Y.s < (Y.cs (l[i / Y.s]'hq)).length := by rw [Y.len]; exact hr
      have h2 := (hl (i / Y.s) hq).1 (i % Y.s) _ (List.getElem?_eq_getElem hcr)
      rw [add_none] at h2
      have hi3 : i / Y.s * Y.s + i % Y.s = i := Nat.div_add_mod' i Y.s
      rw [hi3] at h2
      rw [h2]
      have h3 := Y.cells_get hq (List.getElem?_eq_getElem hcr)
      rw [hi3] at h3
      rw [List.getElem?_eq_some_iff] at h3
      obtain ⟨_, h3⟩ := h3
      rw [h3]
    · obtain ⟨i, hi, rfl⟩ := List.mem_iff_getElem.1 hp
      exact (hl i hi).2
theorem str_fits {s : ByteArray} (h : s.size ≤ maxLen) : s.data.toList.length ≤ 9223372036854775807 := by
  have e : s.data.toList.length = s.size := Array.length_toList
  unfold maxLen at h
  omega
end
end Go.Proofs.Ytoilljilndmmfaa
