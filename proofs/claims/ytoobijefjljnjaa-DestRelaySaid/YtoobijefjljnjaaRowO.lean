/- An argument of type []api.Opt, as a list of options. No conditions. -/
import Derived.Test.YtoobijefjljnjaaRowB
import Derived.Test.YtoobijefjljnjaaOpKit
import Derived.Deep.SlicePairs
namespace Go.Proofs.Ytoobijefjljnjaa
open Go.ChangeShapes Go.WideShapes Go.ChangeAt Go.RowKit By

theorem list_of_all {α : Type} {Q : Nat → α → Prop} : ∀ (n : Nat), (∀ i, i < n → ∃ x, Q i x) → ∃ xs : List α, xs.length = n ∧ ∀ i (h : i < xs.length), Q i xs[i]
  | 0, _ => ⟨[], rfl, fun i h => absurd h (Nat.not_lt_zero i)⟩
  | n + 1, h => by
    obtain ⟨xs, hl, hx⟩ := list_of_all n fun i hi => h i (by omega)
    obtain ⟨x, hn⟩ := h n (by omega)
    refine ⟨xs ++ [x], by simp [hl], fun i hi => ?_⟩
    by_cases k : i < xs.length
    · rw [List.getElem_append_left k]; exact hx i k
    · have e : i = n := by simp at hi; omega
      subst e
      rw [List.getElem_append_right (by omega)]
      simpa [hl] using hn
section
variable {H : Type} {enc : TypeId × Value → H} {P : Program}
theorem plain_addr {W : World} {a : Addr} {u : Value} (h : W.cell? (a.add 0) = some u) : ∃ b o, a = ⟨b, o, none⟩ := by
  obtain ⟨b, o, s⟩ := a
  cases s with
  | none => exact ⟨b, o, rfl⟩
  | some s =>
    simp [World.cell?, Addr.add] at h
    split at h <;> cases h
/-- A cell that reads as []byte. -/
theorem bs_of_trod {T e S : TypeId} (hp : ByP P T e S) (hc : P.cellsOf e = 1) {base : Nat} {spare : Nat → Bool} {held : Bool} {W : World} {v : Value} {n : Nat} {x : DataW H × List MemPlace}
    (h : DataW.trod enc P W base spare held n T [v] = some x) : ∃ A m c l, v = .slice A m c ∧ Bs W A m c l := by
  rcases open_ints hp.hT hp.he hc h with ⟨h1, _⟩ | ⟨a, len, cap, zs, h1, _, hlc, hm, hz, _, hcell, hwf⟩
  · simp at h1
    exact ⟨none, 0, 0, [], h1, Bs.nil W⟩
  · simp at h1
    have hzl : len ≤ zs.length := by
      rw [hz]
      split <;> omega
    refine ⟨some a, len, cap, (zs.take len).map (fun z => UInt8.ofNat z.toNat), h1, by simp; omega, hlc, hm, fun hn => ?_⟩
    obtain ⟨b, o, rfl⟩ := plain_addr (hcell 0 (by omega))
    refine ⟨b, o, rfl, fun i hi => ?_⟩
    simp only [List.length_map, List.length_take] at hi
    have hi' : i < zs.length := by omega
    have := hcell i hi'
    rw [add_none] at this
    rw [this]
    have hr : 0 ≤ zs[i] ∧ zs[i] < 256 := byte_wf (hwf zs[i] (List.getElem_mem _))
    simp [List.getD, List.getElem?_eq_getElem hi']
    omega
/-- An argument of type []api.Opt. -/
theorem open_os {TT E I T e S : TypeId} {f0 f1 : Field} (hp : ByP P T e S) (hc : P.cellsOf e = 1) (hTT : P.underlying TT = some (.slice E)) (hE : P.underlying E = some (.struct #[f0, f1])) (hI : P.underlying I = some (.int .i64))
    (t0 : f0.type = I) (t1 : f1.type = T) (ce : P.cellsOf E = 2) (o0 : f0.offset = 0) (o1 : f1.offset = 1) (c0 : P.cellsOf f0.type = 1) (c1 : P.cellsOf f1.type = 1)
    {base b0 : Nat} {held : Bool} {r : Reach} {W : World} {v : Value} {d : DataW H} {ps : List MemPlace}
    (hval : Value.okWide P W r b0 TT v) (h : DataW.Trod enc P W base (fun _ => true) held TT v d ps) : ∃ A n c qs, v = .slice A n c ∧ RdO W A n c qs := by
  obtain ⟨A, n, c, rfl⟩ := okWide_slice hTT hval
  obtain ⟨fuel, hf⟩ := h
  rcases Go.Deep.open_slice_pairs hTT hE ce o0 o1 c0 c1 hf with ⟨h1, _⟩ | ⟨a, len, cap, m, k, V0, V1, D0, D1, P0, P1, h1, _, hlc, hmax, hm, _, hrow⟩
  · simp [Value.cells] at h1
    obtain ⟨rfl, rfl, rfl⟩ := h1
    exact ⟨none, 0, 0, [], rfl, RdO.nil W⟩
  · simp [Value.cells] at h1
    obtain ⟨rfl, rfl, rfl⟩ := h1
    simp only [if_true] at hm
    have each : ∀ i, i < n → ∃ p : Po, W.cell? (a.add (i * 2)) = some (.int .i64 p.code) ∧ W.cell? (a.add (i * 2 + 1)) = some p.dv ∧ p.bs W := fun i hi => by
      obtain ⟨g1, g2, g3, g4⟩ := hrow i (by omega)
      rw [t0] at g3
      rw [t1] at g4
      obtain ⟨z, hz, _, _⟩ := DataW.trod_int hI g3
      obtain ⟨A', m', c', l', hv, hbs⟩ := bs_of_trod hp hc g4
      simp at hz
      rw [hz] at g1
      rw [hv] at g2
      have hl := hbs.len
      subst hl
      exact ⟨⟨z, A', c', l'⟩, g1, g2, hbs⟩
    obtain ⟨qs, hlen, hqs⟩ := list_of_all n each
    refine ⟨some a, n, c, qs, rfl, ⟨by rw [cellsP_len, hlen], hlc, hmax, fun hn => ?_⟩, fun p hp => ?_⟩
    · obtain ⟨b, o, rfl⟩ := plain_addr (by have := (hqs 0 (by omega)).1; simpa using this)
      refine ⟨b, o, rfl, fun i hi => ?_⟩
      rw [cellsP_len, hlen] at hi
      obtain ⟨j, hj⟩ : ∃ j, i = j * 2 ∨ i = j * 2 + 1 := ⟨i / 2, by omega⟩
      rcases hj with rfl | rfl
      · have hjl : j < qs.length := by omega
        have g := (hqs j hjl).1
        have gc := (cellsP_get hjl).1
        rw [add_none] at g
        rw [g, ← gc, List.getElem?_eq_getElem]
      · have hjl : j < qs.length := by omega
        have g := (hqs j hjl).2.1
        have gc := (cellsP_get hjl).2
        rw [add_none] at g
        rw [g, ← gc, List.getElem?_eq_getElem]
    · obtain ⟨i, hi, rfl⟩ := List.mem_iff_getElem.1 hp
      exact (hqs i hi).2.2
end
end Go.Proofs.Ytoobijefjljnjaa
