/- An argument of type msg.Msg, opened. No conditions of its own. -/
import Derived.Test.YtoldppbakapohaaGreatDoorMwA
import Derived.Test.YtoldppbakapohaaGreatDoorRowA
import Derived.LaidLaws
set_option maxRecDepth 100000
namespace Go.Proofs.YtoldppbakapohaaGreatDoor
open Go.ChangeShapes Go.WideShapes Go.ChangeAt Go.RowKit By

section
variable {H : Type} {enc : TypeId × Value → H}
/-- A cell that reads as []api.Opt. -/
theorem os_of_trod {P : Program} {TT E I T e S : TypeId} {f0 f1 : Field} (hp : ByP P T e S) (hc : P.cellsOf e = 1) (hTT : P.underlying TT = some (.slice E)) (hE : P.underlying E = some (.struct #[f0, f1])) (hI : P.underlying I = some (.int .i64))
    (t0 : f0.type = I) (t1 : f1.type = T) (ce : P.cellsOf E = 2) (o0 : f0.offset = 0) (o1 : f1.offset = 1) (c0 : P.cellsOf f0.type = 1) (c1 : P.cellsOf f1.type = 1)
    {base : Nat} {held : Bool} {W : World} {v : Value} {fuel : Nat} {x : DataW H × List MemPlace}
    (hf : DataW.trod enc P W base (fun _ => true) held fuel TT [v] = some x) : ∃ A n c qs, v = .slice A n c ∧ RdO W A n c qs := by
  rcases Go.Deep.open_slice_pairs hTT hE ce o0 o1 c0 c1 hf with ⟨h1, _⟩ | ⟨a, len, cap, m, k, V0, V1, D0, D1, P0, P1, h1, _, hlc, hmax, hm, _, hrow⟩
  · simp at h1
    subst h1
    exact ⟨none, 0, 0, [], rfl, RdO.nil W⟩
  · simp at h1
    subst h1
    simp only [if_true] at hm
    have each : ∀ i, i < len → ∃ p : Po, W.cell? (a.add (i * 2)) = some (.int .i64 p.code) ∧ W.cell? (a.add (i * 2 + 1)) = some p.dv ∧ p.bs W := fun i hi => by
      obtain ⟨g1, g2, g3, g4⟩ := hrow i (by omega)
      rw [t0] at g3
      rw [t1] at g4
      obtain ⟨z, hz, _, _⟩ := DataW.trod_int hI g3
      obtain ⟨A', m', c', l', hv, hbs⟩ := bs_of_trod hp hc g4
      simp at hz
      rw [hz] at g1
      rw [hv] at g2
      have hl := hbs.len
      subst hl
      exact ⟨⟨z, A', c', l'⟩, g1, g2, hbs⟩
    obtain ⟨qs, hlen, hqs⟩ := list_of_all len each
    refine ⟨some a, len, cap, qs, rfl, ⟨by rw [cellsP_len, hlen], hlc, hmax, fun hn => ?_⟩, fun p hp => ?_⟩
    · obtain ⟨b, o, rfl⟩ := plain_addr (by have := (hqs 0 (by omega)).1; simpa using this)
      refine ⟨b, o, rfl, fun i hi => ?_⟩
      rw [cellsP_len, hlen] at hi
      obtain ⟨j, hj⟩ : ∃ j, i = j * 2 ∨ i = j * 2 + 1 := ⟨i / 2, by omega⟩
      rcases hj with rfl | rfl
      · have hjl : j < qs.length := by omega
        have g := (hqs j hjl).1
        have gc := (cellsP_get hjl).1
        rw [add_none] at g
        rw [g, ← gc, List.getElem?_eq_getElem]
      · have hjl : j < qs.length := by omega
        have g := (hqs j hjl).2.1
        have gc := (cellsP_get hjl).2
        rw [add_none] at g
        rw [g, ← gc, List.getElem?_eq_getElem]
    · obtain ⟨i, hi, rfl⟩ := List.mem_iff_getElem.1 hp
      exact (hqs i hi).2.2
/-- An argument of type msg.Msg. -/
theorem open_msg {base b0 : Nat} {held : Bool} {r : Reach} {W : World} {v : Value} {d : DataW H} {ps : List MemPlace}
    (hval : Value.okWide Tryz.prog W r b0 29 v) (h : DataW.Trod enc Tryz.prog W base (fun _ => true) held 29 v d ps) : ∃ x : Mv, v = x.v ∧ x.ok W := by
  obtain ⟨cs, rfl, hsz⟩ := okWide_struct Tryz.underlying29 hval
  obtain ⟨fuel, hf⟩ := h
  have hsz13 : cs.size = 13 := hsz.trans (by kernel_rfl)
  have k3 : Tryz.prog.cellsOf 3 = 1 := by kernel_rfl
  have kb : Tryz.prog.cellsOf 26 = 1 := by kernel_rfl
  have ko : Tryz.prog.cellsOf 27 = 1 := by kernel_rfl
  obtain ⟨l⟩ := cs
  match l, hsz13 with
  | [c0, c1, c2, c3, c4, c5, c6, c7, c8, c9, c10, c11, c12], _ =>
    obtain ⟨xs, n, _, _, _, hlen, hfs⟩ := DataW.trod_struct Tryz.underlying29 hf
    match xs, hlen with
    | [y0, y1, y2, y3, y4, y5, y6, y7, y8, y9, y10, y11, y12], _ =>
      have g0 : DataW.trod enc Tryz.prog W base (fun _ => true) held n 3 [c0] = some y0 := by have := hfs 0 _ rfl; simpa [k3, Value.cells] using this
      obtain ⟨z0, e0, _, _⟩ := DataW.trod_int Tryz.underlying3 g0
      have g1 : DataW.trod enc Tryz.prog W base (fun _ => true) held n 3 [c1] = some y1 := by have := hfs 1 _ rfl; simpa [k3, Value.cells] using this
      obtain ⟨z1, e1, _, _⟩ := DataW.trod_int Tryz.underlying3 g1
      have g2 : DataW.trod enc Tryz.prog W base (fun _ => true) held n 3 [c2] = some y2 := by have := hfs 2 _ rfl; simpa [k3, Value.cells] using this
      obtain ⟨z2, e2, _, _⟩ := DataW.trod_int Tryz.underlying3 g2
      have g3 : DataW.trod enc Tryz.prog W base (fun _ => true) held n 3 [c3] = some y3 := by have := hfs 3 _ rfl; simpa [k3, Value.cells] using this
      obtain ⟨z3, e3, _, _⟩ := DataW.trod_int Tryz.underlying3 g3
      have g4 : DataW.trod enc Tryz.prog W base (fun _ => true) held n 3 [c4] = some y4 := by have := hfs 4 _ rfl; simpa [k3, Value.cells] using this
      obtain ⟨z4, e4, _, _⟩ := DataW.trod_int Tryz.underlying3 g4
      have g5 : DataW.trod enc Tryz.prog W base (fun _ => true) held n 3 [c5] = some y5 := by have := hfs 5 _ rfl; simpa [k3, Value.cells] using this
      obtain ⟨z5, e5, _, _⟩ := DataW.trod_int Tryz.underlying3 g5
      have g6 : DataW.trod enc Tryz.prog W base (fun _ => true) held n 3 [c6] = some y6 := by have := hfs 6 _ rfl; simpa [k3, Value.cells] using this
      obtain ⟨z6, e6, _, _⟩ := DataW.trod_int Tryz.underlying3 g6
      have g7 : DataW.trod enc Tryz.prog W base (fun _ => true) held n 3 [c7] = some y7 := by have := hfs 7 _ rfl; simpa [k3, Value.cells] using this
      obtain ⟨z7, e7, _, _⟩ := DataW.trod_int Tryz.underlying3 g7
      have g8 : DataW.trod enc Tryz.prog W base (fun _ => true) held n 3 [c8] = some y8 := by have := hfs 8 _ rfl; simpa [k3, Value.cells] using this
      obtain ⟨z8, e8, _, _⟩ := DataW.trod_int Tryz.underlying3 g8
      have g9 : DataW.trod enc Tryz.prog W base (fun _ => true) held n 3 [c9] = some y9 := by have := hfs 9 _ rfl; simpa [k3, Value.cells] using this
      obtain ⟨z9, e9, _, _⟩ := DataW.trod_int Tryz.underlying3 g9
      have g10 : DataW.trod enc Tryz.prog W base (fun _ => true) held n 3 [c10] = some y10 := by have := hfs 10 _ rfl; simpa [k3, Value.cells] using this
      obtain ⟨z10, e10, _, _⟩ := DataW.trod_int Tryz.underlying3 g10
      have g11 : DataW.trod enc Tryz.prog W base (fun _ => true) held n 26 [c11] = some y11 := by have := hfs 11 _ rfl; simpa [kb, Value.cells] using this
      have g12 : DataW.trod enc Tryz.prog W base (fun _ => true) held n 27 [c12] = some y12 := by have := hfs 12 _ rfl; simpa [ko, Value.cells] using this
      obtain ⟨A, m, c, l, e11, hb⟩ := bs_of_trod byP (by kernel_rfl) g11
      obtain ⟨A', m', c', qs, e12, hq⟩ := os_of_trod byP (by kernel_rfl) Tryz.underlying27 Tryz.underlying74 Tryz.underlying3 rfl rfl (by kernel_rfl) rfl rfl (by kernel_rfl) (by kernel_rfl) g12
      simp only [List.cons.injEq, and_true] at e0 e1 e2 e3 e4 e5 e6 e7 e8 e9 e10
      subst e0 e1 e2 e3 e4 e5 e6 e7 e8 e9 e10 e11 e12
      exact ⟨⟨z0, z1, z2, z3, z4, z5, z6, z7, z8, z9, z10, A, m, c, l, A', m', c', qs⟩, rfl, hb, hq⟩
end

end Go.Proofs.YtoldppbakapohaaGreatDoor
