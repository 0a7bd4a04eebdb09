/- Arguments of type api.Config, opened. No conditions of their own. -/
import Derived.Test.YtoilljilndmmfaaVwKit
import Derived.Test.YtoilljilndmmfaaRowG
import Derived.ChangeMaps5
set_option maxRecDepth 100000
namespace Go.Proofs.Ytoilljilndmmfaa
open Go.ChangeShapes Go.WideShapes Go.ChangeAt Go.RowKit By Cf Vw
open Dw (ba)

section
variable {H : Type} {enc : TypeId × Value → H}
theorem pools_of_trod {base : Nat} {held : Bool} {W : World} {fuel : Nat} {v : Value} {x : DataW H × List MemPlace} (hf : DataW.trod enc Try.prog W base (fun _ => true) held fuel 42 [v] = some x) :
    ∃ A n c l, v = .slice A n c ∧ RdPl W.heap.size W A n c l := by
  obtain ⟨A, n, c, l, e, h1, _⟩ := rdg_of_trod (Y := layP) Try.underlying42 (by kernel_rfl) (by decide) (fun _ => True) (fun n cs y hy => by
    obtain ⟨xs, k, _, _, hl, hlen, hfs⟩ := DataW.trod_struct Try.underlying50 hy
    have hl2 : cs.length = 2 := hl.trans (by kernel_rfl)
    have ki : Try.prog.cellsOf 3 = 1 := by kernel_rfl
    match cs, hl2, xs, hlen with
    | [c0, c1], _, [y0, y1], _ =>
      have g0 : DataW.trod enc Try.prog W base (fun _ => true) held k 3 [c0] = some y0 := by have := hfs 0 _ rfl; simpa [ki] using this
      have g1 : DataW.trod enc Try.prog W base (fun _ => true) held k 3 [c1] = some y1 := by have := hfs 1 _ rfl; simpa [ki] using this
      obtain ⟨z0, h0, _, _⟩ := DataW.trod_int Try.underlying3 g0
      obtain ⟨z1, h1, _, _⟩ := DataW.trod_int Try.underlying3 g1
      simp only [List.cons.injEq, and_true] at h0 h1
      subst h0 h1
      exact ⟨⟨z0, z1⟩, rfl, trivial⟩) hf
  exact ⟨A, n, c, l, e, h1⟩
theorem reserved_of_trod {base : Nat} {held : Bool} {W : World} {fuel : Nat} {v : Value} {x : DataW H × List MemPlace} (hf : DataW.trod enc Try.prog W base (fun _ => true) held fuel 43 [v] = some x) :
    ∃ A n c l, v = .slice A n c ∧ RdRs W.heap.size W A n c l ∧ ∀ r ∈ l, Fr r :=
  rdg_of_trod (Y := layR) Try.underlying43 (by kernel_rfl) (by decide) Fr (fun n cs y hy => by
    obtain ⟨xs, k, _, _, hl, hlen, hfs⟩ := DataW.trod_struct Try.underlying47 hy
    have hl2 : cs.length = 2 := hl.trans (by kernel_rfl)
    have ks : Try.prog.cellsOf 9 = 1 := by kernel_rfl
    have ki : Try.prog.cellsOf 3 = 1 := by kernel_rfl
    match cs, hl2, xs, hlen with
    | [c0, c1], _, [y0, y1], _ =>
      have g0 : DataW.trod enc Try.prog W base (fun _ => true) held k 9 [c0] = some y0 := by have := hfs 0 _ rfl; simpa [ks] using this
      have g1 : DataW.trod enc Try.prog W base (fun _ => true) held k 3 [c1] = some y1 := by have := hfs 1 _ rfl; simpa [ki] using this
      obtain ⟨s, hs, _, hsz⟩ := DataW.trod_string Try.underlying9 g0
      obtain ⟨z, hz, _, _⟩ := DataW.trod_int Try.underlying3 g1
      simp only [List.cons.injEq, and_true] at hs hz
      subst hs hz
      exact ⟨⟨s.data.toList, z⟩, rfl, str_fits hsz⟩) hf
theorem subnets_of_trod {base : Nat} {held : Bool} {W : World} {fuel : Nat} {v : Value} {x : DataW H × List MemPlace} (hf : DataW.trod enc Try.prog W base (fun _ => true) held fuel 39 [v] = some x) :
    ∃ A n c xs, v = .slice A n c ∧ RdSx W.heap.size W A n c xs := by
  obtain ⟨A, n, c, l, e, h1, h2⟩ := rdg_of_trod (Y := layS) Try.underlying39 (by kernel_rfl) (by decide) (fun x => x.ok W.heap.size W x.pools.length x.res.length) (fun n cs y hy => by
    obtain ⟨xs, k, _, _, hl, hlen, hfs⟩ := DataW.trod_struct Try.underlying45 hy
    have hl7 : cs.length = 7 := hl.trans (by kernel_rfl)
    have ki : Try.prog.cellsOf 3 = 1 := by kernel_rfl
    have kp : Try.prog.cellsOf 42 = 1 := by kernel_rfl
    have kr : Try.prog.cellsOf 43 = 1 := by kernel_rfl
    match cs, hl7, xs, hlen with
    | [c0, c1, c2, c3, c4, c5, c6], _, [y0, y1, y2, y3, y4, y5, y6], _ =>
      have g0 : DataW.trod enc Try.prog W base (fun _ => true) held k 3 [c0] = some y0 := by have := hfs 0 _ rfl; simpa [ki] using this
      have g1 : DataW.trod enc Try.prog W base (fun _ => true) held k 3 [c1] = some y1 := by have := hfs 1 _ rfl; simpa [ki] using this
      have g2 : DataW.trod enc Try.prog W base (fun _ => true) held k 42 [c2] = some y2 := by have := hfs 2 _ rfl; simpa [kp] using this
      have g3 : DataW.trod enc Try.prog W base (fun _ => true) held k 43 [c3] = some y3 := by have := hfs 3 _ rfl; simpa [kr] using this
      have g4 : DataW.trod enc Try.prog W base (fun _ => true) held k 3 [c4] = some y4 := by have := hfs 4 _ rfl; simpa [ki] using this
      have g5 : DataW.trod enc Try.prog W base (fun _ => true) held k 3 [c5] = some y5 := by have := hfs 5 _ rfl; simpa [ki] using this
      have g6 : DataW.trod enc Try.prog W base (fun _ => true) held k 3 [c6] = some y6 := by have := hfs 6 _ rfl; simpa [ki] using this
      obtain ⟨z0, h0, _, _⟩ := DataW.trod_int Try.underlying3 g0
      obtain ⟨z1, h1, _, _⟩ := DataW.trod_int Try.underlying3 g1
      obtain ⟨pA, pn, pc, pl, rfl, hp⟩ := pools_of_trod g2
      obtain ⟨rA, rn, rc, rl, rfl, hr, hk⟩ := reserved_of_trod g3
      obtain ⟨z4, h4, _, _⟩ := DataW.trod_int Try.underlying3 g4
      obtain ⟨z5, h5, _, _⟩ := DataW.trod_int Try.underlying3 g5
      obtain ⟨z6, h6, _, _⟩ := DataW.trod_int Try.underlying3 g6
      simp only [List.cons.injEq, and_true] at h0 h1 h4 h5 h6
      subst h0 h1 h4 h5 h6
      obtain rfl := hp.len
      obtain rfl := hr.len
      exact ⟨⟨z0, z1, pA, pc, pl, rA, rc, rl, z4, z5, z6⟩, rfl, ⟨hp, hr, hk⟩⟩) hf
  exact ⟨A, n, c, l, e, h1, h2⟩
theorem nets_of_trod {base : Nat} {held : Bool} {W : World} {fuel : Nat} {v : Value} {x : DataW H × List MemPlace} (hf : DataW.trod enc Try.prog W base (fun _ => true) held fuel 22 [v] = some x) :
    ∃ A n c ns, v = .slice A n c ∧ RdNx W.heap.size W A n c ns := by
  obtain ⟨A, n, c, l, e, h1, h2⟩ := rdg_of_trod (Y := layN) Try.underlying22 (by kernel_rfl) (by decide) (fun x => RdSx W.heap.size W x.A x.xs.length x.c x.xs) (fun n cs y hy => by
    obtain ⟨xs, k, _, _, hl, hlen, hfs⟩ := DataW.trod_struct Try.underlying41 hy
    have hl1 : cs.length = 1 := hl.trans (by kernel_rfl)
    have kn : Try.prog.cellsOf 39 = 1 := by kernel_rfl
    match cs, hl1, xs, hlen with
    | [c0], _, [y0], _ =>
      have g0 : DataW.trod enc Try.prog W base (fun _ => true) held k 39 [c0] = some y0 := by have := hfs 0 _ rfl; simpa [kn] using this
      obtain ⟨A, n, c, xs, rfl, hx⟩ := subnets_of_trod g0
      obtain rfl := hx.len
      exact ⟨⟨A, c, xs⟩, rfl, hx⟩) hf
  exact ⟨A, n, c, l, e, h1, h2⟩
/-- An argument of type api.Config. -/
theorem open_config {base b0 : Nat} {held : Bool} {r : Reach} {W : World} {v : Value} {d : DataW H} {ps : List MemPlace}
    (hval : Value.okWide Try.prog W r b0 24 v) (h : DataW.Trod enc Try.prog W base (fun _ => true) held 24 v d ps) : ∃ x : Cx, v = x.v ∧ x.ok W.heap.size W := by
  obtain ⟨cs, rfl, hsz⟩ := okWide_struct Try.underlying24 hval
  obtain ⟨fuel, hf⟩ := h
  have hsz3 : cs.size = 3 := hsz.trans (by kernel_rfl)
  have ki : Try.prog.cellsOf 3 = 1 := by kernel_rfl
  have kn : Try.prog.cellsOf 22 = 1 := by kernel_rfl
  obtain ⟨l⟩ := cs
  match l, hsz3 with
  | [c0, c1, c2], _ =>
    obtain ⟨xs, k, _, _, _, hlen, hfs⟩ := DataW.trod_struct Try.underlying24 hf
    match xs, hlen with
    | [y0, y1, y2], _ =>
      have g0 : DataW.trod enc Try.prog W base (fun _ => true) held k 3 [c0] = some y0 := by have := hfs 0 _ rfl; simpa [ki, Value.cells] using this
      have g1 : DataW.trod enc Try.prog W base (fun _ => true) held k 3 [c1] = some y1 := by have := hfs 1 _ rfl; simpa [ki, Value.cells] using this
      have g2 : DataW.trod enc Try.prog W base (fun _ => true) held k 22 [c2] = some y2 := by have := hfs 2 _ rfl; simpa [kn, Value.cells] using this
      obtain ⟨z0, h0, _, _⟩ := DataW.trod_int Try.underlying3 g0
      obtain ⟨z1, h1, _, _⟩ := DataW.trod_int Try.underlying3 g1
      obtain ⟨A, n, c, ns, rfl, hx⟩ := nets_of_trod g2
      simp only [List.cons.injEq, and_true] at h0 h1
      subst h0 h1
      exact ⟨⟨z0, z1, A, n, c, ns⟩, rfl, hx⟩
end
end Go.Proofs.Ytoilljilndmmfaa
