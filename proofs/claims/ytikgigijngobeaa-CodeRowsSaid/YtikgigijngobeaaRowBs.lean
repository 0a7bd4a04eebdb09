/- An argument of type [][]byte, as a list of parts. No conditions. -/
import Derived.Test.YtikgigijngobeaaRowB
import Derived.Test.YtikgigijngobeaaCoCat
namespace Go.Proofs.Ytikgigijngobeaa
open Go.ChangeShapes Go.WideShapes Go.ChangeAt Go.RowKit By

/-- The slice '.slice A n c' of []byte reads as the parts ps. -/
def BsRows (w : World) (A : Option Addr) (n c : Nat) (ps : List Part) : Prop :=
  ps.length = n ∧ n ≤ c ∧ c ≤ maxLen ∧ (0 < n → ∃ b o, A = some ⟨b, o, none⟩ ∧ PartsAt w b o ps)
section
variable {H : Type} {enc : TypeId × Value → H} {P : Program}
theorem no_spot {W : World} {a : Addr} {u : Value} (h : W.cell? (a.add 0) = some u) : ∃ b o, a = ⟨b, o, none⟩ := by
  obtain ⟨b, o, s⟩ := a
  cases s with
  | none => exact ⟨b, o, rfl⟩
  | some s =>
    simp [World.cell?, Addr.add] at h
    split at h <;> cases h
theorem bs_of_nums {W : World} {A : Option Addr} {n c : Nat} {zs : List Int} (hnc : n ≤ c) (hcm : c ≤ maxLen) (hz : zs.length = c) (hwf : ∀ z ∈ zs, (Lit.int .u8 z).wf = true) (hA : A = none → c = 0)
    (hcell : ∀ a, A = some a → ∀ i, i < c → W.cell? (a.add i) = some (.int .u8 (zs.getD i 0))) : Bs W A n c ((zs.take n).map fun z => UInt8.ofNat z.toNat) := by
  refine ⟨by simp; omega, hnc, hcm, fun hn => ?_⟩
  cases A with
  | none => have := hA rfl; omega
  | some a =>
    have hc := hcell a rfl
    obtain ⟨b, o, rfl⟩ := no_spot (hc 0 (by omega))
    refine ⟨b, o, rfl, fun i hi => ?_⟩
    simp only [List.length_map, List.length_take] at hi
    have hi' : i < zs.length := by omega
    have := hc i (by omega)
    rw [add_none] at this
    rw [this]
    have hr := byte_wf (hwf zs[i] (List.getElem_mem _))
    simp [List.getD, List.getElem?_eq_getElem hi']
    omega
/-- An argument of type [][]byte. -/
theorem open_bss {TT T e S : TypeId} (hp : ByP P T e S) (hTT : P.underlying TT = some (.slice T)) (hc1 : P.cellsOf T = 1) (hc2 : P.cellsOf e = 1) {base b0 : Nat} {held : Bool} {r : Reach} {W : World} {v : Value} {d : DataW H} {ps : List MemPlace}
    (hval : Value.okWide P W r b0 TT v) (h : DataW.Trod enc P W base (fun _ => true) held TT v d ps) : ∃ A n c qs, v = .slice A n c ∧ BsRows W A n c qs := by
  obtain ⟨A, n, c, rfl⟩ := okWide_slice hTT hval
  obtain ⟨fuel, hf⟩ := h
  rcases Go.Deep.open_int_rows hTT hp.hT hp.he hc1 hc2 hf with ⟨h1, _⟩ | ⟨a, len, cap, A', L, C, Z, h1, _, hlc, hm, _, hrow⟩
  · simp [Value.cells] at h1
    obtain ⟨rfl, rfl, rfl⟩ := h1
    exact ⟨none, 0, 0, [], rfl, rfl, Nat.le_refl _, Nat.zero_le _, fun h => absurd h (by omega)⟩
  · simp [Value.cells] at h1
    obtain ⟨rfl, rfl, rfl⟩ := h1
    refine ⟨some a, n, c, (List.range n).map (fun i => ⟨A' i, C i, ((Z i).take (L i)).map fun z => UInt8.ofNat z.toNat⟩), rfl, by simp, hlc, hm, fun hn => ?_⟩
    obtain ⟨b, o, rfl⟩ := no_spot (hrow 0 (by omega)).1
    refine ⟨b, o, rfl, fun i hi => ?_⟩
    simp only [List.length_map, List.length_range] at hi
    obtain ⟨g1, g2, g3, g4, g5, g6, g7⟩ := hrow i (by omega)
    have hbs : Bs W (A' i) (L i) (C i) (((Z i).take (L i)).map fun z => UInt8.ofNat z.toNat) := bs_of_nums g2 g3 g4 g5 g6 (fun a ha => (g7 a ha).2)
    rw [add_none] at g1
    have hlen := hbs.len
    simp only [List.getElem_map, List.getElem_range]
    rw [hlen]
    exact ⟨g1, hbs⟩
end
end Go.Proofs.Ytikgigijngobeaa
