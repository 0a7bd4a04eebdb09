/- The frame of a row of a law over data that lie in memory: each argument reads behind the call as before it. No conditions of its own. -/
import Derived.Test.YtoobijefjljnjaaBase
import Derived.WalkKit
import Derived.ProofKit
import Derived.OpenShut
import Derived.Deep.Matrix
namespace Go.Proofs.Ytoobijefjljnjaa
open Go.ChangeShapes Go.WideShapes Go.ChangeAt Go.RowKit By

theorem laidOut : laidOutB Try.prog = true := by kernel_rfl

section
variable {H : Type} {enc : TypeId × Value → H} {P : Program}
theorem trodAll_below (hl : laidOutB P = true) {W W' : World} (hb : Below W.heap.size W W') : ∀ {ts : List TypeId} {vs : List Value} {ds : List (DataW H)} {ps : List MemPlace},
    (∀ t ∈ ts, P.readableRec t = true ∧ t < P.types.size) → DataW.TrodAll enc P W 0 (fun _ => true) true ts vs ds ps → (∀ x ∈ ps, x.block < W.heap.size) →
    DataW.TrodAll enc P W' 0 (fun b => decide (b < W.heap.size)) true ts vs ds ps
  | [], [], [], _, _, h, _ => h
  | t :: ts, v :: vs, d :: ds, ps, hts, ⟨p, q, h1, h2, e⟩, hlt => by
    subst e
    exact ⟨p, q, Below.trod hl (hts t (.head _)).1 (hts t (.head _)).2 h1 hb (fun x hx => hlt x (List.mem_append_left _ hx)),
      trodAll_below hl hb (fun u hu => hts u (.tail _ hu)) h2 (fun x hx => hlt x (List.mem_append_right _ hx)), rfl⟩
/-- A law's last step: it returned true; nothing that was there has turned. -/
theorem post_law {f : Func} {s : ChangeSpec} {W W' : World} {args : Array Value} {ds : List (DataW H)} {before : List MemPlace} {B : TypeId} (hl : laidOutB P = true) (hvars : s.vars = [])
    (hW : DataW.Whole enc P f.params.toList s.vars false W args.toList ds [] before) (hts : ∀ t ∈ f.params.toList, P.readableRec t = true ∧ t < P.types.size)
    (hB : P.underlying B = some .bool) (hres : f.resultTypes = #[B]) (hr : (s.fn H (ds ++ [])).results = [.lit (.bool true)]) (ha : (s.fn H (ds ++ [])).args = ds) (hv : (s.fn H (ds ++ [])).vars = []) (hb : Below W.heap.size W W') :
    s.post enc P f false true false false W args (.bool true) W' := by
  have hlt : ∀ x ∈ before, x.block < W.heap.size := fun x hx => hW.lt x hx
  have hW0 := hW
  obtain ⟨p, q, hA, hV, rfl, _, _⟩ := hW0
  rw [hvars] at hV
  have hq : q = [] := (trodVars_none hV).2
  subst hq
  rw [List.append_nil] at hlt
  refine ⟨ds, [], _, [], p, [], hW, ?_, ?_, ?_, hb.frame _, fun h => by cases h⟩
  · rw [hr, hres]
    exact trodAll_mk1 (shut_bool hB true)
  · rw [ha]
    exact trodAll_below hl hb hts hA hlt
  · rw [hvars, hv]
    rfl
theorem byte_wf {x : Int} (h : (Lit.int .u8 x).wf = true) : 0 ≤ x ∧ x < 256 := by
  simp only [Lit.wf, Bool.and_eq_true, decide_eq_true_eq] at h
  have h1 : IntKind.u8.min = 0 := rfl
  have h2 : IntKind.u8.max = 255 := rfl
  rw [h1, h2] at h
  omega
theorem u32_wf {x : Int} (h : (Lit.int .u32 x).wf = true) : 0 ≤ x ∧ x < 4294967296 := by
  simp only [Lit.wf, Bool.and_eq_true, decide_eq_true_eq] at h
  have h1 : IntKind.u32.min = 0 := rfl
  have h2 : IntKind.u32.max = 4294967295 := rfl
  rw [h1, h2] at h
  omega
/-- An argument of type []byte. -/
theorem open_bs {T e S : TypeId} (hp : ByP P T e S) (hc : P.cellsOf e = 1) {base b0 : Nat} {spare : Nat → Bool} {held : Bool} {r : Reach} {W : World} {v : Value} {d : DataW H} {ps : List MemPlace}
    (hval : Value.okWide P W r b0 T v) (h : DataW.Trod enc P W base spare held T v d ps) : ∃ A n c l, v = .slice A n c ∧ Bs W A n c l := by
  obtain ⟨A, n, c, rfl⟩ := okWide_slice hp.hT hval
  obtain ⟨fuel, hf⟩ := h
  rcases open_ints hp.hT hp.he hc hf with ⟨h1, _⟩ | ⟨a, len, cap, zs, h1, _, hlc, hm, hz, _, hcell, hwf⟩
  · simp [Value.cells] at h1
    obtain ⟨rfl, rfl, rfl⟩ := h1
    exact ⟨none, 0, 0, [], rfl, Bs.nil W⟩
  · simp [Value.cells] at h1
    obtain ⟨rfl, rfl, rfl⟩ := h1
    have hzl : n ≤ zs.length := by
      rw [hz]
      split <;> omega
    refine ⟨some a, n, c, (zs.take n).map (fun z => UInt8.ofNat z.toNat), rfl, by simp; omega, hlc, hm, fun hn => ?_⟩
    have hsp : ∃ b o, a = ⟨b, o, none⟩ := by
      have := hcell 0 (by omega)
      obtain ⟨b, o, s⟩ := a
      cases s with
      | none => exact ⟨b, o, rfl⟩
      | some s =>
        simp [World.cell?, Addr.add] at this
        split at this <;> cases this
    obtain ⟨b, o, rfl⟩ := hsp
    refine ⟨b, o, rfl, fun i hi => ?_⟩
    simp only [List.length_map, List.length_take] at hi
    have hi' : i < zs.length := by omega
    have := hcell i hi'
    rw [add_none] at this
    rw [this]
    have hw := hwf zs[i] (List.getElem_mem _)
    have hr : 0 ≤ zs[i] ∧ zs[i] < 256 := byte_wf hw
    simp [List.getD, List.getElem?_eq_getElem hi']
    omega
end
end Go.Proofs.Ytoobijefjljnjaa
