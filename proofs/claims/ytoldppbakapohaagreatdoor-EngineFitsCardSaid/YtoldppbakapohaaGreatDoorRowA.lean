/- The frame of a row of a law over data that lie in memory: each argument reads behind the call as before it. No conditions of its own. -/
import Derived.Test.YtoldppbakapohaaGreatDoorKitA
import Derived.Test.YtoldppbakapohaaGreatDoorVwA
import Derived.Test.YtoldppbakapohaaGreatDoorEwA
import Derived.WalkKit
import Derived.ProofKit
import Derived.OpenShut
import Derived.Deep.Matrix
import Derived.Deep.SlicePairs
import Derived.ChangeMaps5
section
namespace Go.Proofs.YtoldppbakapohaaGreatDoor
open Go.ChangeShapes Go.WideShapes Go.ChangeAt Go.RowKit By

theorem laidOut : laidOutB Tryz.prog = true := by kernel_rfl

section
variable {H : Type} {enc : TypeId × Value → H} {P : Program}
theorem trodAll_below (hl : laidOutB P = true) {W W' : World} (hb : Below W.heap.size W W') : ∀ {ts : List TypeId} {vs : List Value} {ds : List (DataW H)} {ps : List MemPlace},
    (∀ t ∈ ts, P.readableRec t = true ∧ t < P.types.size) → DataW.TrodAll enc P W 0 (fun _ => true) true ts vs ds ps → (∀ x ∈ ps, x.block < W.heap.size) →
    DataW.TrodAll enc P W' 0 (fun b => decide (b < W.heap.size)) true ts vs ds ps
  | [], [], [], _, _, h, _ => h
  | t :: ts, v :: vs, d :: ds, ps, hts, ⟨p, q, h1, h2, e⟩, hlt => by
    subst e
    exact ⟨p, q, Below.trod hl (hts t (.head _)).1 (hts t (.head _)).2 h1 hb (fun x hx => hlt x (List.mem_append_left _ hx)),
      trodAll_below hl hb (fun u hu => hts u (.tail _ hu)) h2 (fun x hx => hlt x (List.mem_append_right _ hx)), rfl⟩
/-- A law's last step: it returned true; nothing that was there has turned. -/
theorem post_law {f : Func} {s : ChangeSpec} {W W' : World} {args : Array Value} {ds : List (DataW H)} {before : List MemPlace} {B : TypeId} (hl : laidOutB P = true) (hvars : s.vars = [])
    (hW : DataW.Whole enc P f.params.toList s.vars false W args.toList ds [] before) (hts : ∀ t ∈ f.params.toList, P.readableRec t = true ∧ t < P.types.size)
    (hB : P.underlying B = some .bool) (hres : f.resultTypes = #[B]) (hr : (s.fn H (ds ++ [])).results = [.lit (.bool true)]) (ha : (s.fn H (ds ++ [])).args = ds) (hv : (s.fn H (ds ++ [])).vars = []) (hb : Below W.heap.size W W') :
    s.post enc P f false true false false W args (.bool true) W' := by
  have hlt : ∀ x ∈ before, x.block < W.heap.size := fun x hx => hW.lt x hx
  have hW0 := hW
  obtain ⟨p, q, hA, hV, rfl, _, _⟩ := hW0
  rw [hvars] at hV
  have hq : q = [] := (trodVars_none hV).2
  subst hq
  rw [List.append_nil] at hlt
  refine ⟨ds, [], _, [], p, [], hW, ?_, ?_, ?_, hb.frame _, fun h => by cases h⟩
  · rw [hr, hres]
    exact trodAll_mk1 (shut_bool hB true)
  · rw [ha]
    exact trodAll_below hl hb hts hA hlt
  · rw [hvars, hv]
    rfl
theorem byte_wf {x : Int} (h : (Lit.int .u8 x).wf = true) : 0 ≤ x ∧ x < 256 := by
  simp only [Lit.wf, Bool.and_eq_true, decide_eq_true_eq] at h
  have h1 : IntKind.u8.min = 0 := rfl
  have h2 : IntKind.u8.max = 255 := rfl
  rw [h1, h2] at h
  omega
/-- An argument of type []byte. -/
theorem open_bs {T e S : TypeId} (hp : ByP P T e S) (hc : P.cellsOf e = 1) {base b0 : Nat} {spare : Nat → Bool} {held : Bool} {r : Reach} {W : World} {v : Value} {d : DataW H} {ps : List MemPlace}
    (hval : Value.okWide P W r b0 T v) (h : DataW.Trod enc P W base spare held T v d ps) : ∃ A n c l, v = .slice A n c ∧ Bs W A n c l := by
  obtain ⟨A, n, c, rfl⟩ := okWide_slice hp.hT hval
  obtain ⟨fuel, hf⟩ := h
  rcases open_ints hp.hT hp.he hc hf with ⟨h1, _⟩ | ⟨a, len, cap, zs, h1, _, hlc, hm, hz, _, hcell, hwf⟩
  · simp [Value.cells] at h1
    obtain ⟨rfl, rfl, rfl⟩ := h1
    exact ⟨none, 0, 0, [], rfl, Bs.nil W⟩
  · simp [Value.cells] at h1
    obtain ⟨rfl, rfl, rfl⟩ := h1
    have hzl : n ≤ zs.length := by
      rw [hz]
      split <;> omega
    refine ⟨some a, n, c, (zs.take n).map (fun z => UInt8.ofNat z.toNat), rfl, by simp; omega, hlc, hm, fun hn => ?_⟩
    have hsp : ∃ b o, a = ⟨b, o, none⟩ := by
      have := hcell 0 (by omega)
      obtain ⟨b, o, s⟩ := a
      cases s with
      | none => exact ⟨b, o, rfl⟩
      | some s =>
        simp [World.cell?, Addr.add] at this
        split at this <;> cases this
    obtain ⟨b, o, rfl⟩ := hsp
    refine ⟨b, o, rfl, fun i hi => ?_⟩
    simp only [List.length_map, List.length_take] at hi
    have hi' : i < zs.length := by omega
    have := hcell i hi'
    rw [add_none] at this
    rw [this]
    have hw := hwf zs[i] (List.getElem_mem _)
    have hr : 0 ≤ zs[i] ∧ zs[i] < 256 := byte_wf hw
    simp [List.getD, List.getElem?_eq_getElem hi']
    omega
end
end Go.Proofs.YtoldppbakapohaaGreatDoor
end
/- An argument of type []api.Opt, as a list of options. No conditions. -/
section
namespace Go.Proofs.YtoldppbakapohaaGreatDoor
open Go.ChangeShapes Go.WideShapes Go.ChangeAt Go.RowKit By

theorem list_of_all {α : Type} {Q : Nat → α → Prop} : ∀ (n : Nat), (∀ i, i < n → ∃ x, Q i x) → ∃ xs : List α, xs.length = n ∧ ∀ i (h : i < xs.length), Q i xs[i]
  | 0, _ => ⟨[], rfl, fun i h => absurd h (Nat.not_lt_zero i)⟩
  | n + 1, h => by
    obtain ⟨xs, hl, hx⟩ := list_of_all n fun i hi => h i (by omega)
    obtain ⟨x, hn⟩ := h n (by omega)
    refine ⟨xs ++ [x], by simp [hl], fun i hi => ?_⟩
    by_cases k : i < xs.length
    · rw [List.getElem_append_left k]; exact hx i k
    · have e : i = n := by simp at hi; omega
      subst e
      rw [List.getElem_append_right (by omega)]
      simpa [hl] using hn
section
variable {H : Type} {enc : TypeId × Value → H} {P : Program}
theorem plain_addr {W : World} {a : Addr} {u : Value} (h : W.cell? (a.add 0) = some u) : ∃ b o, a = ⟨b, o, none⟩ := by
  obtain ⟨b, o, s⟩ := a
  cases s with
  | none => exact ⟨b, o, rfl⟩
  | some s =>
    simp [World.cell?, Addr.add] at h
    split at h <;> cases h
/-- A cell that reads as []byte. -/
theorem bs_of_trod {T e S : TypeId} (hp : ByP P T e S) (hc : P.cellsOf e = 1) {base : Nat} {spare : Nat → Bool} {held : Bool} {W : World} {v : Value} {n : Nat} {x : DataW H × List MemPlace}
    (h : DataW.trod enc P W base spare held n T [v] = some x) : ∃ A m c l, v = .slice A m c ∧ Bs W A m c l := by
  rcases open_ints hp.hT hp.he hc h with ⟨h1, _⟩ | ⟨a, len, cap, zs, h1, _, hlc, hm, hz, _, hcell, hwf⟩
  · simp at h1
    exact ⟨none, 0, 0, [], h1, Bs.nil W⟩
  · simp at h1
    have hzl : len ≤ zs.length := by
      rw [hz]
      split <;> omega
    refine ⟨some a, len, cap, (zs.take len).map (fun z => UInt8.ofNat z.toNat), h1, by simp; omega, hlc, hm, fun hn => ?_⟩
    obtain ⟨b, o, rfl⟩ := plain_addr (hcell 0 (by omega))
    refine ⟨b, o, rfl, fun i hi => ?_⟩
    simp only [List.length_map, List.length_take] at hi
    have hi' : i < zs.length := by omega
    have := hcell i hi'
    rw [add_none] at this
    rw [this]
    have hr : 0 ≤ zs[i] ∧ zs[i] < 256 := byte_wf (hwf zs[i] (List.getElem_mem _))
    simp [List.getD, List.getElem?_eq_getElem hi']
    omega
end
end Go.Proofs.YtoldppbakapohaaGreatDoor
end
/- A slice whose elements lie in a row of cells each, as an argument, opened. No conditions of their own. -/
section
set_option maxRecDepth 100000
namespace Go.Proofs.YtoldppbakapohaaGreatDoor
open Go.ChangeShapes Go.WideShapes Go.ChangeAt Go.RowKit By Dw

section
variable {H : Type} {enc : TypeId × Value → H} {P : Program}
/-- A cell that reads as a slice whose elements lie in a row of cells each. -/
theorem rdg_of_trod {α : Type} {Y : Lay α} {TT E : TypeId} {W : World} {base : Nat} {held : Bool} {fuel : Nat} {v : Value} {x : DataW H × List MemPlace} (hTT : P.underlying TT = some (.slice E)) (hc : P.cellsOf E = Y.s) (hs0 : 0 < Y.s) (ok : α → Prop)
    (hel : ∀ n cs y, DataW.trod enc P W base (fun _ => true) held n E cs = some y → ∃ a, cs = Y.cs a ∧ ok a) (hf : DataW.trod enc P W base (fun _ => true) held fuel TT [v] = some x) :
    ∃ A n c l, v = .slice A n c ∧ RdG Y W.heap.size W A n c l ∧ ∀ a ∈ l, ok a := by
  rcases Go.Deep.open_slice hTT hf with ⟨h1, _⟩ | ⟨a, len, cap, m, k, D, Pl, h1, hb, hlc, hmax, hm, _, hrow⟩
  · simp at h1
    exact ⟨none, 0, 0, [], h1, RdG.nil _ _, fun a ha => by cases ha⟩
  · simp only [List.cons.injEq, and_true] at h1
    subst h1
    simp only [if_true] at hm
    have each : ∀ i, i < len → ∃ p : α, (∀ j u, (Y.cs p)[j]? = some u → W.cell? (a.add (i * Y.s + j)) = some u) ∧ ok p := fun i hi => by
      obtain ⟨cs', g1, g2⟩ := hrow i (by omega)
      rw [hc] at g1
      obtain ⟨_, hlen, hcell⟩ := World.cells?_some g1
      obtain ⟨p, rfl, hok⟩ := hel _ _ _ g2
      refine ⟨p, fun j u hu => ?_, hok⟩
      have hj : j < (Y.cs p).length := (List.getElem?_eq_some_iff.1 hu).1
      have hjs : j < Y.s := by rw [Y.len] at hj; exact hj
      have := hcell j hjs
      rw [Go.Deep.add_add] at this
      rw [this, hu]
    obtain ⟨l, hlen, hl⟩ := list_of_all len each
    refine ⟨some a, len, cap, l, rfl, ⟨hlen, hlc, hmax, fun hn => ?_⟩, fun p hp => ?_⟩
    · have hp0 := (hl 0 (by omega)).1
      have hc0 : 0 < (Y.cs (l[0]'(by omega))).length := by rw [Y.len]; exact hs0
      have := hp0 0 _ (List.getElem?_eq_getElem hc0)
      rw [Nat.zero_mul, Nat.zero_add] at this
      obtain ⟨b, o, rfl⟩ := plain_addr this
      rw [add_none] at this
      refine ⟨b, o, rfl, World.block_lt_of_cell? W _ this, fun i hi => ?_⟩
      rw [Y.cells_len] at hi
      have hq : i / Y.s < l.length := (Nat.div_lt_iff_lt_mul hs0).2 hi
      have hr : i % Y.s < Y.s := Nat.mod_lt _ hs0
      have hcr : i % Y.s < (Y.cs (l[i / Y.s]'hq)).length := by rw [Y.len]; exact hr
      have h2 := (hl (i / Y.s) hq).1 (i % Y.s) _ (List.getElem?_eq_getElem hcr)
      rw [add_none] at h2
      have hi3 : i / Y.s * Y.s + i % Y.s = i := Nat.div_add_mod' i Y.s
      rw [hi3] at h2
      rw [h2]
      have h3 := Y.cells_get hq (List.getElem?_eq_getElem hcr)
      rw [hi3] at h3
      rw [List.getElem?_eq_some_iff] at h3
      obtain ⟨_, h3⟩ := h3
      rw [h3]
    · obtain ⟨i, hi, rfl⟩ := List.mem_iff_getElem.1 hp
      exact (hl i hi).2
theorem str_fits {s : ByteArray} (h : s.size ≤ maxLen) : s.data.toList.length ≤ 9223372036854775807 := by
  have e : s.data.toList.length = s.size := Array.length_toList
  unfold maxLen at h
  omega
end
end Go.Proofs.YtoldppbakapohaaGreatDoor
end
/- Arguments of type api.Config, opened. No conditions of their own. -/
section
set_option maxRecDepth 100000
namespace Go.Proofs.YtoldppbakapohaaGreatDoor
open Go.ChangeShapes Go.WideShapes Go.ChangeAt Go.RowKit By Cf Vw
open Dw (ba)

section
variable {H : Type} {enc : TypeId × Value → H}
theorem pools_of_trod {base : Nat} {held : Bool} {W : World} {fuel : Nat} {v : Value} {x : DataW H × List MemPlace} (hf : DataW.trod enc Tryz.prog W base (fun _ => true) held fuel 112 [v] = some x) :
    ∃ A n c l, v = .slice A n c ∧ RdPl W.heap.size W A n c l := by
  obtain ⟨A, n, c, l, e, h1, _⟩ := rdg_of_trod (Y := layP) Tryz.underlying112 (by kernel_rfl) (by decide) (fun _ => True) (fun n cs y hy => by
    obtain ⟨xs, k, _, _, hl, hlen, hfs⟩ := DataW.trod_struct Tryz.underlying124 hy
    have hl2 : cs.length = 2 := hl.trans (by kernel_rfl)
    have ki : Tryz.prog.cellsOf 3 = 1 := by kernel_rfl
    match cs, hl2, xs, hlen with
    | [c0, c1], _, [y0, y1], _ =>
      have g0 : DataW.trod enc Tryz.prog W base (fun _ => true) held k 3 [c0] = some y0 := by have := hfs 0 _ rfl; simpa [ki] using this
      have g1 : DataW.trod enc Tryz.prog W base (fun _ => true) held k 3 [c1] = some y1 := by have := hfs 1 _ rfl; simpa [ki] using this
      obtain ⟨z0, h0, _, _⟩ := DataW.trod_int Tryz.underlying3 g0
      obtain ⟨z1, h1, _, _⟩ := DataW.trod_int Tryz.underlying3 g1
      simp only [List.cons.injEq, and_true] at h0 h1
      subst h0 h1
      exact ⟨⟨z0, z1⟩, rfl, trivial⟩) hf
  exact ⟨A, n, c, l, e, h1⟩
theorem reserved_of_trod {base : Nat} {held : Bool} {W : World} {fuel : Nat} {v : Value} {x : DataW H × List MemPlace} (hf : DataW.trod enc Tryz.prog W base (fun _ => true) held fuel 113 [v] = some x) :
    ∃ A n c l, v = .slice A n c ∧ RdRs W.heap.size W A n c l ∧ ∀ r ∈ l, Fr r :=
  rdg_of_trod (Y := layR) Tryz.underlying113 (by kernel_rfl) (by decide) Fr (fun n cs y hy => by
    obtain ⟨xs, k, _, _, hl, hlen, hfs⟩ := DataW.trod_struct Tryz.underlying126 hy
    have hl2 : cs.length = 2 := hl.trans (by kernel_rfl)
    have ks : Tryz.prog.cellsOf 9 = 1 := by kernel_rfl
    have ki : Tryz.prog.cellsOf 3 = 1 := by kernel_rfl
    match cs, hl2, xs, hlen with
    | [c0, c1], _, [y0, y1], _ =>
      have g0 : DataW.trod enc Tryz.prog W base (fun _ => true) held k 9 [c0] = some y0 := by have := hfs 0 _ rfl; simpa [ks] using this
      have g1 : DataW.trod enc Tryz.prog W base (fun _ => true) held k 3 [c1] = some y1 := by have := hfs 1 _ rfl; simpa [ki] using this
      obtain ⟨s, hs, _, hsz⟩ := DataW.trod_string Tryz.underlying9 g0
      obtain ⟨z, hz, _, _⟩ := DataW.trod_int Tryz.underlying3 g1
      simp only [List.cons.injEq, and_true] at hs hz
      subst hs hz
      exact ⟨⟨s.data.toList, z⟩, rfl, str_fits hsz⟩) hf
theorem subnets_of_trod {base : Nat} {held : Bool} {W : World} {fuel : Nat} {v : Value} {x : DataW H × List MemPlace} (hf : DataW.trod enc Tryz.prog W base (fun _ => true) held fuel 108 [v] = some x) :
    ∃ A n c xs, v = .slice A n c ∧ RdSx W.heap.size W A n c xs := by
  obtain ⟨A, n, c, l, e, h1, h2⟩ := rdg_of_trod (Y := layS) Tryz.underlying108 (by kernel_rfl) (by decide) (fun x => x.ok W.heap.size W x.pools.length x.res.length) (fun n cs y hy => by
    obtain ⟨xs, k, _, _, hl, hlen, hfs⟩ := DataW.trod_struct Tryz.underlying115 hy
    have hl7 : cs.length = 7 := hl.trans (by kernel_rfl)
    have ki : Tryz.prog.cellsOf 3 = 1 := by kernel_rfl
    have kp : Tryz.prog.cellsOf 112 = 1 := by kernel_rfl
    have kr : Tryz.prog.cellsOf 113 = 1 := by kernel_rfl
    match cs, hl7, xs, hlen with
    | [c0, c1, c2, c3, c4, c5, c6], _, [y0, y1, y2, y3, y4, y5, y6], _ =>
      have g0 : DataW.trod enc Tryz.prog W base (fun _ => true) held k 3 [c0] = some y0 := by have := hfs 0 _ rfl; simpa [ki] using this
      have g1 : DataW.trod enc Tryz.prog W base (fun _ => true) held k 3 [c1] = some y1 := by have := hfs 1 _ rfl; simpa [ki] using this
      have g2 : DataW.trod enc Tryz.prog W base (fun _ => true) held k 112 [c2] = some y2 := by have := hfs 2 _ rfl; simpa [kp] using this
      have g3 : DataW.trod enc Tryz.prog W base (fun _ => true) held k 113 [c3] = some y3 := by have := hfs 3 _ rfl; simpa [kr] using this
      have g4 : DataW.trod enc Tryz.prog W base (fun _ => true) held k 3 [c4] = some y4 := by have := hfs 4 _ rfl; simpa [ki] using this
      have g5 : DataW.trod enc Tryz.prog W base (fun _ => true) held k 3 [c5] = some y5 := by have := hfs 5 _ rfl; simpa [ki] using this
      have g6 : DataW.trod enc Tryz.prog W base (fun _ => true) held k 3 [c6] = some y6 := by have := hfs 6 _ rfl; simpa [ki] using this
      obtain ⟨z0, h0, _, _⟩ := DataW.trod_int Tryz.underlying3 g0
      obtain ⟨z1, h1, _, _⟩ := DataW.trod_int Tryz.underlying3 g1
      obtain ⟨pA, pn, pc, pl, rfl, hp⟩ := pools_of_trod g2
      obtain ⟨rA, rn, rc, rl, rfl, hr, hk⟩ := reserved_of_trod g3
      obtain ⟨z4, h4, _, _⟩ := DataW.trod_int Tryz.underlying3 g4
      obtain ⟨z5, h5, _, _⟩ := DataW.trod_int Tryz.underlying3 g5
      obtain ⟨z6, h6, _, _⟩ := DataW.trod_int Tryz.underlying3 g6
      simp only [List.cons.injEq, and_true] at h0 h1 h4 h5 h6
      subst h0 h1 h4 h5 h6
      obtain rfl := hp.len
      obtain rfl := hr.len
      exact ⟨⟨z0, z1, pA, pc, pl, rA, rc, rl, z4, z5, z6⟩, rfl, ⟨hp, hr, hk⟩⟩) hf
  exact ⟨A, n, c, l, e, h1, h2⟩
theorem nets_of_trod {base : Nat} {held : Bool} {W : World} {fuel : Nat} {v : Value} {x : DataW H × List MemPlace} (hf : DataW.trod enc Tryz.prog W base (fun _ => true) held fuel 22 [v] = some x) :
    ∃ A n c ns, v = .slice A n c ∧ RdNx W.heap.size W A n c ns := by
  obtain ⟨A, n, c, l, e, h1, h2⟩ := rdg_of_trod (Y := layN) Tryz.underlying22 (by kernel_rfl) (by decide) (fun x => RdSx W.heap.size W x.A x.xs.length x.c x.xs) (fun n cs y hy => by
    obtain ⟨xs, k, _, _, hl, hlen, hfs⟩ := DataW.trod_struct Tryz.underlying110 hy
    have hl1 : cs.length = 1 := hl.trans (by kernel_rfl)
    have kn : Tryz.prog.cellsOf 108 = 1 := by kernel_rfl
    match cs, hl1, xs, hlen with
    | [c0], _, [y0], _ =>
      have g0 : DataW.trod enc Tryz.prog W base (fun _ => true) held k 108 [c0] = some y0 := by have := hfs 0 _ rfl; simpa [kn] using this
      obtain ⟨A, n, c, xs, rfl, hx⟩ := subnets_of_trod g0
      obtain rfl := hx.len
      exact ⟨⟨A, c, xs⟩, rfl, hx⟩) hf
  exact ⟨A, n, c, l, e, h1, h2⟩
/-- An argument of type api.Config. -/
theorem open_config {base b0 : Nat} {held : Bool} {r : Reach} {W : World} {v : Value} {d : DataW H} {ps : List MemPlace}
    (hval : Value.okWide Tryz.prog W r b0 24 v) (h : DataW.Trod enc Tryz.prog W base (fun _ => true) held 24 v d ps) : ∃ x : Cx, v = x.v ∧ x.ok W.heap.size W := by
  obtain ⟨cs, rfl, hsz⟩ := okWide_struct Tryz.underlying24 hval
  obtain ⟨fuel, hf⟩ := h
  have hsz3 : cs.size = 3 := hsz.trans (by kernel_rfl)
  have ki : Tryz.prog.cellsOf 3 = 1 := by kernel_rfl
  have kn : Tryz.prog.cellsOf 22 = 1 := by kernel_rfl
  obtain ⟨l⟩ := cs
  match l, hsz3 with
  | [c0, c1, c2], _ =>
    obtain ⟨xs, k, _, _, _, hlen, hfs⟩ := DataW.trod_struct Tryz.underlying24 hf
    match xs, hlen with
    | [y0, y1, y2], _ =>
      have g0 : DataW.trod enc Tryz.prog W base (fun _ => true) held k 3 [c0] = some y0 := by have := hfs 0 _ rfl; simpa [ki, Value.cells] using this
      have g1 : DataW.trod enc Tryz.prog W base (fun _ => true) held k 3 [c1] = some y1 := by have := hfs 1 _ rfl; simpa [ki, Value.cells] using this
      have g2 : DataW.trod enc Tryz.prog W base (fun _ => true) held k 22 [c2] = some y2 := by have := hfs 2 _ rfl; simpa [kn, Value.cells] using this
      obtain ⟨z0, h0, _, _⟩ := DataW.trod_int Tryz.underlying3 g0
      obtain ⟨z1, h1, _, _⟩ := DataW.trod_int Tryz.underlying3 g1
      obtain ⟨A, n, c, ns, rfl, hx⟩ := nets_of_trod g2
      simp only [List.cons.injEq, and_true] at h0 h1
      subst h0 h1
      exact ⟨⟨z0, z1, A, n, c, ns⟩, rfl, hx⟩
end
end Go.Proofs.YtoldppbakapohaaGreatDoor
end
/- Arguments of type api.Lease, opened. No conditions of their own. -/
section
set_option maxRecDepth 100000
namespace Go.Proofs.YtoldppbakapohaaGreatDoor
open Go.ChangeShapes Go.WideShapes Go.ChangeAt Go.RowKit By Ew Rc
open Dw (ba)

section
variable {H : Type} {enc : TypeId × Value → H}
/-- The four cells of a lease that reads. -/
theorem lease_of_trod {base : Nat} {held : Bool} {W : World} {n : Nat} {cs : List Value} {y : DataW H × List MemPlace} (hy : DataW.trod enc Tryz.prog W base (fun _ => true) held n 35 cs = some y) : ∃ l : L, cs = (lcs l).toList ∧ Fk l := by
  obtain ⟨xs, k, _, _, hl, hlen, hfs⟩ := DataW.trod_struct Tryz.underlying35 hy
  have hl4 : cs.length = 4 := hl.trans (by kernel_rfl)
  have ks : Tryz.prog.cellsOf 9 = 1 := by kernel_rfl
  have ki : Tryz.prog.cellsOf 3 = 1 := by kernel_rfl
  match cs, hl4, xs, hlen with
  | [c0, c1, c2, c3], _, [y0, y1, y2, y3], _ =>
    have g0 : DataW.trod enc Tryz.prog W base (fun _ => true) held k 3 [c0] = some y0 := by have := hfs 0 _ rfl; simpa [ki] using this
    have g1 : DataW.trod enc Tryz.prog W base (fun _ => true) held k 3 [c1] = some y1 := by have := hfs 1 _ rfl; simpa [ki] using this
    have g2 : DataW.trod enc Tryz.prog W base (fun _ => true) held k 3 [c2] = some y2 := by have := hfs 2 _ rfl; simpa [ki] using this
    have g3 : DataW.trod enc Tryz.prog W base (fun _ => true) held k 9 [c3] = some y3 := by have := hfs 3 _ rfl; simpa [ks] using this
    obtain ⟨z0, h0, _, _⟩ := DataW.trod_int Tryz.underlying3 g0
    obtain ⟨z1, h1, _, _⟩ := DataW.trod_int Tryz.underlying3 g1
    obtain ⟨z2, h2, _, _⟩ := DataW.trod_int Tryz.underlying3 g2
    obtain ⟨s3, h3, _, hz3⟩ := DataW.trod_string Tryz.underlying9 g3
    simp only [List.cons.injEq, and_true] at h0 h1 h2 h3
    subst h0 h1 h2 h3
    unfold maxLen at hz3
    have f3 : s3.data.toList.length = s3.size := Array.length_toList
    exact ⟨⟨z0, z1, z2, s3.data.toList⟩, rfl, by show s3.data.toList.length ≤ _; omega⟩
end
end Go.Proofs.YtoldppbakapohaaGreatDoor
end
/- Arguments of type []api.Lease, opened. No conditions of their own. -/
section
set_option maxRecDepth 100000
namespace Go.Proofs.YtoldppbakapohaaGreatDoor
open Go.ChangeShapes Go.WideShapes Go.ChangeAt Go.RowKit By Ew Rc Jw

section
variable {H : Type} {enc : TypeId × Value → H}
/-- An argument of type []api.Lease. -/
theorem open_leases {base b0 : Nat} {held : Bool} {r : Reach} {W : World} {v : Value} {d : DataW H} {ps : List MemPlace}
    (hval : Value.okWide Tryz.prog W r b0 25 v) (h : DataW.Trod enc Tryz.prog W base (fun _ => true) held 25 v d ps) : ∃ A n c l, v = .slice A n c ∧ RdLs W.heap.size W A n c l ∧ ∀ a ∈ l, Fk a := by
  obtain ⟨A, n, c, rfl⟩ := okWide_slice Tryz.underlying25 hval
  obtain ⟨fuel, hf⟩ := h
  obtain ⟨A', n', c', l, e, h1, h2⟩ := rdg_of_trod (Y := layL) Tryz.underlying25 (by kernel_rfl) (by decide) Fk (fun n cs y hy => lease_of_trod hy) (by simpa [Value.cells] using hf)
  exact ⟨A', n', c', l, e, h1, h2⟩
end
end Go.Proofs.YtoldppbakapohaaGreatDoor
end
