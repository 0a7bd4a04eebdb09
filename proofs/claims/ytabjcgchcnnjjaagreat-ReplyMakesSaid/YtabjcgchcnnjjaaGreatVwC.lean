/- What conf's first, Find, OnWire, reserved, KeptFor, Keeper and InPool come to. Condition: the configuration is small (boarderlaw13's Great is false); the keys that are asked for fit. -/
import Derived.Test.YtabjcgchcnnjjaaGreatVwB
section
set_option maxRecDepth 8000
namespace Go.Proofs.YtabjcgchcnnjjaaGreat.Vw
open Go.RowKit By Cf Ad Ky
open Dw (ba ba_size ba_data ba_list alloc_more)

/-! ### The first of a list that is wanted -/
section
variable {α : Type} {q : α → Bool} {l : List α} {k : Nat} {a : α}
theorem find_hit (h : l[k]? = some a) (hE : ∀ b ∈ l.take k, q b = false) (hq : q a = true) : l.find? q = some a := by
  have e : l = l.take k ++ (a :: l.drop (k + 1)) := by
    obtain ⟨hk, rfl⟩ := List.getElem?_eq_some_iff.1 h
    rw [← List.drop_eq_getElem_cons hk, List.take_append_drop]
  rw [e, List.find?_append, List.find?_eq_none.2 fun b hb => by rw [hE b hb]; decide, Option.none_or, List.find?_cons_of_pos hq]
theorem find_miss (hE : ∀ b ∈ l, q b = false) : l.find? q = none := List.find?_eq_none.2 fun b hb => by rw [hE b hb]; decide
theorem idx_find : ∀ l : List α, (idxI q l = -1 ∧ l.find? q = none) ∨ ∃ k : Nat, idxI q l = (k : Int) ∧ ∃ a, l[k]? = some a ∧ l.find? q = some a := fun l => by
  unfold idxI
  cases h : l.findIdx? q with
  | none => exact .inl ⟨rfl, find_miss (List.findIdx?_eq_none_iff.1 h)⟩
  | some k =>
    obtain ⟨hk, hq, hn⟩ := List.findIdx?_eq_some_iff_getElem.1 h
    refine .inr ⟨k, rfl, l[k], List.getElem?_eq_getElem hk, find_hit (List.getElem?_eq_getElem hk) (fun b hb => ?_) hq⟩
    obtain ⟨j, hj, e⟩ := mem_take_at hb
    have hjl : j < l.length := (List.getElem?_eq_some_iff.1 e).1
    have := hn j hj
    rw [(List.getElem?_eq_some_iff.1 e).2] at this
    simpa using this
end
/-- Memory that has a configuration and a number in two new blocks. -/
theorem boxedCi (w : World) (x : Cx) (a : Int) : ∃ w0, w0 = (w.alloc (.cells x.cs 24)).alloc (.cells #[.int .i64 a] 3) ∧ Cel w0 w.heap.size 24 x.cs ∧ Cel w0 (w.heap.size + 1) 3 #[.int .i64 a] ∧ Below w.heap.size w w0 := by
  have hs : (w.alloc (.cells x.cs 24)).heap.size = w.heap.size + 1 := by simp
  have c1 := Cel.born (w.alloc (.cells x.cs 24)) 3 #[.int .i64 a]
  rw [hs] at c1
  exact ⟨_, rfl, (Cel.born w 24 x.cs).below (alloc_more _ _) (by rw [hs]; omega), c1, two_boxes _ _ _ _ _⟩
def knownX (x : Cx) : List Px := if checkC x.cf = 0 then pxF 0 x.ns else []
theorem knownX_mem {x : Cx} {p : Px} (h : p ∈ knownX x) : p ∈ pxF 0 x.ns := by
  unfold knownX at h
  split at h
  · exact h
  · cases h
theorem knownX_len {x : Cx} {U : Nat} {w : World} (h : x.ok U w) (hS : Small x.cf) : (knownX x).length ≤ 100 := by
  unfold knownX
  split
  · exact small_px h hS
  · simp
def firstP (q : Px → Bool) (ps : List Px) : Int × Int × Bool := match ps.find? q with | some p => ((p.net : Int), (p.sub : Int), true) | none => (0, 0, false)
def FiR (t : Int × Int × Bool) (w : World) (e : Ending) (w' : World) : Prop := e = .returned (.tuple #[.int .i64 t.1, .int .i64 t.2.1, .bool t.2.2]) ∧ Below w.heap.size w w'
/-! ### What is reserved -/
theorem celPut1 {w : World} {g : Nat} {t : TypeId} {cs : Array Value} (h : Cel w g t cs) (i : Nat) (v : Value) : Cel (w.setCell ⟨g, i, none⟩ v) g t (cs.setIfInBounds i v) := by
  unfold Cel at *
  rw [setCell_eq_setRow w g i cs t (0, 0) v h]
  exact setRow_heap w g cs _ t _ h
theorem celFr1 {w : World} {g : Nat} {t : TypeId} {cs : Array Value} (h : Cel w g t cs) (i : Nat) : w.frozen? ⟨g, i, none⟩ = false := by
  unfold Cel at h
  simp [World.frozen?, h]
section
variable {w v : World} {g B : Nat} {t : TypeId} {a b c a' b' c' : Value}
theorem celK3 (h : Cel w g t #[a, b, c]) : w.cell? ⟨g, 0, none⟩ = some a ∧ w.cell? ⟨g, 1, none⟩ = some b ∧ w.cell? ⟨g, 2, none⟩ = some c := ⟨by rw [h.cell]; rfl, by rw [h.cell]; rfl, by rw [h.cell]; rfl⟩
theorem celFr3 (h : Cel w g t #[a, b, c]) : w.frozen? ⟨g, 0, none⟩ = false ∧ w.frozen? ⟨g, 1, none⟩ = false ∧ w.frozen? ⟨g, 2, none⟩ = false := ⟨celFr1 h 0, celFr1 h 1, celFr1 h 2⟩
theorem celPut3 (h : Cel w g t #[a', b', c']) : Cel (((w.setCell ⟨g, 0, none⟩ a).setCell ⟨g, 1, none⟩ b).setCell ⟨g, 2, none⟩ c) g t #[a, b, c] := celPut1 (celPut1 (celPut1 h 0 a) 1 b) 2 c
theorem belowPut3 (h : Below B v w) (hg : B ≤ g) (a b c : Value) : Below B v (((w.setCell ⟨g, 0, none⟩ a).setCell ⟨g, 1, none⟩ b).setCell ⟨g, 2, none⟩ c) :=
  ((h.setCell (p := ⟨g, 0, none⟩) hg _).setCell (p := ⟨g, 1, none⟩) hg _).setCell (p := ⟨g, 2, none⟩) hg _
theorem ret_kept2 {fn : Func} {p u : Tmp} (hres : fn.results = #[.cell p 125, .tmp u]) (tmps : Array Value) (w : World) (g : Nat) (cs : Array Value) (hp : tmps.getD p undef = .pointer (some ⟨g, 0, none⟩)) (hc : Cel w g 125 cs) (h3 : cs.size = 3) :
    (results fn tmps).run Tryz.prog w = .ok (.tuple #[.agg cs, tmps.getD u undef]) w := by
  rw [results_cell_tmp hres, hp]
  have := run_loadVar_row (P := Tryz.prog) w g 125 125 cs (0, 0) _ hc Tryz.underlying125 rfl (by rw [h3]; kernel_rfl)
  simp [asAddr, this]
end
def firstK (q : Kx → Bool) (ks : List Kx) : Value × Bool := match ks.find? q with | some k => (k.v, true) | none => (.agg #[.string ⟨#[]⟩, .int .i64 0, .int .i64 0], false)
def KpR (t : Value × Bool) (w : World) (e : Ending) (w' : World) : Prop := e = .returned (.tuple #[t.1, .bool t.2]) ∧ Below w.heap.size w w'
end Go.Proofs.YtabjcgchcnnjjaaGreat.Vw
end
/- What conf's KeptFor, Keeper and InPool come to. Condition: the configuration is small (boarderlaw13's Great is false); the keys that are asked for fit. -/
section
set_option maxRecDepth 8000
namespace Go.Proofs.YtabjcgchcnnjjaaGreat.Vw
open Go.RowKit By Cf Ad Ky
open Dw (ba ba_size ba_data ba_list alloc_more)

/-- Memory that has a configuration and two more cells in three new blocks. -/
theorem boxedC2 (w : World) (x : Cx) (u v : Value) (s t : TypeId) : ∃ w0, w0 = ((w.alloc (.cells x.cs 24)).alloc (.cells #[u] s)).alloc (.cells #[v] t) ∧ Cel w0 (w.heap.size + 1) s #[u] ∧ Cel w0 (w.heap.size + 2) t #[v] ∧ Below w.heap.size w w0 ∧ w0.heap.size = w.heap.size + 3 := by
  have hs : (w.alloc (.cells x.cs 24)).heap.size = w.heap.size + 1 := by simp
  have hs2 : ((w.alloc (.cells x.cs 24)).alloc (.cells #[u] s)).heap.size = w.heap.size + 2 := by simp
  have c1 := Cel.born (w.alloc (.cells x.cs 24)) s #[u]
  rw [hs] at c1
  have c2 := Cel.born ((w.alloc (.cells x.cs 24)).alloc (.cells #[u] s)) t #[v]
  rw [hs2] at c2
  exact ⟨_, rfl, c1.below (alloc_more _ _) (by rw [hs2]; omega), c2, (two_boxes w _ _ _ _).alloc (by rw [hs2]; omega) _, by simp⟩
theorem firstK_cases (q : Kx → Bool) (ks : List Kx) : (ks.find? q = none ∧ firstK q ks = (.agg #[.string ⟨#[]⟩, .int .i64 0, .int .i64 0], false)) ∨ ∃ k, ks.find? q = some k ∧ firstK q ks = (k.v, true) := by
  unfold firstK
  cases h : ks.find? q with
  | none => exact .inl ⟨rfl, rfl⟩
  | some k => exact .inr ⟨k, rfl, rfl⟩
def AdR (t : Int × Bool) (w : World) (e : Ending) (w' : World) : Prop := e = .returned (.tuple #[.int .i64 t.1, .bool t.2]) ∧ Below w.heap.size w w'
def KeR (t : List UInt8 × Bool) (w : World) (e : Ending) (w' : World) : Prop := e = .returned (.tuple #[.string (ba t.1), .bool t.2]) ∧ Below w.heap.size w w'
/-! ### In the document's words -/
theorem mapIdx_find (f : Sn → Bool) (i : Nat) : ∀ (xs : List Sx) (o : Nat), ((xs.mapIdx fun j x => (⟨x, i, o + j⟩ : Px)).find? fun p => f p.x.s) = ((snsOf xs).findIdx? f).bind fun k => (xs[k]?).map fun x => (⟨x, i, o + k⟩ : Px)
  | [], o => rfl
  | x :: xs, o => by
    rw [List.mapIdx_cons, show snsOf (x :: xs) = x.s :: snsOf xs from rfl, List.findIdx?_cons]
    cases h : f x.s with
    | true => rw [List.find?_cons_of_pos (by exact h)]; rfl
    | false =>
      rw [List.find?_cons_of_neg (by simp [h])]
      have e : (fun j x => (⟨x, i, o + (j + 1)⟩ : Px)) = fun j x => (⟨x, i, (o + 1) + j⟩ : Px) := by
        funext j y
        rw [show o + (j + 1) = o + 1 + j by omega]
      rw [e, mapIdx_find f i xs (o + 1)]
      cases (snsOf xs).findIdx? f with
      | none => rfl
      | some k =>
        show (xs[k]?).map (fun x => (⟨x, i, o + 1 + k⟩ : Px)) = ((x :: xs)[k + 1]?).map fun x => (⟨x, i, o + (k + 1)⟩ : Px)
        rw [List.getElem?_cons_succ, show o + 1 + k = o + (k + 1) by omega]
theorem findN_px (f : Sn → Bool) : ∀ (l : List Nx) (i : Nat), ansP (findN f i (netsOf l)) = firstP (fun p => f p.x.s) (pxF i l)
  | [], _ => rfl
  | y :: l, i => by
    have hm := mapIdx_find f i y.xs 0
    simp only [Nat.zero_add] at hm
    unfold firstP
    rw [show netsOf (y :: l) = snsOf y.xs :: netsOf l from rfl, findN, pxF, List.find?_append, pxN, hm]
    cases h : (snsOf y.xs).findIdx? f with
    | some k =>
      obtain ⟨hk, _, _⟩ := List.findIdx?_eq_some_iff_getElem.1 h
      rw [sns_len] at hk
      simp only [Option.bind_some, List.getElem?_eq_getElem hk]
      rfl
    | none =>
      simp only [Option.bind_none, Option.none_or]
      have := findN_px f l (i + 1)
      unfold firstP at this
      exact this
theorem find_doc (x : Cx) (a : Int) : firstP (fun p => hasB p.x.base p.x.bits a) (knownX x) = findC x.cf a := by
  unfold knownX findC
  split
  · rw [show x.cf.nets = netsOf x.ns from rfl, findN_px]
    rfl
  · rfl
theorem wire_doc (x : Cx) (a : Int) : firstP (fun p => decide (0 < a) && decide (p.x.iface = a)) (knownX x) = wireC x.cf a := by
  unfold knownX wireC
  by_cases h0 : checkC x.cf = 0
  · rw [if_pos h0]
    by_cases h1 : 1 ≤ a
    · rw [if_pos ⟨h0, h1⟩, show x.cf.nets = netsOf x.ns from rfl, findN_px]
      rw [decide_eq_true (show 0 < a by omega)]
      rfl
    · rw [if_neg fun k => h1 k.2, decide_eq_false (show ¬ 0 < a by omega)]
      unfold firstP
      rw [find_miss (q := fun p : Px => false && decide (p.x.iface = a)) fun b _ => rfl]
  · rw [if_neg h0, if_neg fun k => h0 k.1]
    rfl
theorem kx_find (f : Rs → Bool) (net : Int) : ∀ (l : List Nx) (i : Nat), ((kxF (pxF i l)).find? fun k => decide ((k.net : Int) = net) && f k.r).map Kx.r = if (i : Int) ≤ net ∧ net < i + l.length then ((((netsOf l).getD (net - i).toNat []).flatMap fun s => s.res).find? f) else none
  | [], i => by
    rw [if_neg (by simp)]
    rfl
  | y :: l, i => by
    have ih := kx_find f net l (i + 1)
    have h1 : kxF (pxN i y.xs) = ((snsOf y.xs).flatMap fun s => s.res).map fun r => (⟨r, i⟩ : Kx) := by
      unfold kxF pxN snsOf kxP1
      rw [List.map_flatMap, List.flatMap_map]
      have : ∀ (xs : List Sx) (o : Nat), ((xs.mapIdx fun j x => (⟨x, i, o + j⟩ : Px)).flatMap fun p => p.x.res.map fun r => (⟨r, p.net⟩ : Kx)) = xs.flatMap fun x => x.s.res.map fun r => (⟨r, i⟩ : Kx) := by
        intro xs
        induction xs with
        | nil => intro o; rfl
        | cons x xs ih2 =>
          intro o
          rw [List.mapIdx_cons, List.flatMap_cons, List.flatMap_cons]
          have e : (fun j x => (⟨x, i, o + (j + 1)⟩ : Px)) = fun j x => (⟨x, i, (o + 1) + j⟩ : Px) := by
            funext j y
            rw [show o + (j + 1) = o + 1 + j by omega]
          rw [e, ih2 (o + 1)]
          rfl
      have h0 := this y.xs 0
      simp only [Nat.zero_add] at h0
      exact h0
    have h2 : kxF (pxF i (y :: l)) = kxF (pxN i y.xs) ++ kxF (pxF (i + 1) l) := by unfold kxF; rw [pxF, List.flatMap_append]
    rw [h2, List.find?_append, h1, List.find?_map]
    by_cases hi : (i : Int) = net
    · have h3 : ((fun k : Kx => decide ((k.net : Int) = net) && f k.r) ∘ fun r => (⟨r, i⟩ : Kx)) = f := by
        funext r
        simp [hi]
      have hn : (kxF (pxF (i + 1) l)).find? (fun k => decide ((k.net : Int) = net) && f k.r) = none := by
        have := ih
        rw [if_neg (by omega)] at this
        exact Option.map_eq_none_iff.1 this
      rw [h3, hn, Option.or_none, Option.map_map, if_pos (by rw [List.length_cons]; omega), show (net - i).toNat = 0 by omega]
      show Option.map (fun r => r) _ = _
      rw [Option.map_id']
      rfl
    · have h3 : ((fun k : Kx => decide ((k.net : Int) = net) && f k.r) ∘ fun r => (⟨r, i⟩ : Kx)) = fun _ => false := by
        funext r
        simp [hi]
      rw [h3, find_miss (fun b _ => rfl), Option.map_none, Option.none_or, ih]
      by_cases hr : (i : Int) + 1 ≤ net ∧ net < i + 1 + l.length
      · rw [if_pos (by omega), if_pos (by rw [List.length_cons]; omega)]
        rw [show (net - (i : Int)).toNat = (net - ((i + 1 : Nat) : Int)).toNat + 1 by omega]
        rfl
      · rw [if_neg (by omega), if_neg (by rw [List.length_cons]; omega)]
theorem netC_at {x : Cx} (h : checkC x.cf = 0) (net : Int) (f : Rs → Bool) : ((netC x.cf net).flatMap fun s => s.res).find? f = if (0 : Int) ≤ net ∧ net < (0 : Int) + x.ns.length then ((((netsOf x.ns).getD net.toNat []).flatMap fun s => s.res).find? f) else none := by
  unfold netC
  have hl : x.cf.nets.length = x.ns.length := nets_len x.ns
  by_cases hr : (0 : Int) ≤ net ∧ net < x.ns.length
  · rw [if_pos ⟨h, hr.1, by rw [hl]; exact hr.2⟩, if_pos (by omega)]
    rfl
  · rw [if_neg fun k => hr ⟨k.2.1, by rw [← hl]; exact k.2.2⟩, if_neg (by omega)]
    rfl
theorem netC_none {x : Cx} (h : ¬ checkC x.cf = 0) (net : Int) : netC x.cf net = [] := by
  unfold netC
  rw [if_neg fun k => h k.1]
theorem kept_doc (x : Cx) (net : Int) (key : List UInt8) : ansA (((kxF (knownX x)).find? fun k => decide ((k.net : Int) = net) && decide (k.r.key = key)).map Kx.r) = keptC x.cf net key := by
  unfold knownX keptC keptN
  by_cases h : checkC x.cf = 0
  · rw [if_pos h, netC_at h]
    have := kx_find (fun r => decide (r.key = key)) net x.ns 0
    simp only [Int.natCast_zero, Int.sub_zero] at this
    rw [this]
  · rw [if_neg h, netC_none h]
    rfl
theorem kx_res : ∀ (l : List Nx) (i : Nat), (kxF (pxF i l)).map Kx.r = (netsOf l).flatten.flatMap fun s => s.res
  | [], _ => rfl
  | y :: l, i => by
    have h2 : kxF (pxF i (y :: l)) = kxF (pxN i y.xs) ++ kxF (pxF (i + 1) l) := by unfold kxF; rw [pxF, List.flatMap_append]
    have h1 : (kxF (pxN i y.xs)).map Kx.r = (snsOf y.xs).flatMap fun s => s.res := by
      have : ∀ (xs : List Sx) (o : Nat), (((xs.mapIdx fun j x => (⟨x, i, o + j⟩ : Px)).flatMap fun p => p.x.res.map fun r => (⟨r, p.net⟩ : Kx))).map Kx.r = (snsOf xs).flatMap fun s => s.res := by
        intro xs
        induction xs with
        | nil => intro o; rfl
        | cons x xs ih2 =>
          intro o
          rw [List.mapIdx_cons, List.flatMap_cons, List.map_append]
          have e : (fun j x => (⟨x, i, o + (j + 1)⟩ : Px)) = fun j x => (⟨x, i, (o + 1) + j⟩ : Px) := by
            funext j y
            rw [show o + (j + 1) = o + 1 + j by omega]
          rw [e, ih2 (o + 1), List.map_map]
          show List.map (fun r => r) _ ++ _ = _
          rw [List.map_id']
          rfl
      have h0 := this y.xs 0
      simp only [Nat.zero_add] at h0
      exact h0
    rw [h2, List.map_append, h1, kx_res l (i + 1), show netsOf (y :: l) = snsOf y.xs :: netsOf l from rfl, List.flatten_cons, List.flatMap_append]
theorem keeper_doc (x : Cx) (a : Int) : ansK (((kxF (knownX x)).find? fun k => decide (k.r.addr = a)).map Kx.r) = keeperC x.cf a := by
  unfold knownX keeperC
  by_cases h : checkC x.cf = 0
  · rw [if_pos h, if_pos h]
    unfold keeperN
    rw [show x.cf.nets = netsOf x.ns from rfl, ← kx_res x.ns 0, List.find?_map]
    rfl
  · rw [if_neg h, if_neg h]
    rfl
theorem pool_doc (x : Cx) (net a : Int) : ((knownX x).any fun p => decide ((p.net : Int) = net) && p.x.s.pools.any fun q => inPl q a) = inPoolC x.cf net a := by
  unfold knownX inPoolC pooledN
  by_cases h : checkC x.cf = 0
  · rw [if_pos h]
    have e : ((pxF 0 x.ns).any fun p => decide ((p.net : Int) = net) && p.x.s.pools.any fun q => inPl q a) = (flatN 0 x.cf.nets).any fun z => decide ((z.1 : Int) = net) && z.2.pools.any fun q => inPl q a := by
      rw [show x.cf.nets = netsOf x.ns from rfl, flat_px, List.any_map]
      rfl
    rw [e, Bool.eq_iff_iff, List.any_eq_true, List.any_eq_true]
    constructor
    · rintro ⟨⟨i, s⟩, hz, hq⟩
      rw [Bool.and_eq_true, decide_eq_true_iff] at hq
      obtain ⟨hi, hs⟩ := mem_flat.1 hz
      refine ⟨s, ?_, hq.2⟩
      unfold netC
      have hq1 := hq.1
      simp only at hq1
      rw [if_pos ⟨h, by omega, by omega⟩, List.getD_eq_getElem?_getD, show net.toNat = i by omega, List.getElem?_eq_getElem hi]
      exact hs
    · rintro ⟨s, hs, hq⟩
      obtain ⟨_, i, rfl, hi, hm⟩ := net_at hs
      exact ⟨(i, s), mem_flat.2 ⟨hi, hm⟩, by simp only [decide_true, Bool.true_and]; exact hq⟩
  · rw [if_neg h, netC_none h]
    rfl
end Go.Proofs.YtabjcgchcnnjjaaGreat.Vw
end
