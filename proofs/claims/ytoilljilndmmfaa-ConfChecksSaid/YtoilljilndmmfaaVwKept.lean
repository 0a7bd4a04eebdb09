/- What conf's KeptFor, Keeper and InPool come to. Condition: the configuration is small (boarderlaw13's Great is false); the keys that are asked for fit. -/
import Derived.Test.YtoilljilndmmfaaVwFind
set_option maxRecDepth 8000
namespace Go.Proofs.Ytoilljilndmmfaa.Vw
open Go.RowKit By Cf Ad Ky
open Dw (ba ba_size ba_data ba_list alloc_more)

/-- Memory that has a configuration and two more cells in three new blocks. -/
theorem boxedC2 (w : World) (x : Cx) (u v : Value) (s t : TypeId) : ∃ w0, w0 = ((w.alloc (.cells x.cs 24)).alloc (.cells #[u] s)).alloc (.cells #[v] t) ∧ Cel w0 (w.heap.size + 1) s #[u] ∧ Cel w0 (w.heap.size + 2) t #[v] ∧ Below w.heap.size w w0 ∧ w0.heap.size = w.heap.size + 3 := by
  have hs : (w.alloc (.cells x.cs 24)).heap.size = w.heap.size + 1 := by simp
  have hs2 : ((w.alloc (.cells x.cs 24)).alloc (.cells #[u] s)).heap.size = w.heap.size + 2 := by simp
  have c1 := Cel.born (w.alloc (.cells x.cs 24)) s #[u]
  rw [hs] at c1
  have c2 := Cel.born ((w.alloc (.cells x.cs 24)).alloc (.cells #[u] s)) t #[v]
  rw [hs2] at c2
  exact ⟨_, rfl, c1.below (alloc_more _ _) (by rw [hs2]; omega), c2, (two_boxes w _ _ _ _).alloc (by rw [hs2]; omega) _, by simp⟩
theorem firstK_cases (q : Kx → Bool) (ks : List Kx) : (ks.find? q = none ∧ firstK q ks = (.agg #[.string ⟨#[]⟩, .int .i64 0, .int .i64 0], false)) ∨ ∃ k, ks.find? q = some k ∧ firstK q ks = (k.v, true) := by
  unfold firstK
  cases h : ks.find? q with
  | none => exact .inl ⟨rfl, rfl⟩
  | some k => exact .inr ⟨k, rfl, rfl⟩
def AdR (t : Int × Bool) (w : World) (e : Ending) (w' : World) : Prop := e = .returned (.tuple #[.int .i64 t.1, .bool t.2]) ∧ Below w.heap.size w w'
def KeR (t : List UInt8 × Bool) (w : World) (e : Ending) (w' : World) : Prop := e = .returned (.tuple #[.string (ba t.1), .bool t.2]) ∧ Below w.heap.size w w'
set_option maxHeartbeats 2000000 in
theorem keptX_any (x : Cx) (net : Int) (key : List UInt8) (U : Nat) (w : World) (h : x.ok U w) (hU : U ≤ w.heap.size) (hS : Small x.cf) :
    Calls Try.prog 16 #[x.v, .int .i64 net, .string (ba key)] w (AdR (ansA (((kxF (knownX x)).find? fun k => decide ((k.net : Int) = net) && decide (k.r.key = key)).map Kx.r)) w) := by
  obtain ⟨w0, hw0, hc1, hc2, hb0, hz⟩ := boxedC2 w x (.int .i64 net) (.string (ba key)) 3 9
  have HF := Lib.hid (reserved_gen x U w0 (h.below (hb0.mono hU)) (by omega) hS 40 (fun args W => by rfl) #[.pointer (some ⟨w.heap.size + 1, 0, none⟩), .pointer (some ⟨w.heap.size + 2, 0, none⟩)] (fun k => decide ((k.net : Int) = net) && decide (k.r.key = key))
    (fun k W hW => by rw [app2]; exact kept_any k net key _ _ W (by have := hW.size; omega) (by rw [(hc1.below hW hc1.lt).cell]; rfl) (by have := hW.size; omega) (by rw [(hc2.below hW hc2.lt).cell]; rfl)))
  have HB := Lib.hid hb0
  clear h hU hS hc1 hc2 hb0 hz
  rcases firstK_cases (fun k => decide ((k.net : Int) = net) && decide (k.r.key = key)) (kxF (knownX x)) with ⟨h1, h2⟩ | ⟨k, h1, h2⟩
  · rw [h2] at HF
    rw [h1]
    clear h1 h2
    go_enter Try.func16, Try.ntmps16
    go_wp2_with fail
    rw [← hw0]
    clear hw0
    refine HF.out.mono ?_
    rintro e w1 ⟨rfl, hb1⟩
    go_wp2
    go_ret2
    exact ⟨rfl, (HB.out.trans (hb1.mono HB.out.size)).trans ((alloc_more _ _).mono (Nat.le_trans HB.out.size hb1.size))⟩
  · rw [h2] at HF
    rw [h1]
    clear h1 h2
    go_enter Try.func16, Try.ntmps16
    go_wp2_with fail
    rw [← hw0]
    clear hw0
    refine HF.out.mono ?_
    rintro e w1 ⟨rfl, hb1⟩
    go_wp2
    go_ret2
    exact ⟨rfl, (HB.out.trans (hb1.mono HB.out.size)).trans ((alloc_more _ _).mono (Nat.le_trans HB.out.size hb1.size))⟩
set_option maxHeartbeats 2000000 in
theorem keeperX_any (x : Cx) (a : Int) (U : Nat) (w : World) (h : x.ok U w) (hU : U ≤ w.heap.size) (hS : Small x.cf) :
    Calls Try.prog 18 #[x.v, .int .i64 a] w (KeR (ansK (((kxF (knownX x)).find? fun k => decide (k.r.addr = a)).map Kx.r)) w) := by
  obtain ⟨w0, hw0, hc0, hc1, hb0⟩ := boxedCi w x a
  have hz : w0.heap.size = w.heap.size + 2 := by rw [hw0]; simp
  have HF := Lib.hid (reserved_gen x U w0 (h.below (hb0.mono hU)) (by omega) hS 41 (fun args W => by rfl) #[.pointer (some ⟨w.heap.size + 1, 0, none⟩)] (fun k => decide (k.r.addr = a))
    (fun k W hW => by rw [app1]; exact keeps_any k a _ W (by have := hW.size; omega) (by rw [(hc1.below hW hc1.lt).cell]; rfl)))
  have HB := Lib.hid hb0
  clear h hU hS hc0 hc1 hb0 hz
  rcases firstK_cases (fun k => decide (k.r.addr = a)) (kxF (knownX x)) with ⟨h1, h2⟩ | ⟨k, h1, h2⟩
  · rw [h2] at HF
    rw [h1]
    clear h1 h2
    go_enter Try.func18, Try.ntmps18
    go_wp2_with fail
    rw [← hw0]
    clear hw0
    refine HF.out.mono ?_
    rintro e w1 ⟨rfl, hb1⟩
    go_wp2
    go_ret2
    exact ⟨rfl, (HB.out.trans (hb1.mono HB.out.size)).trans ((alloc_more _ _).mono (Nat.le_trans HB.out.size hb1.size))⟩
  · rw [h2] at HF
    rw [h1]
    clear h1 h2
    go_enter Try.func18, Try.ntmps18
    go_wp2_with fail
    rw [← hw0]
    clear hw0
    refine HF.out.mono ?_
    rintro e w1 ⟨rfl, hb1⟩
    go_wp2
    go_ret2
    exact ⟨rfl, (HB.out.trans (hb1.mono HB.out.size)).trans ((alloc_more _ _).mono (Nat.le_trans HB.out.size hb1.size))⟩
set_option maxHeartbeats 2000000 in
theorem inNet_any (p : Px) (pn rn U : Nat) (net a : Int) (g g2 : Nat) (w : World) (hok : p.x.ok U w pn rn) (hU : U ≤ w.heap.size) (hg : g < w.heap.size) (hc : w.cell? ⟨g, 0, none⟩ = some (.int .i64 net)) (hg2 : g2 < w.heap.size) (hc2 : w.cell? ⟨g2, 0, none⟩ = some (.int .i64 a)) :
    Calls Try.prog 44 #[p.v pn rn, .pointer (some ⟨g, 0, none⟩), .pointer (some ⟨g2, 0, none⟩)] w (isB (decide ((p.net : Int) = net) && p.x.s.pools.any fun q => inPl q a) w) := by
  obtain ⟨w0, hw0, hc0, hb0⟩ := boxed w p pn rn
  have hz : w0.heap.size = w.heap.size + 1 := by rw [hw0]; simp
  have HP := Lib.hid (pools_any p pn rn U a w0 (hok.below (hb0.mono hU)) (by omega))
  have HB := Lib.hid hb0
  have HC0 := Lib.hid hc0
  have d0 : w0.cell? ⟨g, 0, none⟩ = some (.int .i64 net) := (hb0.cell (p := ⟨g, 0, none⟩) hg).trans hc
  have d1 : w0.cell? ⟨g2, 0, none⟩ = some (.int .i64 a) := (hb0.cell (p := ⟨g2, 0, none⟩) hg2).trans hc2
  clear hok hU hg hg2 hc hc2 hc0 hb0 hz
  by_cases h1 : (p.net : Int) = net
  · have hq : ((p.net : Int) == net) = true := by simpa using h1
    have H : Hid ((decide ((p.net : Int) = net) && p.x.s.pools.any fun q => inPl q a) = p.x.s.pools.any fun q => inPl q a) := by show _ = _; rw [decide_eq_true h1, Bool.true_and]
    clear h1
    go_enter Try.func44, Try.ntmps44
    go_upto_region 1 with fail
    rw [← hw0]
    clear hw0
    obtain ⟨c0, c1, c2, c3, c4, c5, c6, c7, c8⟩ := cel9 HC0.out
    go_wp2_with fail
    refine HP.out.mono ?_
    rintro e w1 ⟨rfl, hb1⟩
    go_wp2
    go_ret
    exact ⟨ret_bool H.out.symm, HB.out.trans (hb1.mono HB.out.size)⟩
  · have hq : ((p.net : Int) == net) = false := by simpa using h1
    have H : Hid ((decide ((p.net : Int) = net) && p.x.s.pools.any fun q => inPl q a) = false) := by show _ = _; rw [decide_eq_false h1, Bool.false_and]
    clear h1
    go_enter Try.func44, Try.ntmps44
    go_upto_region 1 with fail
    rw [← hw0]
    clear hw0
    obtain ⟨c0, c1, c2, c3, c4, c5, c6, c7, c8⟩ := cel9 HC0.out
    go_wp2
    go_ret
    exact ⟨ret_bool H.out.symm, HB.out⟩
set_option maxHeartbeats 2000000 in
theorem inPoolX_any (x : Cx) (net a : Int) (U : Nat) (w : World) (h : x.ok U w) (hU : U ≤ w.heap.size) (hS : Small x.cf) :
    Calls Try.prog 20 #[x.v, .int .i64 net, .int .i64 a] w (isB ((knownX x).any fun p => decide ((p.net : Int) = net) && p.x.s.pools.any fun q => inPl q a) w) := by
  obtain ⟨w0, hw0, hc1, hc2, hb0, hz⟩ := boxedC2 w x (.int .i64 net) (.int .i64 a) 3 3
  have HKN : Hid (Calls Try.prog 43 #[x.v] w0 (PlR w0 (knownX x))) := known_any x U w0 (h.below (hb0.mono hU)) (by omega) hS
  have HX := Lib.hid (fun w1 A n c (b1 : Below w0.heap.size w0 w1) (r1 : RdPx w1.heap.size w1 A n c (knownX x)) => hasX 44 (fun args W => by rfl) #[.pointer (some ⟨w.heap.size + 1, 0, none⟩), .pointer (some ⟨w.heap.size + 2, 0, none⟩)] (fun p => decide ((p.net : Int) = net) && p.x.s.pools.any fun q => inPl q a) A n c w1.heap.size (knownX x) w1 r1 (Nat.le_refl _)
    (fun p hp pn rn e1 e2 W hW => by
      have b2 := b1.trans (hW.mono b1.size)
      have hs2 := b2.size
      rw [app2]
      exact inNet_any p pn rn w1.heap.size net a _ _ W (ok_of r1 hp e1 e2 (Nat.le_refl _) hW) hW.size (by omega) (by rw [(hc1.below b2 hc1.lt).cell]; rfl) (by omega) (by rw [(hc2.below b2 hc2.lt).cell]; rfl)))
  have HB := Lib.hid hb0
  clear h hU hS hc1 hc2 hb0 hz
  go_enter Try.func20, Try.ntmps20
  go_wp2_with fail
  rw [← hw0]
  clear hw0
  refine HKN.out.mono ?_
  rintro e w1 ⟨A, n, c, rfl, hr, hb1⟩
  have HX1 := Lib.hid (HX.out w1 A n c hb1 hr)
  have HB1 := Lib.hid (HB.out.trans (hb1.mono HB.out.size))
  clear hr hb1
  go_wp2_with fail
  refine HX1.out.mono ?_
  rintro e w2 ⟨rfl, hb2⟩
  go_wp2
  go_ret
  exact ⟨rfl, HB1.out.trans (hb2.mono HB1.out.size)⟩
/-! ### In the document's words -/
theorem mapIdx_find (f : Sn → Bool) (i : Nat) : ∀ (xs : List Sx) (o : Nat), ((xs.mapIdx fun j x => (⟨x, i, o + j⟩ : Px)).find? fun p => f p.x.s) = ((snsOf xs).findIdx? f).bind fun k => (xs[k]?).map fun x => (⟨x, i, o + k⟩ : Px)
  | [], o => rfl
  | x :: xs, o => by
    rw [List.mapIdx_cons, show snsOf (x :: xs) = x.s :: snsOf xs from rfl, List.findIdx?_cons]
    cases h : f x.s with
    | true => rw [List.find?_cons_of_pos (by exact h)]; rfl
    | false =>
      rw [List.find?_cons_of_neg (by simp [h])]
      have e : (fun j x => (⟨x, i, o + (j + 1)⟩ : Px)) = fun j x => (⟨x, i, (o + 1) + j⟩ : Px) := by
        funext j y
        rw [show o + (j + 1) = o + 1 + j by omega]
      rw [e, mapIdx_find f i xs (o + 1)]
      cases (snsOf xs).findIdx? f with
      | none => rfl
      | some k =>
        show (xs[k]?).map (fun x => (⟨x, i, o + 1 + k⟩ : Px)) = ((x :: xs)[k + 1]?).map fun x => (⟨x, i, o + (k + 1)⟩ : Px)
        rw [List.getElem?_cons_succ, show o + 1 + k = o + (k + 1) by omega]
theorem findN_px (f : Sn → Bool) : ∀ (l : List Nx) (i : Nat), ansP (findN f i (netsOf l)) = firstP (fun p => f p.x.s) (pxF i l)
  | [], _ => rfl
  | y :: l, i => by
    have hm := mapIdx_find f i y.xs 0
    simp only [Nat.zero_add] at hm
    unfold firstP
    rw [show netsOf (y :: l) = snsOf y.xs :: netsOf l from rfl, findN, pxF, List.find?_append, pxN, hm]
    cases h : (snsOf y.xs).findIdx? f with
    | some k =>
      obtain ⟨hk, _, _⟩ := List.findIdx?_eq_some_iff_getElem.1 h
      rw [sns_len] at hk
      simp only [Option.bind_some, List.getElem?_eq_getElem hk]
      rfl
    | none =>
      simp only [Option.bind_none, Option.none_or]
      have := findN_px f l (i + 1)
      unfold firstP at this
      exact this
theorem find_doc (x : Cx) (a : Int) : firstP (fun p => hasB p.x.base p.x.bits a) (knownX x) = findC x.cf a := by
  unfold knownX findC
  split
  · rw [show x.cf.nets = netsOf x.ns from rfl, findN_px]
    rfl
  · rfl
theorem wire_doc (x : Cx) (a : Int) : firstP (fun p => decide (0 < a) && decide (p.x.iface = a)) (knownX x) = wireC x.cf a := by
  unfold knownX wireC
  by_cases h0 : checkC x.cf = 0
  · rw [if_pos h0]
    by_cases h1 : 1 ≤ a
    · rw [if_pos ⟨h0, h1⟩, show x.cf.nets = netsOf x.ns from rfl, findN_px]
      rw [decide_eq_true (show 0 < a by omega)]
      rfl
    · rw [if_neg fun k => h1 k.2, decide_eq_false (show ¬ 0 < a by omega)]
      unfold firstP
      rw [find_miss (q := fun p : Px => false && decide (p.x.iface = a)) fun b _ => rfl]
  · rw [if_neg h0, if_neg fun k => h0 k.1]
    rfl
theorem kx_find (f : Rs → Bool) (net : Int) : ∀ (l : List Nx) (i : Nat), ((kxF (pxF i l)).find? fun k => decide ((k.net : Int) = net) && f k.r).map Kx.r = if (i : Int) ≤ net ∧ net < i + l.length then ((((netsOf l).getD (net - i).toNat []).flatMap fun s => s.res).find? f) else none
  | [], i => by
    rw [if_neg (by simp)]
    rfl
  | y :: l, i => by
    have ih := kx_find f net l (i + 1)
    have h1 : kxF (pxN i y.xs) = ((snsOf y.xs).flatMap fun s => s.res).map fun r => (⟨r, i⟩ : Kx) := by
      unfold kxF pxN snsOf kxP1
      rw [List.map_flatMap, List.flatMap_map]
      have : ∀ (xs : List Sx) (o : Nat), ((xs.mapIdx fun j x => (⟨x, i, o + j⟩ : Px)).flatMap fun p => p.x.res.map fun r => (⟨r, p.net⟩ : Kx)) = xs.flatMap fun x => x.s.res.map fun r => (⟨r, i⟩ : Kx) := by
        intro xs
        induction xs with
        | nil => intro o; rfl
        | cons x xs ih2 =>
          intro o
          rw [List.mapIdx_cons, List.flatMap_cons, List.flatMap_cons]
          have e : (fun j x => (⟨x, i, o + (j + 1)⟩ : Px)) = fun j x => (⟨x, i, (o + 1) + j⟩ : Px) := by
            funext j y
            rw [show o + (j + 1) = o + 1 + j by omega]
          rw [e, ih2 (o + 1)]
          rfl
      have h0 := this y.xs 0
      simp only [Nat.zero_add] at h0
      exact h0
    have h2 : kxF (pxF i (y :: l)) = kxF (pxN i y.xs) ++ kxF (pxF (i + 1) l) := by unfold kxF; rw [pxF, List.flatMap_append]
    rw [h2, List.find?_append, h1, List.find?_map]
    by_cases hi : (i : Int) = net
    · have h3 : ((fun k : Kx => decide ((k.net : Int) = net) && f k.r) ∘ fun r => (⟨r, i⟩ : Kx)) = f := by
        funext r
        simp [hi]
      have hn : (kxF (pxF (i + 1) l)).find? (fun k => decide ((k.net : Int) = net) && f k.r) = none := by
        have := ih
        rw [if_neg (by omega)] at this
        exact Option.map_eq_none_iff.1 this
      rw [h3, hn, Option.or_none, Option.map_map, if_pos (by rw [List.length_cons]; omega), show (net - i).toNat = 0 by omega]
      show Option.map (fun r => r) _ = _
      rw [Option.map_id']
      rfl
    · have h3 : ((fun k : Kx => decide ((k.net : Int) = net) && f k.r) ∘ fun r => (⟨r, i⟩ : Kx)) = fun _ => false := by
        funext r
        simp [hi]
      rw [h3, find_miss (fun b _ => rfl), Option.map_none, Option.none_or, ih]
      by_cases hr : (i : Int) + 1 ≤ net ∧ net < i + 1 + l.length
      · rw [if_pos (by omega), if_pos (by rw [List.length_cons]; omega)]
        rw [show (net - (i : Int)).toNat = (net - ((i + 1 : Nat) : Int)).toNat + 1 by omega]
        rfl
      · rw [if_neg (by omega), if_neg (by rw [List.length_cons]; omega)]
theorem netC_at {x : Cx} (h : checkC x.cf = 0) (net : Int) (f : Rs → Bool) : ((netC x.cf net).flatMap fun s => s.res).find? f = if (0 : Int) ≤ net ∧ net < (0 : Int) + x.ns.length then ((((netsOf x.ns).getD net.toNat []).flatMap fun s => s.res).find? f) else none := by
  unfold netC
  have hl : x.cf.nets.length = x.ns.length := nets_len x.ns
  by_cases hr : (0 : Int) ≤ net ∧ net < x.ns.length
  · rw [if_pos ⟨h, hr.1, by rw [hl]; exact hr.2⟩, if_pos (by omega)]
    rfl
  · rw [if_neg fun k => hr ⟨k.2.1, by rw [← hl]; exact k.2.2⟩, if_neg (by omega)]
    rfl
theorem netC_none {x : Cx} (h : ¬ checkC x.cf = 0) (net : Int) : netC x.cf net = [] := by
  unfold netC
  rw [if_neg fun k => h k.1]
theorem kept_doc (x : Cx) (net : Int) (key : List UInt8) : ansA (((kxF (knownX x)).find? fun k => decide ((k.net : Int) = net) && decide (k.r.key = key)).map Kx.r) = keptC x.cf net key := by
  unfold knownX keptC keptN
  by_cases h : checkC x.cf = 0
  · rw [if_pos h, netC_at h]
    have := kx_find (fun r => decide (r.key = key)) net x.ns 0
    simp only [Int.natCast_zero, Int.sub_zero] at this
    rw [this]
  · rw [if_neg h, netC_none h]
    rfl
theorem kx_res : ∀ (l : List Nx) (i : Nat), (kxF (pxF i l)).map Kx.r = (netsOf l).flatten.flatMap fun s => s.res
  | [], _ => rfl
  | y :: l, i => by
    have h2 : kxF (pxF i (y :: l)) = kxF (pxN i y.xs) ++ kxF (pxF (i + 1) l) := by unfold kxF; rw [pxF, List.flatMap_append]
    have h1 : (kxF (pxN i y.xs)).map Kx.r = (snsOf y.xs).flatMap fun s => s.res := by
      have : ∀ (xs : List Sx) (o : Nat), (((xs.mapIdx fun j x => (⟨x, i, o + j⟩ : Px)).flatMap fun p => p.x.res.map fun r => (⟨r, p.net⟩ : Kx))).map Kx.r = (snsOf xs).flatMap fun s => s.res := by
        intro xs
        induction xs with
        | nil => intro o; rfl
        | cons x xs ih2 =>
          intro o
          rw [List.mapIdx_cons, List.flatMap_cons, List.map_append]
          have e : (fun j x => (⟨x, i, o + (j + 1)⟩ : Px)) = fun j x => (⟨x, i, (o + 1) + j⟩ : Px) := by
            funext j y
            rw [show o + (j + 1) = o + 1 + j by omega]
          rw [e, ih2 (o + 1), List.map_map]
          show List.map (fun r => r) _ ++ _ = _
          rw [List.map_id']
          rfl
      have h0 := this y.xs 0
      simp only [Nat.zero_add] at h0
      exact h0
    rw [h2, List.map_append, h1, kx_res l (i + 1), show netsOf (y :: l) = snsOf y.xs :: netsOf l from rfl, List.flatten_cons, List.flatMap_append]
theorem keeper_doc (x : Cx) (a : Int) : ansK (((kxF (knownX x)).find? fun k => decide (k.r.addr = a)).map Kx.r) = keeperC x.cf a := by
  unfold knownX keeperC
  by_cases h : checkC x.cf = 0
  · rw [if_pos h, if_pos h]
    unfold keeperN
    rw [show x.cf.nets = netsOf x.ns from rfl, ← kx_res x.ns 0, List.find?_map]
    rfl
  · rw [if_neg h, if_neg h]
    rfl
theorem pool_doc (x : Cx) (net a : Int) : ((knownX x).any fun p => decide ((p.net : Int) = net) && p.x.s.pools.any fun q => inPl q a) = inPoolC x.cf net a := by
  unfold knownX inPoolC pooledN
  by_cases h : checkC x.cf = 0
  · rw [if_pos h]
    have e : ((pxF 0 x.ns).any fun p => decide ((p.net : Int) = net) && p.x.s.pools.any fun q => inPl q a) = (flatN 0 x.cf.nets).any fun z => decide ((z.1 : Int) = net) && z.2.pools.any fun q => inPl q a := by
      rw [show x.cf.nets = netsOf x.ns from rfl, flat_px, List.any_map]
      rfl
    rw [e, Bool.eq_iff_iff, List.any_eq_true, List.any_eq_true]
    constructor
    · rintro ⟨⟨i, s⟩, hz, hq⟩
      rw [Bool.and_eq_true, decide_eq_true_iff] at hq
      obtain ⟨hi, hs⟩ := mem_flat.1 hz
      refine ⟨s, ?_, hq.2⟩
      unfold netC
      have hq1 := hq.1
      simp only at hq1
      rw [if_pos ⟨h, by omega, by omega⟩, List.getD_eq_getElem?_getD, show net.toNat = i by omega, List.getElem?_eq_getElem hi]
      exact hs
    · rintro ⟨s, hs, hq⟩
      obtain ⟨_, i, rfl, hi, hm⟩ := net_at hs
      exact ⟨(i, s), mem_flat.2 ⟨hi, hm⟩, by simp only [decide_true, Bool.true_and]; exact hq⟩
  · rw [if_neg h, netC_none h]
    rfl
end Go.Proofs.Ytoilljilndmmfaa.Vw
