/- What the document's own Check, Find and OnWire come to. Condition: the configuration is small (boarderlaw13's Great is false). -/
import Derived.Test.YtabjcgchcnnjjaaGreatVwD
import Derived.Test.YtabjcgchcnnjjaaGreatVwC
section
set_option maxRecDepth 8000
namespace Go.Proofs.YtabjcgchcnnjjaaGreat.Vw
open Go.RowKit By Cf Ad Ky
open Dw (ba ba_size ba_data ba_list alloc_more)

set_option maxHeartbeats 4000000 in
theorem refCheck_any (x : Cx) (U : Nat) (w : World) (h : x.ok U w) (hU : U ≤ w.heap.size) (hS : Small x.cf) : Calls Tryz.prog 28 #[x.v] w (isI (checkC x.cf) w) := by
  obtain ⟨w0, hw0, hc0, hb0⟩ := boxedC w x
  have hz : w0.heap.size = w.heap.size + 1 := by rw [hw0]; simp
  have h0 := h.below (hb0.mono hU)
  have HF := Lib.hid (refForm_any x U w0 h0 (by omega))
  have HP := Lib.hid (fun w1 (b1 : Below w0.heap.size w0 w1) (hf : formC x.cf = true) => refPlaces_any x U w1 (h0.below (b1.mono (by omega))) (by have := b1.size; omega) hf)
  have HT := Lib.hid (fun w1 (b1 : Below w0.heap.size w0 w1) => refTwice_any x U w1 (h0.below (b1.mono (by omega))) (by have := b1.size; omega) (small_n h hS) (small_sns hS) (small_res hS))
  have HB := Lib.hid hb0
  have HC0 := Lib.hid hc0
  have hdef : checkC x.cf = if formC x.cf = true then (if placesC x.cf = true then (if twiceC x.cf = true then 8 else 0) else 9) else 1 := rfl
  clear h hU hS hc0 hb0 hz h0
  cases f1 : formC x.cf with
  | false =>
    have H : Hid (checkC x.cf = 1) := by show _ = _; rw [hdef, f1]; rfl
    rw [f1] at HF
    clear f1 hdef
    go_enter Tryz.func28, Tryz.ntmps28
    go_wp2_with fail
    rw [← hw0]
    clear hw0
    refine HF.out.mono ?_
    rintro e w1 ⟨rfl, hb1⟩
    go_wp2
    go_ret
    exact ⟨ret_int H.out.symm, HB.out.trans (hb1.mono HB.out.size)⟩
  | true =>
  have HP1 := Lib.hid (fun w1 b1 => HP.out w1 b1 f1)
  rw [f1] at HF
  clear HP
  cases f2 : placesC x.cf with
  | false =>
    have H : Hid (checkC x.cf = 9) := by show _ = _; rw [hdef, f1, f2]; rfl
    rw [f2] at HP1
    clear f1 f2 hdef
    go_enter Tryz.func28, Tryz.ntmps28
    go_wp2_with fail
    rw [← hw0]
    clear hw0
    refine HF.out.mono ?_
    rintro e w1 ⟨rfl, hb1⟩
    obtain ⟨c0, c1, c2⟩ := cel3C (HC0.out.below hb1 HC0.out.lt)
    have HB1 := Lib.hid (HB.out.trans (hb1.mono HB.out.size))
    have HQ := Lib.hid (HP1.out w1 hb1)
    clear hb1
    go_wp2_with fail
    refine HQ.out.mono ?_
    rintro e w2 ⟨rfl, hb2⟩
    go_wp2
    go_ret
    exact ⟨ret_int H.out.symm, HB1.out.trans (hb2.mono HB1.out.size)⟩
  | true =>
  rw [f2] at HP1
  cases f3 : twiceC x.cf with
  | true =>
    have H : Hid (checkC x.cf = 8) := by show _ = _; rw [hdef, f1, f2, f3]; rfl
    rw [f3] at HT
    clear f1 f2 f3 hdef
    go_enter Tryz.func28, Tryz.ntmps28
    go_wp2_with fail
    rw [← hw0]
    clear hw0
    refine HF.out.mono ?_
    rintro e w1 ⟨rfl, hb1⟩
    obtain ⟨c0, c1, c2⟩ := cel3C (HC0.out.below hb1 HC0.out.lt)
    have HBa := Lib.hid hb1
    have HB1 := Lib.hid (HB.out.trans (hb1.mono HB.out.size))
    have HQ := Lib.hid (HP1.out w1 hb1)
    clear hb1
    go_wp2_with fail
    refine HQ.out.mono ?_
    rintro e w2 ⟨rfl, hb2⟩
    have hb02 := HBa.out.trans (hb2.mono HBa.out.size)
    clear c0 c1 c2
    obtain ⟨c0, c1, c2⟩ := cel3C (HC0.out.below hb02 HC0.out.lt)
    have HQ2 := Lib.hid (HT.out w2 hb02)
    have HB2 := Lib.hid (HB1.out.trans (hb2.mono HB1.out.size))
    clear hb2 hb02
    go_wp2_with fail
    refine HQ2.out.mono ?_
    rintro e w3 ⟨rfl, hb3⟩
    go_wp2
    go_ret
    exact ⟨ret_int H.out.symm, HB2.out.trans (hb3.mono HB2.out.size)⟩
  | false =>
    have H : Hid (checkC x.cf = 0) := by show _ = _; rw [hdef, f1, f2, f3]; rfl
    rw [f3] at HT
    clear f1 f2 f3 hdef
    go_enter Tryz.func28, Tryz.ntmps28
    go_wp2_with fail
    rw [← hw0]
    clear hw0
    refine HF.out.mono ?_
    rintro e w1 ⟨rfl, hb1⟩
    obtain ⟨c0, c1, c2⟩ := cel3C (HC0.out.below hb1 HC0.out.lt)
    have HBa := Lib.hid hb1
    have HB1 := Lib.hid (HB.out.trans (hb1.mono HB.out.size))
    have HQ := Lib.hid (HP1.out w1 hb1)
    clear hb1
    go_wp2_with fail
    refine HQ.out.mono ?_
    rintro e w2 ⟨rfl, hb2⟩
    have hb02 := HBa.out.trans (hb2.mono HBa.out.size)
    clear c0 c1 c2
    obtain ⟨c0, c1, c2⟩ := cel3C (HC0.out.below hb02 HC0.out.lt)
    have HQ2 := Lib.hid (HT.out w2 hb02)
    have HB2 := Lib.hid (HB1.out.trans (hb2.mono HB1.out.size))
    clear hb2 hb02
    go_wp2_with fail
    refine HQ2.out.mono ?_
    rintro e w3 ⟨rfl, hb3⟩
    go_wp2
    go_ret
    exact ⟨ret_int H.out.symm, HB2.out.trans (hb3.mono HB2.out.size)⟩
/-! ### The first subnet that is wanted -/
theorem pxF_app : ∀ (i : Nat) (l m : List Nx), pxF i (l ++ m) = pxF i l ++ pxF (i + l.length) m
  | i, [], m => rfl
  | i, x :: l, m => by
    rw [List.cons_append, pxF, pxF_app, pxF, List.append_assoc, List.length_cons, show i + 1 + l.length = i + (l.length + 1) by omega]
theorem pxN_at {i k : Nat} {xs : List Sx} {s : Sx} (h : xs[k]? = some s) : (pxN i xs)[k]? = some ⟨s, i, k⟩ := by
  unfold pxN
  rw [List.getElem?_mapIdx, h]
  rfl
theorem pxN_take (i k : Nat) (xs : List Sx) : (pxN i xs).take k = pxN i (xs.take k) := by
  unfold pxN
  apply List.ext_getElem?
  intro j
  simp only [List.getElem?_take, List.getElem?_mapIdx]
  split <;> rfl
theorem first_hit {q : Px → Bool} {ns : List Nx} {y : Nx} {s : Sx} {i k : Nat} (hy : ns[i]? = some y) (hs : y.xs[k]? = some s) (h1 : ∀ p ∈ pxF 0 (ns.take i), q p = false) (h2 : ∀ p ∈ pxN i (y.xs.take k), q p = false) (hq : q ⟨s, i, k⟩ = true) : firstP q (pxF 0 ns) = ((i : Int), (k : Int), true) := by
  have e : ns = ns.take i ++ (y :: ns.drop (i + 1)) := by
    obtain ⟨hk, rfl⟩ := List.getElem?_eq_some_iff.1 hy
    rw [← List.drop_eq_getElem_cons hk, List.take_append_drop]
  have hi : (ns.take i).length = i := by
    have := (List.getElem?_eq_some_iff.1 hy).1
    rw [List.length_take]
    omega
  have hf : (pxN i y.xs).find? q = some ⟨s, i, k⟩ := find_hit (pxN_at hs) (fun b hb => h2 b (by rw [← pxN_take]; exact hb)) hq
  unfold firstP
  rw [e, pxF_app, List.find?_append, find_miss h1, Option.none_or, hi, Nat.zero_add, pxF, List.find?_append, hf]
  rfl
theorem first_miss {q : Px → Bool} {ns : List Nx} (h : ∀ p ∈ pxF 0 ns, q p = false) : firstP q (pxF 0 ns) = (0, 0, false) := by
  unfold firstP
  rw [find_miss h]
theorem px_next {q : Px → Bool} {ns : List Nx} {y : Nx} {i : Nat} (hy : ns[i]? = some y) (h1 : ∀ p ∈ pxF 0 (ns.take i), q p = false) (h2 : ∀ p ∈ pxN i y.xs, q p = false) : ∀ p ∈ pxF 0 (ns.take (i + 1)), q p = false := by
  have hi : (ns.take i).length = i := by
    have := (List.getElem?_eq_some_iff.1 hy).1
    rw [List.length_take]
    omega
  intro p hp
  rw [take_at hy, pxF_snoc, hi, Nat.zero_add] at hp
  rcases List.mem_append.1 hp with hp | hp
  · exact h1 p hp
  · exact h2 p hp
theorem pn_next {q : Px → Bool} {xs : List Sx} {s : Sx} {i k : Nat} (hs : xs[k]? = some s) (h : ∀ p ∈ pxN i (xs.take k), q p = false) (hq : q ⟨s, i, k⟩ = false) : ∀ p ∈ pxN i (xs.take (k + 1)), q p = false := by
  have hk : (xs.take k).length = k := by
    have := (List.getElem?_eq_some_iff.1 hs).1
    rw [List.length_take]
    omega
  intro p hp
  rw [take_at hs, pxN_snoc, hk] at hp
  rcases List.mem_append.1 hp with hp | hp
  · exact h p hp
  · simp at hp
    rw [hp]
    exact hq
end Go.Proofs.YtabjcgchcnnjjaaGreat.Vw
end
/- What the document's own KeptFor, Keeper and InPool come to. Condition: the configuration is small (boarderlaw13's Great is false). -/
section
set_option maxRecDepth 8000
namespace Go.Proofs.YtabjcgchcnnjjaaGreat.Vw
open Go.RowKit By Cf Ad Ky
open Dw (ba ba_size ba_data ba_list alloc_more)

section
variable {α β : Type} {g : α → List β} {q : β → Bool} {l : List α} {s : α} {r : β} {i k : Nat}
theorem flat_at (hl : l[i]? = some s) : l.flatMap g = (l.take i).flatMap g ++ (g s ++ (l.drop (i + 1)).flatMap g) := by
  have e : l = l.take i ++ (s :: l.drop (i + 1)) := by
    obtain ⟨hk, rfl⟩ := List.getElem?_eq_some_iff.1 hl
    rw [← List.drop_eq_getElem_cons hk, List.take_append_drop]
  rw [← List.flatMap_cons, ← List.flatMap_append, ← e]
theorem flat_hit (hl : l[i]? = some s) (hr : (g s)[k]? = some r) (h1 : ∀ r ∈ (l.take i).flatMap g, q r = false) (h2 : ∀ r ∈ (g s).take k, q r = false) (hq : q r = true) : (l.flatMap g).find? q = some r := by
  rw [flat_at hl, List.find?_append, find_miss h1, Option.none_or, List.find?_append, find_hit hr h2 hq]
  rfl
theorem flat_next (hl : l[i]? = some s) (h1 : ∀ r ∈ (l.take i).flatMap g, q r = false) (h2 : ∀ r ∈ g s, q r = false) : ∀ r ∈ (l.take (i + 1)).flatMap g, q r = false := by
  intro r hr
  rw [take_at hl, List.flatMap_append] at hr
  rcases List.mem_append.1 hr with hr | hr
  · exact h1 r hr
  · simp at hr
    exact h2 r hr
theorem flat_mem (hl : l[i]? = some s) (hr : (g s)[k]? = some r) : r ∈ l.flatMap g := List.mem_flatMap.2 ⟨s, List.mem_of_getElem? hl, List.mem_of_getElem? hr⟩
theorem any_flat (q : β → Bool) : ∀ l : List α, (l.any fun s => (g s).any q) = (l.flatMap g).any q
  | [] => rfl
  | a :: l => by rw [List.any_cons, List.flatMap_cons, List.any_append, any_flat q l]
end
/-- Nothing that is wanted hangs on the first i of a list; nothing is among the first k. -/
def NoF {α β : Type} (g : α → List β) (q : β → Bool) (l : List α) (i : Nat) : Prop := ∀ r ∈ (l.take i).flatMap g, q r = false
def NoT {β : Type} (q : β → Bool) (l : List β) (k : Nat) : Prop := ∀ r ∈ l.take k, q r = false
theorem noF_zero {α β : Type} (g : α → List β) (q : β → Bool) (l : List α) : NoF g q l 0 := fun r hr => by simp at hr
theorem noT_zero {β : Type} (q : β → Bool) (l : List β) : NoT q l 0 := fun r hr => by simp at hr
theorem noF_end {α β : Type} {g : α → List β} {q : β → Bool} {l : List α} {n : Nat} (h : NoF g q l n) (hn : l.length = n) : ∀ r ∈ l.flatMap g, q r = false := by
  unfold NoF at h
  rw [← hn, List.take_length] at h
  exact h
theorem noT_end {β : Type} {q : β → Bool} {l : List β} {n : Nat} (h : NoT q l n) (hn : l.length = n) : ∀ r ∈ l, q r = false := by
  unfold NoT at h
  rw [← hn, List.take_length] at h
  exact h
theorem res_flat (xs : List Sx) : ((snsOf xs).flatMap fun s => s.res) = xs.flatMap fun s => s.res := by
  unfold snsOf
  rw [List.flatMap_map]
  rfl
theorem pools_flat (xs : List Sx) : ((snsOf xs).flatMap fun s => s.pools) = xs.flatMap fun s => s.pools := by
  unfold snsOf
  rw [List.flatMap_map]
  rfl
theorem kx_flat : ∀ ps : List Px, (kxF ps).map Kx.r = (ps.map Px.x).flatMap fun s => s.res
  | [] => rfl
  | p :: ps => by
    have ih := kx_flat ps
    unfold kxF at ih ⊢
    rw [List.flatMap_cons, List.map_append, ih, List.map_cons, List.flatMap_cons]
    congr 1
    unfold kxP1
    rw [List.map_map]
    exact List.map_id' _
/-- The network with an index. -/
def netL (ck : Int) (ns : List Nx) (net : Int) : List Sx := if ck = 0 ∧ 0 ≤ net ∧ net < ns.length then (match ns[net.toNat]? with | some y => y.xs | none => []) else []
theorem netC_is (x : Cx) (net : Int) : netC x.cf net = snsOf (netL (checkC x.cf) x.ns net) := by
  unfold netC netL
  rw [show x.cf.nets = netsOf x.ns from rfl, nets_len]
  split
  · next hh =>
    rw [List.getD_eq_getElem?_getD]
    cases hy : x.ns[net.toNat]? with
    | none =>
      have := List.getElem?_eq_none_iff.1 hy
      omega
    | some y => rw [nets_get hy]; rfl
  · rfl
theorem kept_is (x : Cx) (net : Int) (key : List UInt8) : keptC x.cf net key = ansA (((netL (checkC x.cf) x.ns net).flatMap fun s => s.res).find? fun r => decide (r.key = key)) := by
  unfold keptC keptN
  rw [netC_is, res_flat]
theorem pool_is (x : Cx) (net a : Int) : inPoolC x.cf net a = ((netL (checkC x.cf) x.ns net).flatMap fun s => s.pools).any fun q => inPl q a := by
  unfold inPoolC pooledN
  rw [netC_is, any_flat, pools_flat]
theorem keeper_is (x : Cx) (a : Int) : keeperC x.cf a = ansK (if checkC x.cf = 0 then ((((pxF 0 x.ns).map Px.x).flatMap fun s => s.res).find? fun r => decide (r.addr = a)) else none) := by
  rw [← keeper_doc]
  unfold knownX
  by_cases h : checkC x.cf = 0
  · rw [if_pos h, if_pos h, ← kx_flat, List.find?_map]
    rfl
  · rw [if_neg h, if_neg h]
    rfl
end Go.Proofs.YtabjcgchcnnjjaaGreat.Vw
end
