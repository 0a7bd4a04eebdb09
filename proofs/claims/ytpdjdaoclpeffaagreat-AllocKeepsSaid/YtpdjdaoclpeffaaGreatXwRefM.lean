/- How the document's Choose goes on, step by step: what the first address that serves is, wherever it is met. No program. -/
import Derived.Test.YtpdjdaoclpeffaaGreatXwMath
set_option maxRecDepth 8000
namespace Go.Proofs.YtpdjdaoclpeffaaGreat.Xw
open Go.RowKit Co By Ky Rc Ew Jw La Tb Lw Cf Al Ad

section
variable {H F : L → Bool} {kl pl r : List Int} {want own : Int} {q : Int → Bool} {t : List L} {j : Nat} {l : L}
/-- The first one of all that are tried, in their order. -/
def chooseG (H F : L → Bool) (kl : List Int) (want : Int) (pl : List Int) (q : Int → Bool) (t : List L) : Option Int :=
  (if t.filter H = [] then kl ++ ((t.filter F).map (fun l => l.addr) ++ (want :: pl)) else (t.filter H).map fun l => l.addr).find? q
theorem split_at (h : t[j]? = some l) : t = t.take j ++ l :: t.drop (j + 1) := by
  obtain ⟨hj, e⟩ := List.getElem?_eq_some_iff.1 h
  rw [← e, ← List.drop_eq_getElem_cons hj, List.take_append_drop]
theorem fm_hit (h : t[j]? = some l) (hb : ∀ b ∈ t.take j, F b = true → q b.addr = false) (hF : F l = true) (hq : q l.addr = true) : ((t.filter F).map (fun l => l.addr) ++ r).find? q = some l.addr := by
  rw [List.find?_eq_some_iff_append]
  refine ⟨hq, ((t.take j).filter F).map (fun l => l.addr), ((t.drop (j + 1)).filter F).map (fun l => l.addr) ++ r, ?_, fun a ha => ?_⟩
  · have e : t.filter F = (t.take j).filter F ++ l :: (t.drop (j + 1)).filter F := by
      have := congrArg (List.filter F) (split_at h)
      rwa [List.filter_append, List.filter_cons, if_pos hF] at this
    rw [e, List.map_append, List.map_cons]
    simp
  · obtain ⟨b, hm, rfl⟩ := List.mem_map.1 ha
    obtain ⟨h1, h2⟩ := List.mem_filter.1 hm
    rw [hb b h1 h2]
    rfl
theorem fm_end (hb : ∀ b ∈ t, F b = true → q b.addr = false) : ((t.filter F).map (fun l => l.addr) ++ r).find? q = r.find? q := by
  rw [List.find?_append, List.find?_eq_none.2 fun a ha hq => ?_, Option.none_or]
  obtain ⟨b, hm, rfl⟩ := List.mem_map.1 ha
  obtain ⟨h1, h2⟩ := List.mem_filter.1 hm
  rw [hb b h1 h2] at hq
  cases hq
theorem any_filter (h : t.any H = false) : t.filter H = [] := by
  rw [List.any_eq_false] at h
  exact List.filter_eq_nil_iff.2 h
theorem any_some (h : t.any H = true) : t.filter H ≠ [] := fun e => by
  obtain ⟨b, hm, hb⟩ := List.any_eq_true.1 h
  exact List.filter_eq_nil_iff.1 e b hm hb
theorem g_hit1 (h : t[j]? = some l) (hb : ∀ b ∈ t.take j, H b = true → q b.addr = false) (hF : H l = true) (hq : q l.addr = true) : chooseG H F kl want pl q t = some l.addr := by
  unfold chooseG
  rw [if_neg (any_some (List.any_eq_true.2 ⟨l, List.mem_of_getElem? h, hF⟩))]
  have := fm_hit (r := []) h hb hF hq
  rwa [List.append_nil] at this
theorem g_end1 (hb : ∀ b ∈ t, H b = true → q b.addr = false) (h : t.any H = true) : chooseG H F kl want pl q t = none := by
  unfold chooseG
  rw [if_neg (any_some h)]
  have := fm_end (r := []) hb
  rwa [List.append_nil] at this
theorem g_go (h : t.any H = false) : chooseG H F kl want pl q t = (kl ++ ((t.filter F).map (fun l => l.addr) ++ (want :: pl))).find? q := by
  unfold chooseG
  rw [if_pos (any_filter h)]
theorem any_step (h : t[j]? = some l) : (t.take (j + 1)).any H = ((t.take j).any H || H l) := by
  rw [take_nextL h, List.any_append, List.any_cons, List.any_nil, Bool.or_false]
theorem no_step (h : t[j]? = some l) (hb : ∀ b ∈ t.take j, H b = true → q b.addr = false) (hl : H l = true → q l.addr = false) : ∀ b ∈ t.take (j + 1), H b = true → q b.addr = false := by
  intro b hm hH
  rw [take_nextL h] at hm
  rcases List.mem_append.1 hm with hm | hm
  · exact hb b hm hH
  · rw [List.mem_singleton] at hm
    subst hm
    exact hl hH
theorem no_all (hb : ∀ b ∈ t.take j, H b = true → q b.addr = false) (hj : t.length = j) : ∀ b ∈ t, H b = true → q b.addr = false := by
  rwa [List.take_of_length_le (by omega)] at hb
end
theorem pool_hi {c : Cf} {net : Int} {s : Sn} {p : Pl} (hs : s ∈ netC c net) (hp : p ∈ s.pools) : p.last ≤ 4294967295 := by
  have ho := okr_pool hs hp
  obtain ⟨h0, i, rfl, hi, hm⟩ := Cf.net_at hs
  have hx : (i, s) ∈ flatN 0 c.nets := mem_flat.2 ⟨hi, hm⟩
  exact (hasB_iff.1 (pool_has h0 hx hp (a := p.last) (by unfold inPl; exact decide_eq_true ⟨ho.ord, Int.le_refl _⟩)).1).2.1.2
/-! ### The pools, subnet by subnet -/
section
variable {xs : List Vw.Sx} {x : Vw.Sx} {q : Int → Bool} {i : Nat} {a : Int}
def gX (x : Vw.Sx) : List Int := x.pools.flatMap addrsP
theorem net_addrs (xs : List Vw.Sx) : addrsN (Vw.snsOf xs) = xs.flatMap gX := by
  unfold addrsN Vw.snsOf
  rw [List.flatMap_map]
  rfl
theorem gx_hit (h : xs[i]? = some x) (hb : ∀ a ∈ (xs.take i).flatMap gX, q a = false) (ha : (x.pools.flatMap addrsP).find? q = some a) : (xs.flatMap gX).find? q = some a := by
  obtain ⟨hi, e⟩ := List.getElem?_eq_some_iff.1 h
  have e2 : xs.flatMap gX = (xs.take i).flatMap gX ++ (gX x ++ (xs.drop (i + 1)).flatMap gX) := by
    have : xs = xs.take i ++ x :: xs.drop (i + 1) := by rw [← e, ← List.drop_eq_getElem_cons hi, List.take_append_drop]
    have := congrArg (fun z => z.flatMap gX) this
    simpa [List.flatMap_append, List.flatMap_cons] using this
  rw [e2, List.find?_append, List.find?_append, List.find?_eq_none.2 fun a ha hq => by rw [hb a ha] at hq; cases hq]
  unfold gX
  rw [ha]
  rfl
theorem gx_next (h : xs[i]? = some x) (hb : ∀ a ∈ (xs.take i).flatMap gX, q a = false) {pn : Nat} (hp : x.pools.length = pn) (ha : ∀ a ∈ (x.pools.take pn).flatMap addrsP, q a = false) : ∀ a ∈ (xs.take (i + 1)).flatMap gX, q a = false := by
  intro a hm
  rw [take_nextL h, List.flatMap_append] at hm
  rcases List.mem_append.1 hm with hm | hm
  · exact hb a hm
  · rw [List.flatMap_cons, List.flatMap_nil, List.append_nil] at hm
    rw [← hp, List.take_length] at ha
    exact ha a hm
theorem gx_end (hb : ∀ a ∈ (xs.take i).flatMap gX, q a = false) (hi : xs.length = i) : (xs.flatMap gX).find? q = none := by
  rw [List.take_of_length_le (by omega)] at hb
  exact List.find?_eq_none.2 fun a ha hq => by rw [hb a ha] at hq; cases hq
end
end Go.Proofs.YtpdjdaoclpeffaaGreat.Xw
