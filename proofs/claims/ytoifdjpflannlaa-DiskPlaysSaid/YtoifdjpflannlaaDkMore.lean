/- The mathematics of layer 8, what the program's own way asks: names entry by entry, numbers given one by one. No program. -/
import Derived.Test.YtoifdjpflannlaaDkLasts
namespace Go.Proofs.Ytoifdjpflannlaa.Dk

/-! ### Names, entry by entry -/
theorem ord_take {l : List E} (h : Ord l) (k : Nat) : Ord (l.take k) := List.Pairwise.sublist (List.take_sublist k l) h
theorem named_take {l : List E} {m : Nat} (h : Named l m) (k : Nat) : Named (l.take k) m := ⟨fun e he => h.1 e (List.mem_of_mem_take he), ord_take h.2 k⟩
theorem take_next {α : Type} {l : List α} {k : Nat} {x : α} (h : l[k]? = some x) : l.take (k + 1) = l.take k ++ [x] := by rw [List.take_add_one, h]; rfl
theorem last_take {α : Type} {l : List α} {k : Nat} {x : α} (h : l[k]? = some x) : x ∈ l.take (k + 1) := by rw [take_next h]; simp
/-- One more entry. -/
theorem named_snoc {a : List E} {m : Nat} {s : N} {f : Int} (h : Named a m) (hs : FairN s) (h0 : 0 ≤ f) (h1 : f < (m : Int)) (hl : ∀ x ∈ a, x.1 < s) (hf : ∀ x ∈ a, x.2 ≠ f) : Named (a ++ [(s, f)]) m := by
  refine ⟨fun e he => ?_, ?_⟩
  · rcases List.mem_append.1 he with he | he
    · exact h.1 e he
    · simp at he
      subst he
      exact ⟨hs, h0, h1⟩
  · refine List.pairwise_append.2 ⟨h.2, List.pairwise_singleton _ _, fun x hx y hy => ?_⟩
    simp at hy
    subst hy
    exact ⟨hl x hx, hf x hx⟩
/-- What is below the last one of names in order is below all. -/
theorem all_below {l : List E} {k : Nat} {s t : N} {f : Int} (h : Ord (l.take (k + 1))) (hk : l[k]? = some (t, f)) (hlt : t < s) : ∀ x ∈ l.take (k + 1), x.1 < s := by
  intro x hx
  rw [take_next hk] at h hx
  rcases List.mem_append.1 hx with hx | hx
  · exact lt_tr ((List.pairwise_append.1 h).2.2 x hx (t, f) (by simp)).1 hlt
  · simp at hx
    subst hx
    exact hlt
theorem named_no {l : List E} {m k : Nat} {s : N} {f : Int} (hk : l[k]? = some (s, f)) (h : ¬ (FairN s ∧ 0 ≤ f ∧ f < (m : Int))) : ¬ Named l m := fun hn => h (hn.1 _ (List.mem_of_getElem? hk))
theorem named_no_lt {l : List E} {m k : Nat} {s t : N} {f g : Int} (hk : l[k]? = some (t, g)) (hk1 : l[k + 1]? = some (s, f)) (h : ¬ t < s) : ¬ Named l m := fun hn => by
  have := ord_take hn.2 (k + 2)
  rw [take_next hk1] at this
  exact h ((List.pairwise_append.1 this).2.2 (t, g) (last_take hk) (s, f) (by simp)).1
theorem named_no_file {l : List E} {m k j : Nat} {s t : N} {f : Int} (hk : l[k]? = some (s, f)) (hj : j < k) (hjt : l[j]? = some (t, f)) : ¬ Named l m := fun hn => by
  have h := ord_take hn.2 (k + 1)
  rw [take_next hk] at h
  refine ((List.pairwise_append.1 h).2.2 (t, f) ?_ (s, f) (by simp)).2 rfl
  have hj' : j < (l.take k).length := by
    have := (List.getElem?_eq_some_iff.1 hk).1
    rw [List.length_take]
    omega
  rw [List.mem_iff_getElem?]
  exact ⟨j, by rw [List.getElem?_take, if_pos hj, hjt]⟩

/-! ### Numbers, one by one -/
theorem idx_in {l : List Int} {f : Int} (h : f ∈ l) : idx l f = ((l.idxOf f : Nat) : Int) ∧ l.idxOf f < l.length := ⟨rfl, List.idxOf_lt_length_of_mem h⟩
theorem idx_out {l : List Int} {f : Int} (h : f ∉ l) : idx l f = (l.length : Int) := by unfold idx; rw [List.idxOf_eq_length h]
theorem add_in {l : List Int} {f : Int} (h : f ∈ l) : addF l f = l := if_pos h
theorem add_out {l : List Int} {f : Int} (h : f ∉ l) : addF l f = l ++ [f] := if_neg h
def accAt (acc : List Int) (l : List E) (k : Nat) : List Int := firstsFrom acc (filesOf (l.take k))
theorem acc_zero (acc : List Int) (l : List E) : accAt acc l 0 = acc := rfl
theorem acc_next {acc : List Int} {l : List E} {k : Nat} {s : N} {f : Int} (h : l[k]? = some (s, f)) : accAt acc l (k + 1) = addF (accAt acc l k) f := by
  unfold accAt
  rw [take_next h, filesOf, List.map_append, from_app]
  rfl
theorem acc_end {acc : List Int} {l : List E} {k : Nat} (h : l.length ≤ k) : accAt acc l k = firstsFrom acc (filesOf l) := by unfold accAt; rw [List.take_of_length_le h]
theorem prefix_add (acc : List Int) (f : Int) : acc <+: addF acc f := by
  unfold addF
  split
  · exact List.prefix_refl _
  · exact List.prefix_append _ _
theorem prefix_from : ∀ (l acc : List Int), acc <+: firstsFrom acc l
  | [], acc => List.prefix_refl _
  | f :: l, acc => by rw [from_cons]; exact List.IsPrefix.trans (prefix_add acc f) (prefix_from l _)
theorem idx_prefix {a b : List Int} {f : Int} (h : a <+: b) (hf : f ∈ a) : idx b f = idx a f := by
  obtain ⟨t, rfl⟩ := h
  unfold idx
  rw [List.idxOf_append, if_pos hf]
theorem add_len (acc : List Int) (f : Int) : (addF acc f).length ≤ acc.length + 1 := by
  unfold addF
  split
  · omega
  · simp
theorem from_len : ∀ (l acc : List Int), (firstsFrom acc l).length ≤ acc.length + l.length
  | [], acc => by show acc.length ≤ _; omega
  | f :: l, acc => by
    rw [from_cons, List.length_cons]
    have h1 := from_len l (addF acc f)
    have h2 := add_len acc f
    omega
theorem acc_len (acc : List Int) (l : List E) (k : Nat) : (accAt acc l k).length ≤ acc.length + l.length := by
  have h1 := from_len (filesOf (l.take k)) acc
  have h2 : (filesOf (l.take k)).length = (l.take k).length := List.length_map ..
  have h3 := List.length_take_le k l
  have h4 : (l.take k).length ≤ l.length := by rw [List.length_take]; omega
  unfold accAt
  omega
/-- A file's new number, when its turn comes, is the one in the end. -/
theorem renum_at {acc : List Int} {l : List E} {k : Nat} {s : N} {f : Int} (h : l[k]? = some (s, f)) (c : List Int) (hc : firstsFrom acc (filesOf l) <+: c) : idx (accAt acc l k) f = idx c f := by
  have h1 : accAt acc l (k + 1) <+: firstsFrom acc (filesOf l) := by
    have e : firstsFrom acc (filesOf l) = firstsFrom (accAt acc l (k + 1)) (filesOf (l.drop (k + 1))) := by
      unfold accAt
      rw [← from_app]
      unfold filesOf
      rw [← List.map_append, List.take_append_drop]
    rw [e]
    exact prefix_from _ _
  have h2 : f ∈ accAt acc l (k + 1) := by rw [acc_next h]; exact mem_add.2 (.inr rfl)
  rw [idx_prefix (List.IsPrefix.trans h1 hc) h2, acc_next h]
  by_cases hm : f ∈ accAt acc l k
  · rw [add_in hm]
  · rw [add_out hm, idx_out hm]
    unfold idx
    rw [List.idxOf_append, if_neg hm]
    simp
def renumK (acc : List Int) (l : List E) (k : Nat) : List E := (l.take k).map fun e => (e.1, idx (firstsFrom acc (filesOf l)) e.2)
theorem renumK_next {acc : List Int} {l : List E} {k : Nat} {s : N} {f : Int} (h : l[k]? = some (s, f)) : renumK acc l (k + 1) = renumK acc l k ++ [(s, idx (accAt acc l k) f)] := by
  unfold renumK
  rw [take_next h, List.map_append, renum_at h _ (List.prefix_refl _)]
  rfl
theorem renumK_end {acc : List Int} {l : List E} {k : Nat} (h : l.length ≤ k) : renumK acc l k = renum l (firstsFrom acc (filesOf l)) := by unfold renumK renum; rw [List.take_of_length_le h]
theorem came_two (d : D) : cameD d = firstsFrom (firsts (filesOf d.now)) (filesOf d.kept) := by
  unfold cameD firsts
  rw [← from_app]
  unfold filesOf
  rw [List.map_append]
theorem renum_two (d : D) : renum d.now (firsts (filesOf d.now)) = renum d.now (cameD d) := by
  unfold renum
  apply List.map_congr_left
  intro e he
  rw [came_two, idx_prefix (prefix_from _ _)]
  exact mem_firsts.2 (List.mem_map.2 ⟨e, he, rfl⟩)

/-! ### Do numbers stay? -/
theorem range_snoc (m : Nat) : rangeZ (m + 1) = rangeZ m ++ [(m : Int)] := by unfold rangeZ; rw [List.range_succ, List.map_append]; rfl
theorem range_len (m : Nat) : (rangeZ m).length = m := by simp [rangeZ]
theorem prefix_range {a : List Int} {m : Nat} (h : a <+: rangeZ m) : a = rangeZ a.length := by
  have e := List.prefix_iff_eq_take.1 h
  have hl : a.length ≤ m := by have := h.length_le; rw [range_len] at this; exact this
  rw [e]
  unfold rangeZ
  rw [← List.map_take, List.take_range, List.length_map, List.length_range]
/-- Numbers that stay: what has come up is a row from nought on. -/
theorem stay_step {acc : List Int} {m : Nat} {f : Int} (h : acc = rangeZ m) (hs : idx acc f = f) (_ : 0 ≤ f) : ∃ m', addF acc f = rangeZ m' := by
  by_cases hm : f ∈ acc
  · exact ⟨m, by rw [add_in hm, h]⟩
  · refine ⟨m + 1, ?_⟩
    rw [add_out hm, range_snoc, h]
    rw [idx_out hm, h, range_len] at hs
    rw [← hs]
theorem stays_rows {acc : List Int} {l : List E} (h : ∃ m, acc = rangeZ m) (h0 : ∀ e ∈ l, 0 ≤ e.2) (hs : ∀ i, i < l.length → ∀ s f, l[i]? = some (s, f) → idx (accAt acc l i) f = f) : ∀ k, k ≤ l.length → ∃ m, accAt acc l k = rangeZ m
  | 0, _ => h
  | k + 1, hk => by
    obtain ⟨m, hm⟩ := stays_rows h h0 hs k (by omega)
    have hg : l[k]? = some (l[k].1, l[k].2) := List.getElem?_eq_getElem (by omega)
    rw [acc_next hg]
    exact stay_step hm (hs k (by omega) _ _ hg) (h0 _ (List.getElem_mem _))
/-- A number that does not stay: what comes up in the end is no row from nought on. -/
theorem stray {acc : List Int} {l : List E} {k : Nat} {s : N} {f : Int} (h : l[k]? = some (s, f)) (hne : idx (accAt acc l k) f ≠ f) (more : List Int) (m : Nat) : firstsFrom (firstsFrom acc (filesOf l)) more ≠ rangeZ m := by
  intro he
  have hp : firstsFrom acc (filesOf l) <+: rangeZ m := he ▸ prefix_from _ _
  rw [renum_at h _ hp] at hne
  have hmem : f ∈ rangeZ m := hp.subset (mem_from.2 (.inr (List.mem_map.2 ⟨(s, f), List.mem_of_getElem? h, rfl⟩)))
  obtain ⟨h0, h1⟩ := mem_range.1 hmem
  exact hne (idx_range h0 h1)
end Go.Proofs.Ytoifdjpflannlaa.Dk
