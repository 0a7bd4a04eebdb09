/- The mathematics of layer 8 (disk): disks, their names, what is done to them, in the document's words; every disk that is told is right. No program. -/
import Derived.Lib.Hide
namespace Go.Proofs.Ytoifdjpflannlaa.Dk

abbrev N := List UInt8
abbrev E := N × Int
structure F where
  d : List UInt8
  s : Int
structure D where
  fs : List F
  now : List E
  kept : List E
def zeroD : D := ⟨[], [], []⟩

/-! ### The order of names -/
theorem lt_irr (a : N) : ¬ a < a := List.lt_irrefl a
theorem lt_tr {a b c : N} (h : a < b) (k : b < c) : a < c := List.lt_trans h k
theorem lt_or {a b : N} (h : ¬ a < b) (hne : a ≠ b) : b < a := by
  rcases Decidable.em (b < a) with k | k
  · exact k
  · exact absurd (List.le_antisymm (List.not_lt.1 k) (List.not_lt.1 h)) hne

/-! ### Names -/
def FairN (n : N) : Prop := 1 ≤ n.length ∧ n.length ≤ 16
instance (n : N) : Decidable (FairN n) := by unfold FairN; infer_instance
def findE : List E → N → Option Int
  | [], _ => none
  | e :: l, n => if e.1 = n then some e.2 else findE l n
def Ord (l : List E) : Prop := l.Pairwise fun a b => a.1 < b.1 ∧ a.2 ≠ b.2
instance (l : List E) : Decidable (Ord l) := by unfold Ord; infer_instance
def Named (l : List E) (m : Nat) : Prop := (∀ e ∈ l, FairN e.1 ∧ 0 ≤ e.2 ∧ e.2 < (m : Int)) ∧ Ord l
instance (l : List E) (m : Nat) : Decidable (Named l m) := by unfold Named; infer_instance
theorem find_mem : ∀ {l : List E} {n : N} {f : Int}, findE l n = some f → (n, f) ∈ l
  | [], _, _, h => by cases h
  | e :: l, n, f, h => by
    rw [findE] at h
    split at h
    · next he =>
      injection h with h
      subst he; subst h
      exact .head _
    · exact .tail _ (find_mem h)
theorem find_none : ∀ {l : List E} {n : N}, findE l n = none ↔ ∀ e ∈ l, e.1 ≠ n
  | [], _ => ⟨fun _ e he => (by cases he), fun _ => rfl⟩
  | e :: l, n => by
    rw [findE]
    constructor
    · intro h
      split at h
      · cases h
      · next he =>
        intro a ha
        rcases List.mem_cons.1 ha with rfl | ha
        · exact he
        · exact find_none.1 h a ha
    · intro h
      rw [if_neg (h e (.head _))]
      exact find_none.2 fun a ha => h a (.tail _ ha)
theorem find_iff : ∀ {l : List E} {n : N} {f : Int}, Ord l → (findE l n = some f ↔ (n, f) ∈ l)
  | [], _, _, _ => ⟨fun h => (by cases h), fun h => (by cases h)⟩
  | e :: l, n, f, ho => by
    refine ⟨find_mem, fun h => ?_⟩
    obtain ⟨h1, h2⟩ := List.pairwise_cons.1 ho
    rw [findE]
    rcases List.mem_cons.1 h with rfl | h
    · rw [if_pos rfl]
    · rw [if_neg (fun k => by have := (h1 _ h).1; rw [k] at this; exact lt_irr _ this)]
      exact (find_iff h2).2 h
/-- Two names of one file are one. -/
theorem ord_file {l : List E} (ho : Ord l) {a b : E} (ha : a ∈ l) (hb : b ∈ l) (h : a.2 = b.2) : a = b := by
  induction l with
  | nil => cases ha
  | cons e l ih =>
    obtain ⟨h1, h2⟩ := List.pairwise_cons.1 ho
    rcases List.mem_cons.1 ha with ea | ka <;> rcases List.mem_cons.1 hb with eb | kb
    · rw [ea, eb]
    · exact absurd (ea ▸ h) (h1 _ kb).2
    · exact absurd (eb ▸ h.symm) (h1 _ ka).2
    · exact ih h2 ka kb
def withoutE (l : List E) (n : N) : List E := l.filter fun e => decide (e.1 ≠ n)
theorem mem_without {l : List E} {n : N} {e : E} : e ∈ withoutE l n ↔ e ∈ l ∧ e.1 ≠ n := by unfold withoutE; rw [List.mem_filter, decide_eq_true_iff]
theorem ord_without {l : List E} {n : N} (h : Ord l) : Ord (withoutE l n) := List.Pairwise.filter _ h
theorem named_without {l : List E} {m : Nat} {n : N} (h : Named l m) : Named (withoutE l n) m := ⟨fun e he => h.1 e (mem_without.1 he).1, ord_without h.2⟩
def withE : List E → N → Int → List E
  | [], n, f => [(n, f)]
  | e :: l, n, f => if n < e.1 then (n, f) :: e :: l else e :: withE l n f
theorem mem_with : ∀ {l : List E} {n : N} {f : Int} {e : E}, e ∈ withE l n f ↔ e = (n, f) ∨ e ∈ l
  | [], n, f, e => by simp [withE]
  | a :: l, n, f, e => by
    rw [withE]
    split
    · simp
    · rw [List.mem_cons, mem_with, List.mem_cons]
      constructor
      · rintro (h | h | h)
        · exact .inr (.inl h)
        · exact .inl h
        · exact .inr (.inr h)
      · rintro (h | h | h)
        · exact .inr (.inl h)
        · exact .inl h
        · exact .inr (.inr h)
theorem ord_with : ∀ {l : List E} {n : N} {f : Int}, Ord l → (∀ e ∈ l, e.1 ≠ n) → (∀ e ∈ l, e.2 ≠ f) → Ord (withE l n f)
  | [], n, f, _, _, _ => by unfold withE Ord; exact List.pairwise_singleton _ _
  | a :: l, n, f, h, hn, hf => by
    obtain ⟨h1, h2⟩ := List.pairwise_cons.1 h
    rw [withE]
    split
    · next hlt =>
      refine List.pairwise_cons.2 ⟨fun b hb => ?_, h⟩
      refine ⟨?_, fun k => hf b hb k.symm⟩
      rcases List.mem_cons.1 hb with rfl | hb
      · exact hlt
      · exact lt_tr hlt (h1 b hb).1
    · next hlt =>
      refine List.pairwise_cons.2 ⟨fun b hb => ?_, ord_with h2 (fun e he => hn e (.tail _ he)) (fun e he => hf e (.tail _ he))⟩
      rcases mem_with.1 hb with rfl | hb
      · exact ⟨lt_or hlt (fun k => hn a (.head _) k.symm), hf a (.head _)⟩
      · exact h1 b hb
theorem named_with {l : List E} {m : Nat} {n : N} {f : Int} (h : Named l m) (hn : FairN n) (hno : ∀ e ∈ l, e.1 ≠ n) (hf : ∀ e ∈ l, e.2 ≠ f) (h0 : 0 ≤ f) (h1 : f < (m : Int)) : Named (withE l n f) m :=
  ⟨fun e he => by
    rcases mem_with.1 he with rfl | he
    · exact ⟨hn, h0, h1⟩
    · exact h.1 e he, ord_with h.2 hno hf⟩
theorem named_more {l : List E} {m k : Nat} (h : Named l m) (hk : m ≤ k) : Named l k := ⟨fun e he => by obtain ⟨a, b, c⟩ := h.1 e he; exact ⟨a, b, by omega⟩, h.2⟩

/-! ### The files as they come up -/
def addF (acc : List Int) (f : Int) : List Int := if f ∈ acc then acc else acc ++ [f]
def firstsFrom (acc l : List Int) : List Int := l.foldl addF acc
def firsts (l : List Int) : List Int := firstsFrom [] l
theorem from_cons (acc : List Int) (f : Int) (l : List Int) : firstsFrom acc (f :: l) = firstsFrom (addF acc f) l := rfl
theorem from_app (acc l m : List Int) : firstsFrom acc (l ++ m) = firstsFrom (firstsFrom acc l) m := List.foldl_append
theorem mem_add {acc : List Int} {f g : Int} : g ∈ addF acc f ↔ g ∈ acc ∨ g = f := by
  unfold addF
  split
  · next h => exact ⟨.inl, fun k => k.elim id (fun e => e ▸ h)⟩
  · simp
theorem nodup_add {acc : List Int} {f : Int} (h : acc.Nodup) : (addF acc f).Nodup := by
  unfold addF
  split
  · exact h
  · next k =>
    rw [List.nodup_append]
    exact ⟨h, List.nodup_cons.2 ⟨List.not_mem_nil, List.nodup_nil⟩, fun a ha b hb e => by simp at hb; subst hb; subst e; exact k ha⟩
theorem mem_from : ∀ {l acc : List Int} {g : Int}, g ∈ firstsFrom acc l ↔ g ∈ acc ∨ g ∈ l
  | [], acc, g => by simp [firstsFrom]
  | f :: l, acc, g => by
    rw [from_cons, mem_from, mem_add, List.mem_cons]
    constructor
    · rintro ((h | h) | h)
      · exact .inl h
      · exact .inr (.inl h)
      · exact .inr (.inr h)
    · rintro (h | h | h)
      · exact .inl (.inl h)
      · exact .inl (.inr h)
      · exact .inr h
theorem nodup_from : ∀ {l acc : List Int}, acc.Nodup → (firstsFrom acc l).Nodup
  | [], _, h => h
  | f :: l, acc, h => by rw [from_cons]; exact nodup_from (nodup_add h)
theorem mem_firsts {l : List Int} {g : Int} : g ∈ firsts l ↔ g ∈ l := by unfold firsts; rw [mem_from]; simp
theorem nodup_firsts (l : List Int) : (firsts l).Nodup := nodup_from List.nodup_nil
/-- What has come up already adds nothing. -/
theorem from_old : ∀ {l acc : List Int}, (∀ f ∈ l, f ∈ acc) → firstsFrom acc l = acc
  | [], _, _ => rfl
  | f :: l, acc, h => by
    rw [from_cons, show addF acc f = acc by unfold addF; rw [if_pos (h f (.head _))]]
    exact from_old fun g hg => h g (.tail _ hg)
/-- What has not come up comes up as it stands. -/
theorem from_new : ∀ {l acc : List Int}, l.Nodup → (∀ f ∈ l, f ∉ acc) → firstsFrom acc l = acc ++ l
  | [], acc, _, _ => by simp [firstsFrom]
  | f :: l, acc, hd, h => by
    obtain ⟨h1, h2⟩ := List.nodup_cons.1 hd
    rw [from_cons, show addF acc f = acc ++ [f] by unfold addF; rw [if_neg (h f (.head _))], from_new h2]
    · simp
    · intro g hg hm
      rcases List.mem_append.1 hm with hm | hm
      · exact h g (.tail _ hg) hm
      · simp at hm; subst hm; exact h1 hg
theorem firsts_nodup {l : List Int} (h : l.Nodup) : firsts l = l := by unfold firsts; rw [from_new h (fun _ _ => List.not_mem_nil)]; rfl
/-- Other numbers for the same files. -/
theorem from_map (g : Int → Int) : ∀ {l acc : List Int}, (∀ a ∈ acc ++ l, ∀ b ∈ acc ++ l, g a = g b → a = b) → firstsFrom (acc.map g) (l.map g) = (firstsFrom acc l).map g
  | [], _, _ => rfl
  | f :: l, acc, h => by
    rw [List.map_cons, from_cons, from_cons]
    have e : addF (acc.map g) (g f) = (addF acc f).map g := by
      unfold addF
      by_cases hf : f ∈ acc
      · rw [if_pos hf, if_pos (List.mem_map.2 ⟨f, hf, rfl⟩)]
      · rw [if_neg hf, if_neg, List.map_append]
        · rfl
        · intro k
          obtain ⟨a, ha, hg⟩ := List.mem_map.1 k
          have := h a (List.mem_append_left _ ha) f (List.mem_append_right _ (.head _)) hg
          subst this
          exact hf ha
    rw [e]
    refine from_map g fun a ha b hb => h a ?_ b ?_
    · rcases List.mem_append.1 ha with ha | ha
      · rcases mem_add.1 ha with ha | ha
        · exact List.mem_append_left _ ha
        · exact List.mem_append_right _ (ha ▸ .head _)
      · exact List.mem_append_right _ (.tail _ ha)
    · rcases List.mem_append.1 hb with hb | hb
      · rcases mem_add.1 hb with hb | hb
        · exact List.mem_append_left _ hb
        · exact List.mem_append_right _ (hb ▸ .head _)
      · exact List.mem_append_right _ (.tail _ hb)
theorem firsts_map (g : Int → Int) {l : List Int} (h : ∀ a ∈ l, ∀ b ∈ l, g a = g b → a = b) : firsts (l.map g) = (firsts l).map g := from_map g (acc := []) (by simpa using h)
/-- The place of a file among those that have come up. -/
def idx (l : List Int) (f : Int) : Int := (l.idxOf f : Nat)
theorem idx_lt {l : List Int} {f : Int} (h : f ∈ l) : 0 ≤ idx l f ∧ idx l f < (l.length : Int) := by
  have := List.idxOf_lt_length_of_mem h
  unfold idx
  omega
theorem get_idx {l : List Int} {f : Int} (h : f ∈ l) : l[l.idxOf f]'(List.idxOf_lt_length_of_mem h) = f := List.getElem_idxOf _
theorem idx_inj {l : List Int} {f g : Int} (hf : f ∈ l) (hg : g ∈ l) (h : idx l f = idx l g) : f = g := by
  have e : l.idxOf f = l.idxOf g := by unfold idx at h; omega
  rw [← get_idx hf, ← get_idx hg]
  simp only [e]
def rangeZ (n : Nat) : List Int := (List.range n).map fun i : Nat => (i : Int)
theorem map_idx {l : List Int} (h : l.Nodup) : l.map (idx l) = rangeZ l.length := by
  apply List.ext_getElem
  · simp [rangeZ]
  · intro i h1 h2
    simp only [List.getElem_map, rangeZ, List.getElem_range]
    unfold idx
    rw [List.length_map] at h1
    have : l.idxOf l[i] = i := List.Nodup.idxOf_getElem h i h1
    rw [this]
theorem nodup_range (n : Nat) : (rangeZ n).Nodup := by
  unfold rangeZ
  exact List.Pairwise.map _ (fun a b hab k => hab (by omega)) List.nodup_range
theorem mem_range {n : Nat} {f : Int} : f ∈ rangeZ n ↔ 0 ≤ f ∧ f < (n : Int) := by
  unfold rangeZ
  rw [List.mem_map]
  constructor
  · rintro ⟨i, hi, rfl⟩
    rw [List.mem_range] at hi
    omega
  · rintro ⟨h1, h2⟩
    exact ⟨f.toNat, by rw [List.mem_range]; omega, by omega⟩
theorem idx_range {n : Nat} {f : Int} (h0 : 0 ≤ f) (h1 : f < (n : Int)) : idx (rangeZ n) f = f := by
  have hm : f ∈ rangeZ n := mem_range.2 ⟨h0, h1⟩
  have hl := List.idxOf_lt_length_of_mem hm
  have := get_idx hm
  simp only [rangeZ, List.getElem_map, List.getElem_range] at this
  exact this
end Go.Proofs.Ytoifdjpflannlaa.Dk
