/- The rows of the document's examples of layer 5 answer yes; and the mathematics of what is kept. -/
import Derived.Test.YtmefnlgoejbgfaaOwSet
import Derived.Test.YtmefnlgoejbgfaaTlSame
set_option maxRecDepth 8000
namespace Go.Proofs.Ytmefnlgoejbgfaa.Ow
open Go.RowKit Tl Ms Co By

/-! ### Mathematics -/
theorem without_not (l : List O) (c : Int) : c ∉ codesL (withoutL l c) := by
  rw [without_codes]
  intro h
  have := (List.mem_filter.1 h).2
  simp at this
theorem find_app {l m : List O} {c : Int} (h : c ∉ codesL l) : findL (l ++ m) c = findL m c := by
  unfold findL
  rw [List.find?_append]
  have : (l.find? fun o => o.1 == c) = none := by
    rw [List.find?_eq_none]
    intro o ho
    simp
    intro e
    exact h (by rw [← e]; exact codes_mem ho)
  rw [this]
  rfl
theorem find_kept (l : List O) (c : Int) (b : List UInt8) : findL (keepL l c b) c = some b := by
  unfold keepL
  rw [find_app (without_not l c)]
  simp [findL]
theorem find_without (l : List O) {c k : Int} (h : c ≠ k) : findL (withoutL l c) k = findL l k := by
  unfold findL withoutL
  congr 1
  induction l with
  | nil => rfl
  | cons o l ih =>
    rw [List.filter_cons]
    by_cases ho : o.1 = c
    · rw [if_neg (by simp [ho]), ih, List.find?_cons_of_neg (by simp; intro e; exact h (ho.symm.trans e))]
    · rw [if_pos (by simp [ho])]
      by_cases hk : o.1 = k
      · rw [List.find?_cons_of_pos (by simp [hk]), List.find?_cons_of_pos (by simp [hk])]
      · rw [List.find?_cons_of_neg (by simp [hk]), List.find?_cons_of_neg (by simp [hk]), ih]
theorem find_other (l : List O) {c k : Int} (b : List UInt8) (h : c ≠ k) : findL (keepL l c b) k = findL l k := by
  rw [← find_without l h]
  unfold keepL findL
  rw [List.find?_append]
  have : ([(c, b)] : List O).find? (fun o => o.1 == k) = none := by
    rw [List.find?_cons_of_neg (by simpa using h)]
    rfl
  rw [this]
  cases (withoutL l c).find? fun o => o.1 == k <;> rfl
theorem has_kept (l : List O) (c : Int) (b : List UInt8) : hasL (keepL l c b) c = 1 := by
  have h0 : hasL (withoutL l c) c = 0 := has_zero.2 (without_not l c)
  unfold hasL keepL at *
  rw [codes_app, List.count_append, h0]
  simp [codesL]
theorem keep_small {ps qs : List Po} {c : Int} {b : List UInt8} (h : ∀ p ∈ ps, p.l.length ≤ 1000) (hb : b.length ≤ 1000) (e : osP qs = keepL (osP ps) c b) : ∀ p ∈ qs, p.l.length ≤ 1000 := by
  intro p hp
  have hm := os_mem hp
  rw [e] at hm
  unfold keepL withoutL at hm
  rcases List.mem_append.1 hm with hm | hm
  · obtain ⟨q, hq, e2⟩ := List.mem_map.1 (List.mem_filter.1 hm).1
    have : q.l = p.l := congrArg Prod.snd e2
    rw [← this]
    exact h q hq
  · simp only [List.mem_singleton] at hm
    have : p.l = b := congrArg Prod.snd hm
    rw [this]
    exact hb
theorem set_small {ps qs : List Po} {c v k : Int} (h : ∀ p ∈ ps, p.l.length ≤ 1000) (hf : Cw.fairB v k = true) (e : osP qs = setL (osP ps) c v k) : ∀ p ∈ qs, p.l.length ≤ 1000 := by
  obtain ⟨h1, h2, _⟩ := (fairB_iff v k).1 hf
  exact keep_small h (by rw [putL_length]; omega) e
theorem num_set (l : List O) (c : Int) {v : Int} {k : Nat} (hf : Cw.fairB v (k : Int) = true) : numL (setL l c v k) c k = some v.toNat := by
  obtain ⟨h1, h2, h3, h4⟩ := (fairB_iff v k).1 hf
  have e : findL (setL l c v k) c = some (putL v.toNat (k : Int).toNat) := find_kept _ _ _
  rw [Int.toNat_natCast] at e h4
  rw [num_yes e (putL_length _ _), valL_putL k _ (by omega)]

theorem ex1 : setL [] 51 600 4 = [(51, [0, 0, 2, 88])] := by decide +kernel
theorem ex2 : setL [(51, [0, 0, 2, 88])] 53 5 1 = [(51, [0, 0, 2, 88]), (53, [5])] := by decide +kernel
theorem ex3 : numL [(51, [0, 0, 2, 88]), (53, [5])] 51 4 = some 600 := by decide +kernel
theorem ex4 : kindL [(51, [0, 0, 2, 88]), (53, [5])] = 5 := by decide +kernel
theorem ex5 : hasB (listedL [(55, [3])]) 3 = true := by decide +kernel
end Go.Proofs.Ytmefnlgoejbgfaa.Ow
