/- Options as lists: which are right, what is found, written, joined and read. Plain mathematics, no program. -/
import Derived.Lib.Hide
namespace Go.Proofs.Ytoobijefjljnjaa.Tl

abbrev O := Int × List UInt8
def codesL (l : List O) : List Int := l.map (·.1)
def fitO (o : O) : Bool := decide (1 ≤ o.1) && (decide (o.1 ≤ 254) && decide (o.2.length ≤ 600))
def rightL (l : List O) : Bool := decide (l.length ≤ 60) && (l.all fitO && decide (codesL l).Nodup)
def hasL (l : List O) (c : Int) : Nat := (codesL l).count c
def placeN : List O → Int → Nat
  | [], _ => 0
  | o :: l, c => if o.1 = c then 0 else placeN l c + 1
def placeL (l : List O) (c : Int) : Int := if c ∈ codesL l then (placeN l c : Nat) else -1
def findL (l : List O) (c : Int) : Option (List UInt8) := (l.find? fun o => o.1 == c).map (·.2)
def joinO (c : Int) (d : List UInt8) (o : O) : O := if o.1 = c then (o.1, o.2 ++ d) else o
def joinedL (l : List O) (c : Int) (d : List UInt8) : List O := l.map (joinO c d) ++ (if c ∈ codesL l then [] else [(c, d)])
def joinAll (l m : List O) : List O := m.foldl (fun a o => joinedL a o.1 o.2) l
def joinL (l m : List O) : List O × Int := if rightL l = true ∧ rightL m = true then (if rightL (joinAll l m) = true then (joinAll l m, 0) else ([], 3)) else ([], 1)
def codeB (c : Int) : UInt8 := UInt8.ofNat c.toNat
def oneL (c : Int) (d : List UInt8) : List UInt8 :=
  if _h : d.length ≤ 255 then codeB c :: UInt8.ofNat d.length :: d else codeB c :: 255 :: (d.take 255 ++ oneL c (d.drop 255))
termination_by d.length
decreasing_by rw [List.length_drop]; omega
def bodyL (l : List O) : List UInt8 := l.flatMap fun o => oneL o.1 o.2
def writeL (l : List O) : List UInt8 := bodyL l ++ [255]
def readF : Nat → List O → List UInt8 → List O × Int
  | 0, l, _ => (l, 0)
  | _ + 1, l, [] => (l, 0)
  | f + 1, l, c :: t =>
    if c = 255 then (l, 0) else if c = 0 then readF f l t else
      match t with
      | [] => ([], 2)
      | n :: r => if r.length < n.toNat then ([], 2) else
          if rightL (joinedL l (c.toNat : Int) (r.take n.toNat)) = true then readF f (joinedL l (c.toNat : Int) (r.take n.toNat)) (r.drop n.toNat) else ([], 3)
def readL (l : List O) (b : List UInt8) : List O × Int := readF b.length l b

/-! ### Right -/
theorem fit_iff (o : O) : fitO o = true ↔ 1 ≤ o.1 ∧ o.1 ≤ 254 ∧ o.2.length ≤ 600 := by simp [fitO]
theorem right_iff (l : List O) : rightL l = true ↔ l.length ≤ 60 ∧ (∀ o ∈ l, 1 ≤ o.1 ∧ o.1 ≤ 254 ∧ o.2.length ≤ 600) ∧ (codesL l).Nodup := by
  unfold rightL
  rw [Bool.and_eq_true, Bool.and_eq_true, decide_eq_true_eq, decide_eq_true_eq, List.all_eq_true]
  constructor
  · rintro ⟨a, b, c⟩; exact ⟨a, fun o ho => (fit_iff o).1 (b o ho), c⟩
  · rintro ⟨a, b, c⟩; exact ⟨a, fun o ho => (fit_iff o).2 (b o ho), c⟩
theorem right_no {l : List O} (h : ¬ (l.length ≤ 60 ∧ (∀ o ∈ l, 1 ≤ o.1 ∧ o.1 ≤ 254 ∧ o.2.length ≤ 600) ∧ (codesL l).Nodup)) : rightL l = false := by
  cases e : rightL l with
  | false => rfl
  | true => exact absurd ((right_iff l).1 e) h
theorem right_len {l : List O} (h : rightL l = true) : l.length ≤ 60 := ((right_iff l).1 h).1
theorem right_fit {l : List O} (h : rightL l = true) {o : O} (ho : o ∈ l) : 1 ≤ o.1 ∧ o.1 ≤ 254 ∧ o.2.length ≤ 600 := ((right_iff l).1 h).2.1 o ho
theorem right_nodup {l : List O} (h : rightL l = true) : (codesL l).Nodup := ((right_iff l).1 h).2.2
theorem right_nil : rightL [] = true := rfl
theorem codes_len (l : List O) : (codesL l).length = l.length := by simp [codesL]
theorem codes_app (l m : List O) : codesL (l ++ m) = codesL l ++ codesL m := by simp [codesL]
theorem codes_take (l : List O) (k : Nat) : codesL (l.take k) = (codesL l).take k := by simp [codesL, List.map_take]
theorem codes_get {l : List O} {i : Nat} (h : i < l.length) : (codesL l)[i]'(by rw [codes_len]; exact h) = (l[i]).1 := by simp [codesL]
theorem codes_mem {l : List O} {o : O} (h : o ∈ l) : o.1 ∈ codesL l := List.mem_map.2 ⟨o, h, rfl⟩
theorem right_long {l : List O} (h : 60 < l.length) : rightL l = false := right_no fun ⟨a, _⟩ => by omega
theorem right_unfit {l : List O} {i : Nat} (h : i < l.length) (hf : ¬ (1 ≤ (l[i]).1 ∧ (l[i]).1 ≤ 254 ∧ (l[i]).2.length ≤ 600)) : rightL l = false :=
  right_no fun ⟨_, a, _⟩ => hf (a _ (List.getElem_mem h))
theorem take_snocO {l : List O} {k : Nat} (h : k < l.length) : l.take (k + 1) = l.take k ++ [l[k]] := List.take_succ_eq_append_getElem h
theorem nodup_snoc {α : Type} {l : List α} {a : α} : (l ++ [a]).Nodup ↔ l.Nodup ∧ a ∉ l := by
  rw [List.nodup_append]
  simp
  intro _
  constructor
  · intro h k; exact h a k rfl
  · intro h b hb e; subst e; exact h hb
theorem right_twice {l : List O} {i : Nat} (h : i < l.length) (hd : (l[i]).1 ∈ codesL (l.take i)) : rightL l = false := right_no fun ⟨_, _, hn⟩ => by
  have h1 : (codesL (l.take (i + 1))).Nodup := by
    rw [codes_take]
    exact List.Nodup.sublist (List.take_sublist _ _) hn
  rw [take_snocO h, codes_app] at h1
  exact (nodup_snoc.1 h1).2 hd
theorem right_step {l : List O} {i : Nat} (h : i < l.length) (hl : l.length ≤ 60) (hr : rightL (l.take i) = true) (hf : 1 ≤ (l[i]).1 ∧ (l[i]).1 ≤ 254 ∧ (l[i]).2.length ≤ 600) (hd : (l[i]).1 ∉ codesL (l.take i)) : rightL (l.take (i + 1)) = true := by
  rw [right_iff, take_snocO h, codes_app]
  refine ⟨by rw [List.length_append, List.length_take]; simp; omega, fun o ho => ?_, nodup_snoc.2 ⟨right_nodup hr, hd⟩⟩
  rcases List.mem_append.1 ho with ho | ho
  · exact right_fit hr ho
  · simp at ho; subst ho; exact hf
theorem right_has {l : List O} {i : Nat} (h : i < l.length) (hd : 1 < hasL l (l[i]).1) : rightL l = false := right_no fun ⟨_, _, hn⟩ => by
  have := List.nodup_iff_count.1 hn (l[i]).1
  unfold hasL at hd
  omega
theorem right_all {l : List O} (hl : l.length ≤ 60) (h : ∀ i (h : i < l.length), (1 ≤ (l[i]).1 ∧ (l[i]).1 ≤ 254 ∧ (l[i]).2.length ≤ 600) ∧ hasL l (l[i]).1 ≤ 1) : rightL l = true := by
  refine (right_iff l).2 ⟨hl, fun o ho => ?_, List.nodup_iff_count.2 fun a => ?_⟩
  · obtain ⟨i, hi, rfl⟩ := List.mem_iff_getElem.1 ho
    exact (h i hi).1
  · by_cases ha : a ∈ codesL l
    · obtain ⟨o, ho, rfl⟩ := List.mem_map.1 ha
      obtain ⟨i, hi, rfl⟩ := List.mem_iff_getElem.1 ho
      exact (h i hi).2
    · rw [List.count_eq_zero_of_not_mem ha]; omega
theorem has_next {l : List O} {k : Nat} (h : k < l.length) (c : Int) : hasL (l.take (k + 1)) c = hasL (l.take k) c + if (l[k]).1 = c then 1 else 0 := by
  unfold hasL
  rw [take_snocO h, codes_app, List.count_append]
  simp [codesL, List.count_cons]
theorem has_le (l : List O) (c : Int) : hasL l c ≤ l.length := by
  have := List.count_le_length (a := c) (l := codesL l)
  rw [codes_len] at this
  exact this
theorem has_zero {l : List O} {c : Int} : hasL l c = 0 ↔ c ∉ codesL l := List.count_eq_zero

/-! ### Place, find -/
theorem placeN_hit : ∀ {l : List O} {k : Nat} {c : Int} (h : k < l.length), (l[k]).1 = c → c ∉ codesL (l.take k) → placeN l c = k
  | o :: l, 0, c, _, hk, _ => by simp at hk; simp [placeN, hk]
  | o :: l, k + 1, c, h, hk, hn => by
    simp [codesL] at hn
    have h1 : ¬ o.1 = c := fun e => hn.1 e.symm
    have h2 := placeN_hit (l := l) (k := k) (c := c) (by simpa using h) (by simpa using hk) (by simpa [codesL] using hn.2)
    simp [placeN, h1, h2]
theorem placeN_mem : ∀ {l : List O} {c : Int}, c ∈ codesL l → ∃ (h : placeN l c < l.length), (l[placeN l c]).1 = c ∧ c ∉ codesL (l.take (placeN l c))
  | [], c, h => by simp [codesL] at h
  | o :: l, c, h => by
    by_cases h1 : o.1 = c
    · have e : placeN (o :: l) c = 0 := by simp [placeN, h1]
      rw [e]
      exact ⟨by simp, by simpa using h1, by simp [codesL]⟩
    · have e : placeN (o :: l) c = placeN l c + 1 := by simp [placeN, h1]
      have hm : c ∈ codesL l := by
        simp only [codesL, List.map_cons, List.mem_cons] at h
        rcases h with h | h
        · exact absurd h.symm h1
        · exact h
      obtain ⟨a, b, d⟩ := placeN_mem hm
      rw [e]
      refine ⟨by simpa using a, by simpa using b, ?_⟩
      rw [List.take_succ_cons]
      simp only [codesL, List.map_cons, List.mem_cons, not_or] at d ⊢
      exact ⟨fun e => h1 e.symm, d⟩
theorem place_hit {l : List O} {k : Nat} {c : Int} (h : k < l.length) (hk : (l[k]).1 = c) (hn : c ∉ codesL (l.take k)) : placeL l c = (k : Int) := by
  have hm : c ∈ codesL l := by rw [← hk]; exact codes_mem (List.getElem_mem h)
  unfold placeL
  rw [if_pos hm, placeN_hit h hk hn]
theorem place_none {l : List O} {c : Int} (hn : c ∉ codesL l) : placeL l c = -1 := by unfold placeL; rw [if_neg hn]
theorem place_lo (l : List O) (c : Int) : -1 ≤ placeL l c := by unfold placeL; split <;> omega
theorem place_mem {l : List O} {c : Int} (h : c ∈ codesL l) : ∃ (i : Nat) (hi : i < l.length), placeL l c = (i : Int) ∧ (l[i]).1 = c ∧ c ∉ codesL (l.take i) := by
  obtain ⟨a, b, d⟩ := placeN_mem h
  exact ⟨placeN l c, a, by unfold placeL; rw [if_pos h], b, d⟩
theorem find_hit {l : List O} {k : Nat} {c : Int} (h : k < l.length) (hk : (l[k]).1 = c) (hn : c ∉ codesL (l.take k)) : findL l c = some (l[k]).2 := by
  unfold findL
  have hs : l = l.take k ++ l[k] :: l.drop (k + 1) := by rw [← List.drop_eq_getElem_cons h, List.take_append_drop]
  have h0 : (l.take k).find? (fun o => o.1 == c) = none := by
    rw [List.find?_eq_none]
    intro o ho e
    exact hn (by simp at e; rw [← e]; exact codes_mem ho)
  have : l.find? (fun o => o.1 == c) = some l[k] := by
    conv => lhs; rw [hs]
    rw [List.find?_append, h0, List.find?_cons_of_pos (by simp [hk])]
    rfl
  rw [this]
  rfl
theorem find_none {l : List O} {c : Int} (hn : c ∉ codesL l) : findL l c = none := by
  unfold findL
  have h0 : l.find? (fun o => o.1 == c) = none := by
    rw [List.find?_eq_none]
    intro o ho e
    exact hn (by simp at e; rw [← e]; exact codes_mem ho)
  rw [h0]
  rfl
theorem not_codes_next {l : List O} {k : Nat} {c : Int} (h : k < l.length) (hn : c ∉ codesL (l.take k)) (hk : (l[k]).1 ≠ c) : c ∉ codesL (l.take (k + 1)) := by
  rw [take_snocO h, codes_app]
  simp [codesL] at hn ⊢
  exact ⟨hn, fun e => hk e.symm⟩

/-! ### Joined -/
theorem joinO_code (c : Int) (d : List UInt8) (o : O) : (joinO c d o).1 = o.1 := by unfold joinO; split <;> rfl
theorem codes_map (l : List O) (c : Int) (d : List UInt8) : codesL (l.map (joinO c d)) = codesL l := by
  simp [codesL, joinO_code]
theorem codes_joined (l : List O) (c : Int) (d : List UInt8) : codesL (joinedL l c d) = codesL l ++ (if c ∈ codesL l then [] else [c]) := by
  unfold joinedL
  rw [codes_app, codes_map]
  split <;> simp [codesL]
theorem joined_new {l : List O} {c : Int} (h : c ∉ codesL l) (d : List UInt8) : joinedL l c d = l ++ [(c, d)] := by
  unfold joinedL
  rw [if_neg h]
  congr 1
  have : ∀ o ∈ l, joinO c d o = o := fun o ho => by
    unfold joinO
    rw [if_neg (fun e => h (by rw [← e]; exact codes_mem ho))]
  rw [List.map_congr_left this, List.map_id']
theorem joined_old {l : List O} {c : Int} (h : c ∈ codesL l) (d : List UInt8) : joinedL l c d = l.map (joinO c d) := by
  unfold joinedL
  rw [if_pos h, List.append_nil]
theorem joined_set {l : List O} {c : Int} (hn : (codesL l).Nodup) {i : Nat} (h : i < l.length) (hi : (l[i]).1 = c) (d : List UInt8) : joinedL l c d = l.set i (c, (l[i]).2 ++ d) := by
  have hm : c ∈ codesL l := by rw [← hi]; exact codes_mem (List.getElem_mem h)
  rw [joined_old hm]
  apply List.ext_getElem
  · simp
  · intro j hj hj2
    have hjl : j < l.length := by simpa using hj
    rw [List.getElem_map, List.getElem_set]
    by_cases e : i = j
    · subst e
      rw [if_pos rfl]
      unfold joinO
      rw [if_pos hi, hi]
    · rw [if_neg e]
      unfold joinO
      rw [if_neg]
      intro e2
      have h1 := codes_get h
      have h2 := codes_get hjl
      have := (List.getElem_inj (h₀ := by rw [codes_len]; exact h) (h₁ := by rw [codes_len]; exact hjl) hn).1 (by rw [h1, h2, hi, e2])
      exact e this
theorem right_joined_new {l : List O} {c : Int} {d : List UInt8} (hr : rightL l = true) (h : c ∉ codesL l) (h1 : 1 ≤ c) (h2 : c ≤ 254) (hl : l.length < 60) (hd : d.length ≤ 600) : rightL (joinedL l c d) = true := by
  rw [joined_new h, right_iff, codes_app]
  refine ⟨by simp; omega, fun o ho => ?_, nodup_snoc.2 ⟨right_nodup hr, h⟩⟩
  rcases List.mem_append.1 ho with ho | ho
  · exact right_fit hr ho
  · simp at ho; subst ho; exact ⟨h1, h2, hd⟩
theorem right_joined_full {l : List O} {c : Int} {d : List UInt8} (h : c ∉ codesL l) (hl : 60 ≤ l.length) : rightL (joinedL l c d) = false := by
  rw [joined_new h]
  exact right_long (by simp; omega)
theorem right_joined_big {l : List O} {c : Int} {d : List UInt8} (h : c ∉ codesL l) (hd : 600 < d.length) : rightL (joinedL l c d) = false := by
  rw [joined_new h]
  refine right_no fun ⟨_, a, _⟩ => ?_
  have := (a (c, d) (by simp)).2.2
  simp at this
  omega
theorem right_joined_set {l : List O} {c : Int} {d : List UInt8} (hr : rightL l = true) {i : Nat} (h : i < l.length) (hi : (l[i]).1 = c) (hd : (l[i]).2.length + d.length ≤ 600) : rightL (joinedL l c d) = true := by
  have hm : c ∈ codesL l := by rw [← hi]; exact codes_mem (List.getElem_mem h)
  have hc : codesL (joinedL l c d) = codesL l := by rw [codes_joined, if_pos hm, List.append_nil]
  rw [right_iff, hc]
  refine ⟨by rw [joined_old hm, List.length_map]; exact right_len hr, fun o ho => ?_, right_nodup hr⟩
  rw [joined_set (right_nodup hr) h hi] at ho
  rcases List.mem_or_eq_of_mem_set ho with ho | rfl
  · exact right_fit hr ho
  · have := right_fit hr (List.getElem_mem h)
    rw [hi] at this
    exact ⟨this.1, this.2.1, by simpa using hd⟩
theorem right_joined_over {l : List O} {c : Int} {d : List UInt8} {i : Nat} (h : i < l.length) (hi : (l[i]).1 = c) (hd : 600 < (l[i]).2.length + d.length) : rightL (joinedL l c d) = false := by
  have hm : c ∈ codesL l := by rw [← hi]; exact codes_mem (List.getElem_mem h)
  rw [joined_old hm]
  refine right_no fun ⟨_, a, _⟩ => ?_
  have := (a (joinO c d l[i]) (List.mem_map_of_mem (List.getElem_mem h))).2.2
  unfold joinO at this
  rw [if_pos hi, List.length_append] at this
  omega
theorem right_mono {l : List O} {c : Int} {d : List UInt8} (h : rightL (joinedL l c d) = true) : rightL l = true := by
  rw [right_iff] at h ⊢
  obtain ⟨a, b, n⟩ := h
  rw [codes_joined] at n
  have hlen : l.length ≤ (joinedL l c d).length := by unfold joinedL; rw [List.length_append, List.length_map]; omega
  refine ⟨by omega, fun o ho => ?_, (List.nodup_append.1 n).1⟩
  have := b (joinO c d o) (by unfold joinedL; exact List.mem_append_left _ (List.mem_map_of_mem ho))
  rw [joinO_code] at this
  refine ⟨this.1, this.2.1, Nat.le_trans ?_ this.2.2⟩
  unfold joinO
  split
  · rw [List.length_append]; omega
  · exact Nat.le_refl _
theorem joined_joined (l : List O) (c : Int) (d1 d2 : List UInt8) : joinedL (joinedL l c d1) c d2 = joinedL l c (d1 ++ d2) := by
  have hm : c ∈ codesL (joinedL l c d1) := by
    rw [codes_joined]
    by_cases h : c ∈ codesL l
    · exact List.mem_append_left _ h
    · rw [if_neg h]; simp
  rw [joined_old hm]
  have hj : ∀ o : O, joinO c d2 (joinO c d1 o) = joinO c (d1 ++ d2) o := fun o => by
    unfold joinO
    by_cases h : o.1 = c
    · simp [h]
    · simp [h]
  unfold joinedL
  rw [List.map_append, List.map_map, show (joinO c d2 ∘ joinO c d1) = joinO c (d1 ++ d2) from funext hj]
  congr 1
  split
  · rfl
  · simp [joinO]
theorem joinAll_nil (l : List O) : joinAll l [] = l := rfl
theorem joinAll_cons (l m : List O) (o : O) : joinAll l (o :: m) = joinAll (joinedL l o.1 o.2) m := rfl
theorem joinAll_app (l m k : List O) : joinAll l (m ++ k) = joinAll (joinAll l m) k := by unfold joinAll; rw [List.foldl_append]
theorem joinAll_next (l m : List O) {k : Nat} (h : k < m.length) : joinAll l (m.take (k + 1)) = joinedL (joinAll l (m.take k)) (m[k]).1 (m[k]).2 := by
  rw [take_snocO h, joinAll_app]; rfl
theorem joinAll_mono {l : List O} : ∀ {m : List O}, rightL (joinAll l m) = true → rightL l = true
  | [], h => h
  | _ :: m, h => right_mono (joinAll_mono (m := m) h)
theorem joinAll_mono_take {l m : List O} (k : Nat) (h : rightL (joinAll l m) = true) : rightL (joinAll l (m.take k)) = true := by
  rw [← List.take_append_drop k m, joinAll_app] at h
  exact joinAll_mono h
theorem joinAll_plain : ∀ {m l : List O}, (codesL (l ++ m)).Nodup → joinAll l m = l ++ m
  | [], l, _ => by rw [joinAll_nil, List.append_nil]
  | o :: m, l, h => by
    have hs : l ++ o :: m = (l ++ [o]) ++ m := by simp
    have hn : o.1 ∉ codesL l := by
      rw [hs, codes_app, codes_app] at h
      exact (nodup_snoc.1 (List.nodup_append.1 h).1).2
    rw [joinAll_cons, joined_new hn, hs]
    exact joinAll_plain (by rw [← hs]; exact h)
theorem joinAll_self {l : List O} (h : rightL l = true) : joinAll [] l = l := by
  have := joinAll_plain (m := l) (l := []) (by simpa using right_nodup h)
  simpa using this

/-! ### Written, read -/
theorem one_small {c : Int} {d : List UInt8} (h : d.length ≤ 255) : oneL c d = codeB c :: UInt8.ofNat d.length :: d := by rw [oneL, dif_pos h]
theorem one_big {c : Int} {d : List UInt8} (h : 255 < d.length) : oneL c d = codeB c :: 255 :: (d.take 255 ++ oneL c (d.drop 255)) := by rw [oneL, dif_neg (by omega)]
theorem one_len (c : Int) (d : List UInt8) : (oneL c d).length ≤ 2 * d.length + 2 := by
  by_cases h : d.length ≤ 255
  · rw [one_small h]; simp; omega
  · rw [one_big (by omega)]
    have := one_len c (d.drop 255)
    rw [List.length_drop] at this
    simp
    omega
termination_by d.length
decreasing_by rw [List.length_drop]; omega
theorem body_app (l m : List O) : bodyL (l ++ m) = bodyL l ++ bodyL m := by unfold bodyL; rw [List.flatMap_append]
theorem body_next {l : List O} {k : Nat} (h : k < l.length) : bodyL (l.take (k + 1)) = bodyL (l.take k) ++ oneL (l[k]).1 (l[k]).2 := by
  rw [take_snocO h, body_app]; simp [bodyL]
theorem body_len : ∀ {l : List O}, (∀ o ∈ l, o.2.length ≤ 600) → (bodyL l).length ≤ 1202 * l.length
  | [], _ => by simp [bodyL]
  | o :: l, h => by
    have h1 := one_len o.1 o.2
    have h2 := body_len (l := l) fun x hx => h x (.tail _ hx)
    have h3 := h o (.head _)
    have : bodyL (o :: l) = oneL o.1 o.2 ++ bodyL l := by simp [bodyL]
    rw [this, List.length_append, List.length_cons]
    omega
theorem body_len_right {l : List O} (h : rightL l = true) (k : Nat) : (bodyL (l.take k)).length ≤ 72120 := by
  have h1 := body_len (l := l.take k) fun o ho => (right_fit h (List.mem_of_mem_take ho)).2.2
  have h2 := right_len h
  rw [List.length_take] at h1
  omega
theorem readF_more : ∀ (f g : Nat) (l : List O) (b : List UInt8), b.length ≤ f → b.length ≤ g → readF f l b = readF g l b
  | 0, 0, _, _, _, _ => rfl
  | 0, g + 1, l, [], _, _ => rfl
  | f + 1, 0, l, [], _, _ => rfl
  | f + 1, g + 1, l, [], _, _ => rfl
  | f + 1, g + 1, l, c :: t, hf, hg => by
    simp only [readF]
    simp at hf hg
    by_cases h1 : c = 255
    · rw [if_pos h1, if_pos h1]
    · rw [if_neg h1, if_neg h1]
      by_cases h2 : c = 0
      · rw [if_pos h2, if_pos h2]
        exact readF_more f g l t hf hg
      · rw [if_neg h2, if_neg h2]
        cases t with
        | nil => rfl
        | cons n r =>
          simp only
          simp at hf hg
          by_cases h3 : r.length < n.toNat
          · rw [if_pos h3, if_pos h3]
          · rw [if_neg h3, if_neg h3]
            by_cases h4 : rightL (joinedL l (c.toNat : Int) (r.take n.toNat)) = true
            · rw [if_pos h4, if_pos h4]
              exact readF_more f g _ _ (by rw [List.length_drop]; omega) (by rw [List.length_drop]; omega)
            · rw [if_neg h4, if_neg h4]
theorem read_nil (l : List O) : readL l [] = (l, 0) := rfl
theorem read_end (l : List O) (t : List UInt8) : readL l (255 :: t) = (l, 0) := by simp [readL, readF]
theorem read_zero (l : List O) (t : List UInt8) : readL l (0 :: t) = readL l t := by simp [readL, readF]
theorem read_lone (l : List O) {c : UInt8} (h1 : c ≠ 255) (h2 : c ≠ 0) : readL l [c] = ([], 2) := by simp [readL, readF, h1, h2]
theorem read_short (l : List O) {c n : UInt8} {r : List UInt8} (h1 : c ≠ 255) (h2 : c ≠ 0) (h3 : r.length < n.toNat) : readL l (c :: n :: r) = ([], 2) := by simp [readL, readF, h1, h2, h3]
theorem read_part (l : List O) {c n : UInt8} {r : List UInt8} (h1 : c ≠ 255) (h2 : c ≠ 0) (h3 : n.toNat ≤ r.length) :
    readL l (c :: n :: r) = if rightL (joinedL l (c.toNat : Int) (r.take n.toNat)) = true then readL (joinedL l (c.toNat : Int) (r.take n.toNat)) (r.drop n.toNat) else ([], 3) := by
  unfold readL
  simp only [List.length_cons, readF, h1, h2, if_false, show ¬ r.length < n.toNat by omega]
  split
  · exact readF_more _ _ _ _ (by rw [List.length_drop]; omega) (Nat.le_refl _)
  · rfl
theorem codeB_nat {c : Int} (h1 : 1 ≤ c) (h2 : c ≤ 254) : ((codeB c).toNat : Int) = c ∧ codeB c ≠ 255 ∧ codeB c ≠ 0 := by
  have h : (codeB c).toNat = c.toNat := by
    unfold codeB
    rw [UInt8.toNat_ofNat']
    omega
  refine ⟨by rw [h]; omega, fun e => ?_, fun e => ?_⟩
  · have : (codeB c).toNat = 255 := by rw [e]; rfl
    omega
  · have : (codeB c).toNat = 0 := by rw [e]; rfl
    omega
theorem read_one (l : List O) {c : Int} (h1 : 1 ≤ c) (h2 : c ≤ 254) (d x : List UInt8) : readL l (oneL c d ++ x) = if rightL (joinedL l c d) = true then readL (joinedL l c d) x else ([], 3) := by
  obtain ⟨hb, hne, hnz⟩ := codeB_nat h1 h2
  by_cases h : d.length ≤ 255
  · rw [one_small h, List.cons_append, List.cons_append]
    have hn : (UInt8.ofNat d.length).toNat = d.length := by rw [UInt8.toNat_ofNat']; omega
    rw [read_part l hne hnz (by rw [hn, List.length_append]; omega), hn, hb, List.take_left, List.drop_left]
  · rw [one_big (by omega), List.cons_append, List.cons_append, List.append_assoc]
    have hn : (255 : UInt8).toNat = 255 := rfl
    have ht : (d.take 255).length = 255 := by rw [List.length_take]; omega
    rw [read_part l hne hnz (by rw [hn, List.length_append, ht]; omega), hn, hb]
    have e1 : ∀ y : List UInt8, (d.take 255 ++ y).take 255 = d.take 255 := fun y => by rw [List.take_append_of_le_length (by omega), List.take_take]; rfl
    have e2 : ∀ y : List UInt8, (d.take 255 ++ y).drop 255 = y := fun y => by rw [List.drop_append_of_le_length (by omega), List.drop_of_length_le (by omega)]; rfl
    rw [e1, e2, read_one (joinedL l c (d.take 255)) h1 h2 (d.drop 255) x, joined_joined, List.take_append_drop]
    by_cases hr : rightL (joinedL l c (d.take 255)) = true
    · rw [if_pos hr]
    · rw [if_neg hr, if_neg]
      intro k
      refine hr (right_mono (c := c) (d := d.drop 255) ?_)
      rw [joined_joined, List.take_append_drop]
      exact k
termination_by d.length
decreasing_by rw [List.length_drop]; omega
theorem read_body : ∀ (m l : List O) (x : List UInt8), (∀ o ∈ m, 1 ≤ o.1 ∧ o.1 ≤ 254) → rightL l = true → readL l (bodyL m ++ x) = if rightL (joinAll l m) = true then readL (joinAll l m) x else ([], 3)
  | [], l, x, _, hl => by rw [joinAll_nil, if_pos hl]; rfl
  | o :: m, l, x, hm, hl => by
    have e : bodyL (o :: m) = oneL o.1 o.2 ++ bodyL m := by simp [bodyL]
    have ho := hm o (.head _)
    rw [e, List.append_assoc, read_one l ho.1 ho.2, joinAll_cons]
    by_cases hr : rightL (joinedL l o.1 o.2) = true
    · rw [if_pos hr]
      exact read_body m _ x (fun p hp => hm p (.tail _ hp)) hr
    · rw [if_neg hr, if_neg]
      exact fun k => hr (joinAll_mono k)
theorem read_rows {l m : List O} (hl : rightL l = true) (hm : rightL m = true) (rest : List UInt8) : readL [] (bodyL l ++ (writeL m ++ rest)) = joinL l m := by
  rw [read_body l [] _ (fun o ho => ⟨(right_fit hl ho).1, (right_fit hl ho).2.1⟩) right_nil, joinAll_self hl, if_pos hl]
  unfold writeL joinL
  rw [List.append_assoc, read_body m l _ (fun o ho => ⟨(right_fit hm ho).1, (right_fit hm ho).2.1⟩) hl]
  have hc : rightL l = true ∧ rightL m = true := ⟨hl, hm⟩
  rw [if_pos hc]
  split
  · exact read_end _ _
  · rfl
theorem read_back {l : List O} (hl : rightL l = true) (rest : List UInt8) : readL [] (writeL l ++ rest) = (l, 0) := by
  have := read_rows (l := []) right_nil hl rest
  have e : joinL [] l = (l, 0) := by
    unfold joinL
    have hc : rightL [] = true ∧ rightL l = true := ⟨right_nil, hl⟩
    rw [if_pos hc, joinAll_self hl, if_pos hl]
  rw [e] at this
  exact this
theorem read_zeros (l : List O) (n : Nat) (b : List UInt8) : readL l (List.replicate n 0 ++ b) = readL l b := by
  induction n with
  | zero => rfl
  | succ n ih => rw [List.replicate_succ, List.cons_append, read_zero, ih]
theorem readF_good : ∀ (f : Nat) (l : List O) (b : List UInt8), rightL l = true → rightL (readF f l b).1 = true ∧ ((readF f l b).2 ≠ 0 → (readF f l b).1 = []) ∧ ((readF f l b).2 = 0 ∨ (readF f l b).2 = 2 ∨ (readF f l b).2 = 3)
  | 0, l, _, h => ⟨h, fun k => absurd rfl k, .inl rfl⟩
  | f + 1, l, [], h => ⟨h, fun k => absurd rfl k, .inl rfl⟩
  | f + 1, l, c :: t, h => by
    simp only [readF]
    by_cases h1 : c = 255
    · rw [if_pos h1]; exact ⟨h, fun k => absurd rfl k, .inl rfl⟩
    · rw [if_neg h1]
      by_cases h2 : c = 0
      · rw [if_pos h2]; exact readF_good f l t h
      · rw [if_neg h2]
        cases t with
        | nil => exact ⟨right_nil, fun _ => rfl, .inr (.inl rfl)⟩
        | cons n r =>
          simp only
          by_cases h3 : r.length < n.toNat
          · rw [if_pos h3]; exact ⟨right_nil, fun _ => rfl, .inr (.inl rfl)⟩
          · rw [if_neg h3]
            by_cases h4 : rightL (joinedL l (c.toNat : Int) (r.take n.toNat)) = true
            · rw [if_pos h4]; exact readF_good f _ _ h4
            · rw [if_neg h4]; exact ⟨right_nil, fun _ => rfl, .inr (.inr rfl)⟩
theorem read_good (b : List UInt8) : rightL (readL [] b).1 = true ∧ ((readL [] b).2 ≠ 0 → (readL [] b).1 = []) ∧ ((readL [] b).2 = 0 ∨ (readL [] b).2 = 2 ∨ (readL [] b).2 = 3) := readF_good _ _ _ right_nil
end Go.Proofs.Ytoobijefjljnjaa.Tl
