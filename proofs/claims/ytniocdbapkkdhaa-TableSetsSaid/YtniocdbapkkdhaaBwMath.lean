/- The mathematics beneath layer 12's walks: rows looked at lease by lease, a binary search, a row filtered lease by lease. No program. -/
import Derived.Test.YtniocdbapkkdhaaTbMath
namespace Go.Proofs.Ytniocdbapkkdhaa.Bw
open Rc La Tb

theorem take_nextB {l : List L} {k : Nat} {a : L} (h : l[k]? = some a) : l.take (k + 1) = l.take k ++ [a] := by
  obtain ⟨hk, e⟩ := List.getElem?_eq_some_iff.1 h
  rw [List.take_succ_eq_append_getElem hk, e]
theorem drop_nextB {l : List L} {k : Nat} {a : L} (h : l[k]? = some a) : l.drop k = a :: l.drop (k + 1) := by
  obtain ⟨hk, e⟩ := List.getElem?_eq_some_iff.1 h
  rw [List.drop_eq_getElem_cons hk, e]
theorem getD_of {l : List L} {k : Nat} {a : L} (h : l[k]? = some a) : l.getD k zeroL = a := by
  rw [List.getD_eq_getElem?_getD, h]
  rfl
/-! ### Right, lease by lease -/
/-- The first k leases are all right, and of each two neighbours among the first k + 1 the one is below the other. -/
def OkN (t : List L) (k : Nat) : Prop := (∀ a ∈ t.take k, RightR a) ∧ ∀ i, i + 1 ≤ k → i + 1 < t.length → (t.getD i zeroL).addr < (t.getD (i + 1) zeroL).addr
theorem okN_zero (t : List L) : OkN t 0 := ⟨fun a ha => by simp at ha, fun i hi => absurd hi (by omega)⟩
theorem okN_step {t : List L} {k : Nat} {a : L} (h : OkN t k) (ha : t[k]? = some a) (hr : RightR a) (hn : k + 1 < t.length → a.addr < (t.getD (k + 1) zeroL).addr) : OkN t (k + 1) := by
  refine ⟨fun b hb => ?_, fun i hi hl => ?_⟩
  · rw [take_nextB ha] at hb
    rcases List.mem_append.1 hb with hb | hb
    · exact h.1 b hb
    · rw [List.mem_singleton.1 hb]; exact hr
  · rcases Nat.lt_or_ge (i + 1) (k + 1) with q | q
    · exact h.2 i (by omega) hl
    · obtain rfl : i = k := by omega
      rw [getD_of ha]
      exact hn hl
theorem okN_end {t : List L} (h : OkN t t.length) (hn : t.length ≤ 64) : rightT t = true := by
  refine decide_eq_true ⟨hn, fun a ha => h.1 a (by rw [List.take_of_length_le (Nat.le_refl _)]; exact ha), (inc_iff t).2 fun i hi => h.2 i (by omega) hi⟩
/-- The same, of the neighbours among the first k. -/
def OkP (t : List L) (k : Nat) : Prop := (∀ a ∈ t.take k, RightR a) ∧ ∀ i, i + 1 < k → (t.getD i zeroL).addr < (t.getD (i + 1) zeroL).addr
theorem okP_zero (t : List L) : OkP t 0 := ⟨fun a ha => by simp at ha, fun i hi => absurd hi (by omega)⟩
theorem okP_step {t : List L} {k : Nat} {a : L} (h : OkP t k) (ha : t[k]? = some a) (hr : RightR a) (hn : ∀ j b, k = j + 1 → t[j]? = some b → b.addr < a.addr) : OkP t (k + 1) := by
  obtain ⟨hk, _⟩ := List.getElem?_eq_some_iff.1 ha
  refine ⟨fun b hb => ?_, fun i hi => ?_⟩
  · rw [take_nextB ha] at hb
    rcases List.mem_append.1 hb with hb | hb
    · exact h.1 b hb
    · rw [List.mem_singleton.1 hb]; exact hr
  · rcases Nat.lt_or_ge (i + 1) k with q | q
    · exact h.2 i q
    · obtain rfl : i + 1 = k := by omega
      have hb := List.getElem?_eq_getElem (l := t) (i := i) (by omega)
      rw [getD_of ha, getD_of hb]
      exact hn i _ rfl hb
theorem okP_end {t : List L} (h : OkP t t.length) (hn : t.length ≤ 64) : rightT t = true :=
  decide_eq_true ⟨hn, fun a ha => h.1 a (by rw [List.take_of_length_le (Nat.le_refl _)]; exact ha), (inc_iff t).2 fun i hi => h.2 i hi⟩
theorem right_long {t : List L} (h : 64 < t.length) : rightT t = false := decide_eq_false fun k => by have := k.1; omega
theorem right_bad {t : List L} {k : Nat} {a : L} (ha : t[k]? = some a) (hr : ¬ RightR a) : rightT t = false := decide_eq_false fun q => hr (q.2.1 a (List.mem_of_getElem? ha))
theorem right_turn {t : List L} {k : Nat} {a b : L} (ha : t[k]? = some a) (hb : t[k + 1]? = some b) (hn : ¬ a.addr < b.addr) : rightT t = false := decide_eq_false fun q => by
  obtain ⟨hk, _⟩ := List.getElem?_eq_some_iff.1 hb
  have := (inc_iff t).1 q.2.2 k hk
  rw [getD_of ha, getD_of hb] at this
  exact hn this
theorem right_short {t : List L} (h : rightT t = true) : t.length ≤ 64 := (of_decide_eq_true h).1
theorem good_yes {t : List L} (h : rightT t = true) : goodT t = t := good_of (of_decide_eq_true h)
theorem good_no {t : List L} (h : rightT t = false) : goodT t = [] := if_neg (of_decide_eq_false h)
/-! ### A binary search -/
/-- The place of a is from lo to hi. -/
def Bound (t : List L) (a : Int) (lo hi : Nat) : Prop := lo ≤ posT t a ∧ posT t a ≤ hi ∧ ∀ i, hi ≤ i → i < t.length → a < (t.getD i zeroL).addr
def hasT (t : List L) (a : Int) : Bool := (firstT t a).isSome
theorem bound_start (t : List L) (a : Int) : Bound t a 0 t.length := ⟨Nat.zero_le _, pos_le t a, fun i h1 h2 => absurd h2 (by omega)⟩
theorem bound_up {t : List L} (ht : Inc t) {a : Int} {lo hi m : Nat} {x : L} (h : Bound t a lo hi) (hx : t[m]? = some x) (hv : x.addr < a) : Bound t a (m + 1) hi := by
  obtain ⟨hm, _⟩ := List.getElem?_eq_some_iff.1 hx
  have := (pos_iff ht a m hm).1 (by rw [getD_of hx]; exact hv)
  exact ⟨this, h.2.1, h.2.2⟩
theorem bound_down {t : List L} (ht : Inc t) {a : Int} {lo hi m : Nat} {x : L} (h : Bound t a lo hi) (hx : t[m]? = some x) (hv : a < x.addr) : Bound t a lo m := by
  obtain ⟨hm, _⟩ := List.getElem?_eq_some_iff.1 hx
  have h1 : ¬ m < posT t a := fun k => by
    have := (pos_iff ht a m hm).2 k
    rw [getD_of hx] at this
    omega
  refine ⟨h.1, by omega, fun i hi hl => ?_⟩
  rcases Nat.lt_or_ge m i with q | q
  · have hp : Inc t := ht
    have := List.pairwise_iff_getElem.1 hp m i hm hl q
    rw [getD_of (List.getElem?_eq_getElem hl)]
    have e : t[m] = x := (Option.some.inj (hx.symm.trans (List.getElem?_eq_getElem hm))).symm
    rw [e] at this
    omega
  · obtain rfl : i = m := by omega
    rw [getD_of hx]
    exact hv
theorem bound_hit {t : List L} (ht : Inc t) {a : Int} {m : Nat} {x : L} (hx : t[m]? = some x) (hv : x.addr = a) : posT t a = m ∧ hasT t a = true := by
  obtain ⟨hm, _⟩ := List.getElem?_eq_some_iff.1 hx
  have h1 : ¬ m < posT t a := fun k => by
    have := (pos_iff ht a m hm).2 k
    rw [getD_of hx] at this
    omega
  have h2 : posT t a ≤ m := by omega
  have h3 : ¬ posT t a < m := fun k => by
    have hl : posT t a < t.length := by omega
    have hp : Inc t := ht
    have := List.pairwise_iff_getElem.1 hp (posT t a) m hl hm k
    have e : t[m] = x := (Option.some.inj (hx.symm.trans (List.getElem?_eq_getElem hm))).symm
    have h4 := mt (pos_iff ht a (posT t a) hl).1 (Nat.lt_irrefl _)
    rw [getD_of (List.getElem?_eq_getElem hl)] at h4
    rw [e] at this
    omega
  refine ⟨by omega, ?_⟩
  unfold hasT
  rw [show firstT t a = some x from (first_iff ht).2 ⟨List.mem_of_getElem? hx, hv⟩]
  rfl
theorem bound_end {t : List L} (ht : Inc t) {a : Int} {lo hi : Nat} (h : Bound t a lo hi) (he : ¬ lo < hi) : posT t a = lo ∧ hasT t a = false := by
  have h1 := h.1
  have h2 := h.2.1
  refine ⟨by omega, ?_⟩
  unfold hasT
  rw [first_pos ht, if_neg]
  · rfl
  · rintro ⟨k1, k2⟩
    have := h.2.2 (posT t a) (by omega) k1
    omega
theorem has_get {t : List L} {a : Int} : (hasT t a = true ∧ ∃ x, t[posT t a]? = some x ∧ x.addr = a ∧ firstT t a = some x) ∨ (hasT t a = false ∧ firstT t a = none) ∨ ¬ Inc t := by
  by_cases ht : Inc t
  · have := first_pos ht a
    unfold hasT
    split at this
    · next hh =>
      refine .inl ⟨by rw [this]; rfl, t.getD (posT t a) zeroL, ?_, hh.2, this⟩
      rw [List.getD_eq_getElem?_getD, List.getElem?_eq_getElem hh.1]
      rfl
    · exact .inr (.inl ⟨by rw [this]; rfl, this⟩)
  · exact .inr (.inr ht)
/-! ### A row, lease by lease -/
/-- The first lease of an address, looked for one by one. -/
theorem seek_next {t : List L} {k : Nat} {a : L} {x : Int} (h : firstT (t.drop k) x = firstT t x) (ha : t[k]? = some a) (hv : ¬ a.addr = x) : firstT (t.drop (k + 1)) x = firstT t x := by
  rw [← h, drop_nextB ha]
  unfold firstT
  rw [List.find?_cons, show decide (a.addr = x) = false from decide_eq_false hv]
theorem seek_hit {t : List L} {k : Nat} {a : L} {x : Int} (h : firstT (t.drop k) x = firstT t x) (ha : t[k]? = some a) (hv : a.addr = x) : firstT t x = some a := by
  rw [← h, drop_nextB ha]
  unfold firstT
  rw [List.find?_cons, show decide (a.addr = x) = true from decide_eq_true hv]
theorem seek_end {t : List L} {x : Int} (h : firstT (t.drop t.length) x = firstT t x) : firstT t x = none := by
  rw [← h, List.drop_of_length_le (Nat.le_refl _)]
  rfl
theorem filter_put {t : List L} {q : L → Bool} {k : Nat} {a : L} {ks : List L} (h : ks = (t.take k).filter q) (ha : t[k]? = some a) (hq : q a = true) : ks ++ [a] = (t.take (k + 1)).filter q := by
  rw [take_nextB ha, List.filter_append, ← h, List.filter_cons, if_pos hq]
  rfl
theorem filter_skip {t : List L} {q : L → Bool} {k : Nat} {a : L} {ks : List L} (h : ks = (t.take k).filter q) (ha : t[k]? = some a) (hq : q a = false) : ks = (t.take (k + 1)).filter q := by
  rw [take_nextB ha, List.filter_append, ← h, List.filter_cons, if_neg (by rw [hq]; simp)]
  simp
theorem filter_end {t : List L} {q : L → Bool} {ks : List L} (h : ks = (t.take t.length).filter q) : ks = t.filter q := by
  rwa [List.take_of_length_le (Nat.le_refl _)] at h
end Go.Proofs.Ytniocdbapkkdhaa.Bw
