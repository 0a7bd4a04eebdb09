/- The mathematics of layer 12 (table): tables of leases, what is got of them and set in them, who may have an address, what still counts. No program. -/
import Derived.Test.YtniocdbapkkdhaaLaMath
namespace Go.Proofs.Ytniocdbapkkdhaa.Tb
open Rc La

/-! ### Tables -/
def RightT (t : List L) : Prop := t.length ≤ 64 ∧ (∀ a ∈ t, RightR a) ∧ Inc t
instance incDec (t : List L) : Decidable (Inc t) := by unfold Inc; infer_instance
instance rightDec (t : List L) : Decidable (RightT t) := by unfold RightT; infer_instance
def rightT (t : List L) : Bool := decide (RightT t)
def goodT (t : List L) : List L := if RightT t then t else []
theorem nil_right : RightT [] := ⟨Nat.zero_le _, fun _ h => (by cases h), List.Pairwise.nil⟩
theorem good_right (t : List L) : RightT (goodT t) := by
  unfold goodT
  split
  · assumption
  · exact nil_right
theorem good_of {t : List L} (h : RightT t) : goodT t = t := if_pos h
theorem good_good (t : List L) : goodT (goodT t) = goodT t := good_of (good_right t)
theorem good_len (t : List L) : (goodT t).length ≤ 64 := (good_right t).1
/-- In rising order, told of neighbours. -/
theorem inc_iff : ∀ (t : List L), Inc t ↔ ∀ i, i + 1 < t.length → (t.getD i zeroL).addr < (t.getD (i + 1) zeroL).addr
  | [] => ⟨fun _ i h => absurd h (Nat.not_lt_zero _), fun _ => List.Pairwise.nil⟩
  | [a] => ⟨fun _ i h => absurd h (by simp), fun _ => List.pairwise_singleton _ _⟩
  | a :: b :: t => by
    constructor
    · intro h i hi
      obtain ⟨h1, h2⟩ := List.pairwise_cons.1 h
      cases i with
      | zero => exact h1 b (.head _)
      | succ i => exact (inc_iff (b :: t)).1 h2 i (by simpa using hi)
    · intro h
      have h2 : Inc (b :: t) := (inc_iff (b :: t)).2 fun i hi => h (i + 1) (by simpa using hi)
      have h0 : a.addr < b.addr := h 0 (by simp)
      refine List.pairwise_cons.2 ⟨fun c hc => ?_, h2⟩
      rcases List.mem_cons.1 hc with rfl | hc
      · exact h0
      · have := (List.pairwise_cons.1 h2).1 c hc
        omega

/-! ### What is in them -/
def firstT (t : List L) (a : Int) : Option L := t.find? fun l => decide (l.addr = a)
def ansT : Option L → L × Bool
  | some l => (l, true)
  | none => (zeroL, false)
def getT (t : List L) (a : Int) : L × Bool := ansT (firstT (goodT t) a)
def ofT (t : List L) (k : List UInt8) : List L := (goodT t).filter fun l => decide (l.key = k)
theorem first_some {t : List L} {a : Int} {l : L} (h : firstT t a = some l) : l ∈ t ∧ l.addr = a := by
  unfold firstT at h
  exact ⟨List.mem_of_find?_eq_some h, by simpa using List.find?_some h⟩
theorem first_none {t : List L} {a : Int} : firstT t a = none ↔ ∀ l ∈ t, l.addr ≠ a := by
  unfold firstT
  rw [List.find?_eq_none]
  simp
/-- In rising order there is one lease of an address at most. -/
theorem first_mem {t : List L} (h : Inc t) {l : L} (hl : l ∈ t) : firstT t l.addr = some l := by
  induction t with
  | nil => cases hl
  | cons b t ih =>
    obtain ⟨h1, h2⟩ := List.pairwise_cons.1 h
    unfold firstT
    rw [List.find?_cons]
    rcases List.mem_cons.1 hl with rfl | hl
    · simp
    · have := h1 l hl
      rw [show (decide (b.addr = l.addr)) = false by simp; omega]
      exact ih h2 hl
theorem first_iff {t : List L} (h : Inc t) {a : Int} {l : L} : firstT t a = some l ↔ l ∈ t ∧ l.addr = a := ⟨first_some, fun ⟨h1, h2⟩ => by rw [← h2]; exact first_mem h h1⟩
theorem first_ext {t u : List L} (hu : Inc u) {a : Int} (h : ∀ l, l.addr = a → (l ∈ t ↔ l ∈ u)) : firstT t a = firstT u a := by
  cases ht1 : firstT t a with
  | some l =>
    obtain ⟨h1, h2⟩ := first_some ht1
    exact ((first_iff hu).2 ⟨(h l h2).1 h1, h2⟩).symm
  | none =>
    rw [first_none] at ht1
    exact (first_none.2 fun l hl k => ht1 l ((h l k).2 hl) k).symm

/-! ### A lease is set -/
def putT (t : List L) (l : L) : List L := t.filter (fun b => decide (b.addr < l.addr)) ++ l :: t.filter (fun b => decide (l.addr < b.addr))
def setT (t : List L) (l : L) : List L × Int :=
  if RightR l then (if 64 < (putT (goodT t) l).length then ([], 3) else (putT (goodT t) l, 0)) else ([], 1)
theorem mem_put {t : List L} {l b : L} : b ∈ putT t l ↔ b = l ∨ (b ∈ t ∧ b.addr ≠ l.addr) := by
  unfold putT
  rw [List.mem_append, List.mem_cons, List.mem_filter, List.mem_filter, decide_eq_true_iff, decide_eq_true_iff]
  constructor
  · rintro (⟨h, k⟩ | h | ⟨h, k⟩)
    · exact .inr ⟨h, by omega⟩
    · exact .inl h
    · exact .inr ⟨h, by omega⟩
  · rintro (h | ⟨h, k⟩)
    · exact .inr (.inl h)
    · rcases Int.lt_or_gt_of_ne k with q | q
      · exact .inl ⟨h, q⟩
      · exact .inr (.inr ⟨h, q⟩)
theorem put_inc {t : List L} (h : Inc t) (l : L) : Inc (putT t l) := by
  refine List.pairwise_append.2 ⟨List.Pairwise.filter _ h, List.pairwise_cons.2 ⟨fun b hb => ?_, List.Pairwise.filter _ h⟩, fun a ha b hb => ?_⟩
  · simpa using (List.mem_filter.1 hb).2
  · have h1 : a.addr < l.addr := by simpa using (List.mem_filter.1 ha).2
    rcases List.mem_cons.1 hb with rfl | hb
    · exact h1
    · have h2 : l.addr < b.addr := by simpa using (List.mem_filter.1 hb).2
      omega
theorem filter_len (t : List L) (p q : L → Bool) (h : ∀ b, p b = true → q b = true → False) : (t.filter p).length + (t.filter q).length ≤ t.length := by
  induction t with
  | nil => simp
  | cons b t ih =>
    rw [List.filter_cons, List.filter_cons]
    have := h b
    by_cases h1 : p b = true
    · by_cases h2 : q b = true
      · exact (this h1 h2).elim
      · rw [if_pos h1, if_neg h2, List.length_cons, List.length_cons]; omega
    · by_cases h2 : q b = true
      · rw [if_neg h1, if_pos h2, List.length_cons, List.length_cons]; omega
      · rw [if_neg h1, if_neg h2, List.length_cons]; omega
theorem put_len (t : List L) (l : L) : (putT t l).length ≤ t.length + 1 := by
  unfold putT
  rw [List.length_append, List.length_cons]
  have := filter_len t (fun b => decide (b.addr < l.addr)) (fun b => decide (l.addr < b.addr)) fun b h1 h2 => by
    simp only [decide_eq_true_iff] at h1 h2
    omega
  omega
theorem put_right {t : List L} {l : L} (ht : RightT t) (hl : RightR l) (hn : (putT t l).length ≤ 64) : RightT (putT t l) :=
  ⟨hn, fun b hb => (mem_put.1 hb).elim (fun e => e ▸ hl) fun k => ht.2.1 b k.1, put_inc ht.2.2 l⟩
theorem set_bad {t : List L} {l : L} (h : ¬ RightR l) : setT t l = ([], 1) := if_neg h
theorem set_full {t : List L} {l : L} (h : RightR l) (hn : 64 < (putT (goodT t) l).length) : setT t l = ([], 3) := by unfold setT; rw [if_pos h, if_pos hn]
theorem set_ok {t : List L} {l : L} (h : RightR l) (hn : (putT (goodT t) l).length ≤ 64) : setT t l = (putT (goodT t) l, 0) := by unfold setT; rw [if_pos h, if_neg (by omega)]
theorem set_cases (t : List L) (l : L) : (¬ RightR l ∧ setT t l = ([], 1)) ∨ (RightR l ∧ 64 < (putT (goodT t) l).length ∧ setT t l = ([], 3)) ∨ (RightR l ∧ (putT (goodT t) l).length ≤ 64 ∧ setT t l = (putT (goodT t) l, 0)) := by
  by_cases h : RightR l
  · by_cases hn : 64 < (putT (goodT t) l).length
    · exact .inr (.inl ⟨h, hn, set_full h hn⟩)
    · exact .inr (.inr ⟨h, by omega, set_ok h (by omega)⟩)
  · exact .inl ⟨h, set_bad h⟩
theorem set_right (t : List L) (l : L) : RightT (setT t l).1 := by
  rcases set_cases t l with ⟨_, e⟩ | ⟨_, _, e⟩ | ⟨h, hn, e⟩ <;> rw [e]
  · exact nil_right
  · exact nil_right
  · exact put_right (good_right t) h hn

/-! ### P12.4 -/
theorem get_set {t : List L} {l : L} (h : (setT t l).2 = 0) : getT (setT t l).1 l.addr = (l, true) := by
  rcases set_cases t l with ⟨_, e⟩ | ⟨_, _, e⟩ | ⟨hr, hn, e⟩
  · rw [e] at h; cases h
  · rw [e] at h; cases h
  · have hR := put_right (good_right t) hr hn
    rw [e]
    unfold getT
    rw [good_of hR, first_mem hR.2.2 (mem_put.2 (.inl rfl))]
    rfl
theorem get_other {t : List L} {l : L} (h : (setT t l).2 = 0) {a : Int} (ha : a ≠ l.addr) : getT (setT t l).1 a = getT t a := by
  rcases set_cases t l with ⟨_, e⟩ | ⟨_, _, e⟩ | ⟨hr, hn, e⟩
  · rw [e] at h; cases h
  · rw [e] at h; cases h
  · have hR := put_right (good_right t) hr hn
    rw [e]
    unfold getT
    rw [good_of hR, first_ext (good_right t).2.2 fun b hb => ?_]
    rw [mem_put]
    constructor
    · rintro (rfl | k)
      · exact absurd hb.symm ha
      · exact k.1
    · exact fun k => .inr ⟨k, by rw [hb]; exact ha⟩

/-! ### P12.5 -/
theorem put_last (ls : List L) (l : L) : putT (lastL ls) l = lastL (ls ++ [l]) := by
  refine last_is (put_inc (last_inc ls) l) fun a => ?_
  rw [mem_put, mem_last, last_app]
  have h1 : IsLast a [l] ↔ a = l := by
    rw [last_cons]
    constructor
    · rintro (⟨h, _⟩ | ⟨p, q, e, _⟩)
      · exact h
      · cases p <;> cases e
    · exact fun h => .inl ⟨h, fun c hc => (by cases hc)⟩
  rw [h1]
  constructor
  · rintro (h | ⟨h, k⟩)
    · exact .inl h
    · exact .inr ⟨h, fun b hb => by rw [List.mem_singleton.1 hb]; exact fun e => k e.symm⟩
  · rintro (h | ⟨h, k⟩)
    · exact .inl h
    · exact .inr ⟨h, fun e => k l (List.mem_singleton.2 rfl) e.symm⟩
theorem last_tab {ls : List L} (hr : ∀ a ∈ ls, RightR a) (hn : ls.length ≤ 64) : RightT (lastL ls) := ⟨Nat.le_trans (last_len ls) hn, last_right hr, last_inc ls⟩
/-- One lease more: it is set, or it isn't right. -/
theorem rows_step {ls : List L} (hr : ∀ a ∈ ls, RightR a) (hn : ls.length < 64) (l : L) : (RightR l ∧ setT (lastL ls) l = (lastL (ls ++ [l]), 0)) ∨ (¬ RightR l ∧ setT (lastL ls) l = ([], 1)) := by
  by_cases h : RightR l
  · refine .inl ⟨h, ?_⟩
    have hg := good_of (last_tab hr (by omega))
    have := put_len (lastL ls) l
    have := last_len ls
    rw [set_ok h (by rw [hg]; omega), hg, put_last]
  · exact .inr ⟨h, set_bad h⟩

/-! ### Who may have an address; what still counts -/
def holdsT (l : L) (now : Int) : Bool := decide (l.state = 1) && decide (now < l.till)
def restsT (l : L) (now : Int) : Bool := decide (l.state = 3) && decide (now < l.till)
def freeO (o : Option L) (k : List UInt8) (now : Int) : Bool :=
  match o with
  | none => true
  | some l => !(restsT l now || (holdsT l now && !decide (l.key = k)))
def freeT (t : List L) (a : Int) (k : List UInt8) (now : Int) : Bool := freeO (firstT (goodT t) a) k now
def sweepT (t : List L) (now : Int) : List L := (goodT t).filter fun l => holdsT l now || restsT l now
/-- The document's own words for who may have one. -/
theorem free_doc {l : L} (hr : RightR l) (k : List UInt8) (now : Int) : freeO (some l) k now = (if l.state = 2 ∨ l.till ≤ now then true else decide (l.state = 1) && decide (l.key = k)) := by
  obtain ⟨_, ⟨s0, s1⟩, _⟩ := hr
  unfold freeO restsT holdsT
  by_cases h3 : l.till ≤ now
  · simp [h3, show ¬ now < l.till by omega]
  · rcases (show l.state = 1 ∨ l.state = 2 ∨ l.state = 3 by omega) with e | e | e <;> simp [e, h3, show now < l.till by omega]
theorem counts_doc {l : L} (hr : RightR l) (now : Int) : (holdsT l now || restsT l now) = (decide (l.state ≠ 2) && decide (now < l.till)) := by
  obtain ⟨_, ⟨s0, s1⟩, _⟩ := hr
  unfold restsT holdsT
  rcases (show l.state = 1 ∨ l.state = 2 ∨ l.state = 3 by omega) with e | e | e <;> simp [e]
theorem sweep_doc (t : List L) (now : Int) : sweepT t now = (goodT t).filter fun l => decide (l.state ≠ 2) && decide (now < l.till) := List.filter_congr fun l hl => counts_doc ((good_right t).2.1 l hl) now
theorem sweep_right (t : List L) (now : Int) : RightT (sweepT t now) :=
  ⟨Nat.le_trans (List.length_filter_le _ _) (good_len t), fun a ha => (good_right t).2.1 a (List.mem_filter.1 ha).1, List.Pairwise.filter _ (good_right t).2.2⟩
/-- P12.6. -/
theorem sweep_sweep (t : List L) (now : Int) : sweepT (sweepT t now) now = sweepT t now := by
  show (goodT (sweepT t now)).filter _ = _
  rw [good_of (sweep_right t now)]
  unfold sweepT
  rw [List.filter_filter]
  simp
theorem free_sweep (t : List L) (a : Int) (k : List UInt8) (now : Int) : freeT (sweepT t now) a k now = freeT t a k now := by
  unfold freeT
  rw [good_of (sweep_right t now)]
  have hI := (good_right t).2.2
  have hS := (sweep_right t now).2.2
  cases h : firstT (goodT t) a with
  | none =>
    rw [show firstT (sweepT t now) a = none from first_none.2 fun l hl => first_none.1 h l (List.mem_filter.1 hl).1]
  | some l =>
    obtain ⟨h1, h2⟩ := first_some h
    by_cases hc : (holdsT l now || restsT l now) = true
    · rw [(first_iff hS).2 ⟨List.mem_filter.2 ⟨h1, hc⟩, h2⟩]
    · have hn : firstT (sweepT t now) a = none := first_none.2 fun b hb e => by
        obtain ⟨b1, b2⟩ := List.mem_filter.1 hb
        have := first_mem hI b1
        rw [e, h] at this
        injection this with this
        exact hc (this ▸ b2)
      rw [hn]
      simp only [Bool.not_eq_true, Bool.or_eq_false_iff] at hc
      show true = !(restsT l now || (holdsT l now && !decide (l.key = k)))
      rw [hc.1, hc.2]
      rfl

/-! ### The place of an address: how many leases are of lesser ones -/
def posT (t : List L) (a : Int) : Nat := (t.filter fun b => decide (b.addr < a)).length
theorem pos_le (t : List L) (a : Int) : posT t a ≤ t.length := List.length_filter_le _ _
theorem pos_cons (b : L) (t : List L) (a : Int) : posT (b :: t) a = (if b.addr < a then 1 else 0) + posT t a := by
  unfold posT
  rw [List.filter_cons]
  by_cases h : b.addr < a
  · rw [if_pos (by simpa using h), if_pos h, List.length_cons]; omega
  · rw [if_neg (by simpa using h), if_neg h]; omega
theorem pos_zero {t : List L} {a : Int} (h : ∀ b ∈ t, a ≤ b.addr) : posT t a = 0 := by
  unfold posT
  rw [List.filter_eq_nil_iff.2 fun b hb => by have := h b hb; simp; omega]
  rfl
theorem pos_iff : ∀ {t : List L} (_ : Inc t) (a : Int) (i : Nat), i < t.length → ((t.getD i zeroL).addr < a ↔ i < posT t a)
  | [], _, _, i, hi => absurd hi (Nat.not_lt_zero _)
  | b :: t, h, a, i, hi => by
    obtain ⟨h1, h2⟩ := List.pairwise_cons.1 h
    rw [pos_cons]
    by_cases hb : b.addr < a
    · rw [if_pos hb]
      cases i with
      | zero => exact ⟨fun _ => by omega, fun _ => hb⟩
      | succ i =>
        have := pos_iff h2 a i (by simpa using hi)
        show (t.getD i zeroL).addr < a ↔ _
        rw [this]
        omega
    · have h0 : posT t a = 0 := pos_zero fun c hc => by have := h1 c hc; omega
      rw [if_neg hb, h0]
      refine ⟨fun k => ?_, fun k => absurd k (by omega)⟩
      cases i with
      | zero => exact absurd k hb
      | succ i =>
        have hi' : i < t.length := by simpa using hi
        have hm : t.getD i zeroL ∈ t := by rw [List.getD_eq_getElem?_getD, List.getElem?_eq_getElem hi']; exact List.getElem_mem hi'
        have := h1 _ hm
        have : (t.getD i zeroL).addr < a := k
        omega
theorem take_pos : ∀ {t : List L} (_ : Inc t) (a : Int), t.take (posT t a) = t.filter fun b => decide (b.addr < a)
  | [], _, _ => by simp [posT]
  | b :: t, h, a => by
    obtain ⟨h1, h2⟩ := List.pairwise_cons.1 h
    rw [pos_cons, List.filter_cons]
    by_cases hb : b.addr < a
    · rw [if_pos hb, if_pos (by simpa using hb), Nat.add_comm, List.take_succ_cons, take_pos h2]
    · have hz : ∀ c ∈ t, a ≤ c.addr := fun c hc => by have := h1 c hc; omega
      rw [if_neg hb, if_neg (by simpa using hb), pos_zero hz, List.filter_eq_nil_iff.2 fun c hc => by have := hz c hc; simp; omega]
      rfl
theorem drop_pos : ∀ {t : List L} (_ : Inc t) (a : Int), t.drop (posT t a) = t.filter fun b => decide (a ≤ b.addr)
  | [], _, _ => by simp [posT]
  | b :: t, h, a => by
    obtain ⟨h1, h2⟩ := List.pairwise_cons.1 h
    rw [pos_cons, List.filter_cons]
    by_cases hb : b.addr < a
    · rw [if_pos hb, if_neg (by simp; omega), Nat.add_comm, List.drop_succ_cons, drop_pos h2]
    · have hz : ∀ c ∈ t, a ≤ c.addr := fun c hc => by have := h1 c hc; omega
      rw [if_neg hb, if_pos (by simp; omega), pos_zero hz, List.filter_eq_self.2 fun c hc => by have := hz c hc; simpa using this]
      rfl
/-- Is there a lease of the address? It stands at its place. -/
theorem first_pos {t : List L} (h : Inc t) (a : Int) : firstT t a = if posT t a < t.length ∧ (t.getD (posT t a) zeroL).addr = a then some (t.getD (posT t a) zeroL) else none := by
  split
  · next hh =>
    have hm : t.getD (posT t a) zeroL ∈ t := by rw [List.getD_eq_getElem?_getD, List.getElem?_eq_getElem hh.1]; exact List.getElem_mem hh.1
    exact (first_iff h).2 ⟨hm, hh.2⟩
  · next hh =>
    refine first_none.2 fun l hl e => hh ?_
    have hd : l ∈ t.drop (posT t a) := by rw [drop_pos h, List.mem_filter]; exact ⟨hl, by simp; omega⟩
    have hlt : posT t a < t.length := by
      rcases Nat.lt_or_ge (posT t a) t.length with k | k
      · exact k
      · rw [List.drop_eq_nil_of_le k] at hd; cases hd
    refine ⟨hlt, ?_⟩
    have hge : ¬ (t.getD (posT t a) zeroL).addr < a := fun k => absurd ((pos_iff h a _ hlt).1 k) (Nat.lt_irrefl _)
    rw [List.drop_eq_getElem_cons hlt] at hd
    have hg : t.getD (posT t a) zeroL = t[posT t a] := by rw [List.getD_eq_getElem?_getD, List.getElem?_eq_getElem hlt]; rfl
    rcases List.mem_cons.1 hd with e1 | e1
    · rw [hg, ← e1, e]
    · have hp : Inc (t[posT t a] :: t.drop (posT t a + 1)) := by rw [← List.drop_eq_getElem_cons hlt]; exact List.Pairwise.drop h
      have := (List.pairwise_cons.1 hp).1 l e1
      rw [hg] at hge
      omega
/-- A lease in place of the one of its address; a lease put in between. -/
theorem put_found {t : List L} (h : Inc t) {l : L} (h1 : posT t l.addr < t.length) (h2 : (t.getD (posT t l.addr) zeroL).addr = l.addr) : putT t l = t.take (posT t l.addr) ++ l :: t.drop (posT t l.addr + 1) := by
  unfold putT
  rw [← take_pos h]
  congr 2
  have hg : t.getD (posT t l.addr) zeroL = t[posT t l.addr] := by rw [List.getD_eq_getElem?_getD, List.getElem?_eq_getElem h1]; rfl
  have hp : Inc (t[posT t l.addr] :: t.drop (posT t l.addr + 1)) := by rw [← List.drop_eq_getElem_cons h1]; exact List.Pairwise.drop h
  have e : t = t.take (posT t l.addr) ++ t[posT t l.addr] :: t.drop (posT t l.addr + 1) := by rw [← List.drop_eq_getElem_cons h1, List.take_append_drop]
  have hl : ∀ b ∈ t.take (posT t l.addr), b.addr < l.addr := fun b hb => by
    rw [take_pos h] at hb
    simpa using (List.mem_filter.1 hb).2
  conv => lhs; rw [e]
  rw [List.filter_append, List.filter_eq_nil_iff.2 fun b hb => by have := hl b hb; simp; omega, List.filter_cons, if_neg (by rw [← hg, h2]; simp), List.nil_append]
  exact List.filter_eq_self.2 fun c hc => by
    have := (List.pairwise_cons.1 hp).1 c hc
    rw [← hg, h2] at this
    simpa using this
theorem put_between {t : List L} (h : Inc t) {l : L} (hn : ¬ (posT t l.addr < t.length ∧ (t.getD (posT t l.addr) zeroL).addr = l.addr)) : putT t l = t.take (posT t l.addr) ++ l :: t.drop (posT t l.addr) := by
  unfold putT
  rw [← take_pos h, drop_pos h]
  congr 2
  refine List.filter_congr fun b hb => ?_
  have hne : b.addr ≠ l.addr := by
    have := first_pos h l.addr
    rw [if_neg hn, first_none] at this
    exact this b hb
  rw [decide_eq_decide]
  omega
theorem found_len {t : List L} {l : L} (h1 : posT t l.addr < t.length) : (t.take (posT t l.addr) ++ l :: t.drop (posT t l.addr + 1)).length = t.length := by
  rw [List.length_append, List.length_cons, List.length_take, List.length_drop]
  omega
theorem between_len {t : List L} {l : L} : (t.take (posT t l.addr) ++ l :: t.drop (posT t l.addr)).length = t.length + 1 := by
  have := pos_le t l.addr
  rw [List.length_append, List.length_cons, List.length_take, List.length_drop]
  omega

/-! ### Set, lease by lease (the document's own way) -/
def onward (l : L) : List L → Bool → List L
  | [], put => if put then [] else [l]
  | b :: t, put => (if put = false ∧ l.addr ≤ b.addr then [l] else []) ++ ((if b.addr = l.addr then [] else [b]) ++ onward l t (put || decide (l.addr ≤ b.addr)))
theorem onward_put (l : L) : ∀ {t : List L}, (∀ b ∈ t, l.addr ≤ b.addr) → onward l t true = t.filter fun b => decide (l.addr < b.addr)
  | [], _ => rfl
  | b :: t, h => by
    have hb := h b (.head _)
    have ih := onward_put l (t := t) fun c hc => h c (.tail _ hc)
    rw [onward, Bool.true_or, ih, if_neg (by simp), List.nil_append, List.filter_cons]
    by_cases e : b.addr = l.addr
    · rw [if_pos e, if_neg (by simp; omega)]; rfl
    · rw [if_neg e, if_pos (by simp; omega)]; rfl
theorem onward_is (l : L) : ∀ {t : List L}, Inc t → onward l t false = putT t l
  | [], _ => rfl
  | b :: t, h => by
    obtain ⟨h1, h2⟩ := List.pairwise_cons.1 h
    rw [onward, Bool.false_or]
    unfold putT
    rw [List.filter_cons, List.filter_cons]
    by_cases hb : l.addr ≤ b.addr
    · have hz : ∀ c ∈ t, l.addr ≤ c.addr := fun c hc => by have := h1 c hc; omega
      have hn : (t.filter fun c => decide (c.addr < l.addr)) = [] := List.filter_eq_nil_iff.2 fun c hc k => by
        have := hz c hc
        rw [decide_eq_true_iff] at k
        omega
      rw [if_pos ⟨rfl, hb⟩, decide_eq_true hb, onward_put l hz, if_neg (show ¬ decide (b.addr < l.addr) = true by rw [decide_eq_true_iff]; omega), hn]
      by_cases e : b.addr = l.addr
      · rw [if_pos e, if_neg (show ¬ decide (l.addr < b.addr) = true by rw [decide_eq_true_iff]; omega)]; rfl
      · rw [if_neg e, if_pos (show decide (l.addr < b.addr) = true by rw [decide_eq_true_iff]; omega)]; rfl
    · have e : ¬ b.addr = l.addr := by omega
      rw [if_neg (fun k => hb k.2), decide_eq_false hb, onward_is l h2, if_neg e, if_pos (by simp; omega), if_neg (by simp; omega)]
      rfl
end Go.Proofs.Ytniocdbapkkdhaa.Tb
