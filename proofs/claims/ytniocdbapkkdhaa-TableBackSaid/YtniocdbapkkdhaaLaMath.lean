/- The mathematics of layer 11 (clean): the latest leases of a list, one for each address, in rising order; they are their own latest leases, and put behind the list they change nothing. No program. -/
import Derived.Test.YtniocdbapkkdhaaRcMath
namespace Go.Proofs.Ytniocdbapkkdhaa.La
open Rc

/-! ### In rising order -/
def Inc (l : List L) : Prop := l.Pairwise fun a b => a.addr < b.addr
def Apart (l : List L) : Prop := l.Pairwise fun a b => a.addr ≠ b.addr
theorem Inc.apart {l : List L} (h : Inc l) : Apart l := List.Pairwise.imp (fun {a b} k => by omega) h
/-- Lists in rising order that have the same leases are one. -/
theorem inc_ext : ∀ {l m : List L}, Inc l → Inc m → (∀ a, a ∈ l ↔ a ∈ m) → l = m
  | [], [], _, _, _ => rfl
  | [], b :: m, _, _, h => by have := (h b).2 (.head _); cases this
  | a :: l, [], _, _, h => by have := (h a).1 (.head _); cases this
  | a :: l, b :: m, hl, hm, h => by
    obtain ⟨l1, l2⟩ := List.pairwise_cons.1 hl
    obtain ⟨m1, m2⟩ := List.pairwise_cons.1 hm
    have hab : a = b := by
      rcases List.mem_cons.1 ((h a).1 (.head _)) with e | ha
      · exact e
      rcases List.mem_cons.1 ((h b).2 (.head _)) with e | hb
      · exact e.symm
      · have := m1 a ha
        have := l1 b hb
        omega
    subst hab
    rw [inc_ext l2 m2 fun c => ?_]
    constructor
    · intro hc
      rcases List.mem_cons.1 ((h c).1 (.tail _ hc)) with e | k
      · have := l1 c hc
        rw [e] at this
        omega
      · exact k
    · intro hc
      rcases List.mem_cons.1 ((h c).2 (.tail _ hc)) with e | k
      · have := m1 c hc
        rw [e] at this
        omega
      · exact k

/-! ### The latest leases -/
/-- a is the last lease of its address. -/
def IsLast (a : L) (l : List L) : Prop := ∃ p q, l = p ++ a :: q ∧ ∀ b ∈ q, b.addr ≠ a.addr
instance (a : L) (l : List L) : Decidable (∀ b ∈ l, b.addr ≠ a.addr) := inferInstance
def uniqL : List L → List L
  | [] => []
  | a :: l => if ∀ b ∈ l, b.addr ≠ a.addr then a :: uniqL l else uniqL l
def insL (a : L) : List L → List L
  | [] => [a]
  | b :: l => if a.addr ≤ b.addr then a :: b :: l else b :: insL a l
def sortL (l : List L) : List L := l.foldr insL []
def lastL (l : List L) : List L := sortL (uniqL l)

theorem last_mem {a : L} {l : List L} (h : IsLast a l) : a ∈ l := by
  obtain ⟨p, q, rfl, _⟩ := h
  exact List.mem_append_right _ (.head _)
theorem last_cons {a b : L} {l : List L} : IsLast a (b :: l) ↔ (a = b ∧ ∀ c ∈ l, c.addr ≠ b.addr) ∨ IsLast a l := by
  constructor
  · rintro ⟨p, q, e, h⟩
    cases p with
    | nil =>
      injection e with e1 e2
      subst e1 e2
      exact .inl ⟨rfl, h⟩
    | cons c p =>
      injection e with _ e2
      exact .inr ⟨p, q, e2, h⟩
  · rintro (⟨rfl, h⟩ | ⟨p, q, rfl, h⟩)
    · exact ⟨[], l, rfl, h⟩
    · exact ⟨b :: p, q, rfl, h⟩
theorem mem_uniq : ∀ {l : List L} {a : L}, a ∈ uniqL l ↔ IsLast a l
  | [], a => ⟨fun h => (by cases h), fun ⟨p, q, e, _⟩ => (by cases p <;> cases e)⟩
  | b :: l, a => by
    rw [last_cons, uniqL]
    split
    · next h =>
      rw [List.mem_cons, mem_uniq]
      constructor
      · rintro (e | k)
        · exact .inl ⟨e, h⟩
        · exact .inr k
      · rintro (⟨e, _⟩ | k)
        · exact .inl e
        · exact .inr k
    · next h =>
      rw [mem_uniq]
      constructor
      · exact .inr
      · rintro (⟨_, k⟩ | k)
        · exact absurd k h
        · exact k
theorem uniq_apart : ∀ l : List L, Apart (uniqL l)
  | [] => List.Pairwise.nil
  | b :: l => by
    rw [uniqL]
    split
    · next h => exact List.pairwise_cons.2 ⟨fun a ha k => h a (last_mem (mem_uniq.1 ha)) k.symm, uniq_apart l⟩
    · exact uniq_apart l
theorem uniq_len : ∀ l : List L, (uniqL l).length ≤ l.length
  | [] => Nat.le_refl _
  | b :: l => by
    have := uniq_len l
    rw [uniqL]
    split
    · rw [List.length_cons, List.length_cons]; omega
    · rw [List.length_cons]; omega
theorem uniq_same : ∀ {l : List L}, Apart l → uniqL l = l
  | [], _ => rfl
  | b :: l, h => by
    obtain ⟨h1, h2⟩ := List.pairwise_cons.1 h
    rw [uniqL, if_pos (fun a ha k => h1 a ha k.symm), uniq_same h2]
theorem uniq_all : ∀ {l : List L}, (uniqL l).length = l.length → Apart l
  | [], _ => List.Pairwise.nil
  | b :: l, h => by
    have h1 := uniq_len l
    rw [uniqL] at h
    split at h
    · next hf =>
      rw [List.length_cons, List.length_cons] at h
      exact List.pairwise_cons.2 ⟨fun a ha k => hf a ha k.symm, uniq_all (by omega)⟩
    · rw [List.length_cons] at h
      omega
theorem mem_ins : ∀ {l : List L} {a b : L}, b ∈ insL a l ↔ b = a ∨ b ∈ l
  | [], a, b => by simp [insL]
  | c :: l, a, b => by
    rw [insL]
    split
    · simp
    · rw [List.mem_cons, mem_ins, List.mem_cons]
      constructor
      · rintro (h | h | h)
        · exact .inr (.inl h)
        · exact .inl h
        · exact .inr (.inr h)
      · rintro (h | h | h)
        · exact .inr (.inl h)
        · exact .inl h
        · exact .inr (.inr h)
theorem ins_len : ∀ (a : L) (l : List L), (insL a l).length = l.length + 1
  | a, [] => rfl
  | a, c :: l => by
    rw [insL]
    split
    · rfl
    · rw [List.length_cons, ins_len, List.length_cons]
theorem ins_inc : ∀ {l : List L} {a : L}, Inc l → (∀ b ∈ l, a.addr ≠ b.addr) → Inc (insL a l)
  | [], a, _, _ => List.pairwise_singleton _ _
  | c :: l, a, h, hn => by
    obtain ⟨h1, h2⟩ := List.pairwise_cons.1 h
    have hc := hn c (.head _)
    rw [insL]
    split
    · next hle =>
      refine List.pairwise_cons.2 ⟨fun b hb => ?_, h⟩
      rcases List.mem_cons.1 hb with rfl | hb
      · omega
      · have := h1 b hb
        omega
    · next hle =>
      refine List.pairwise_cons.2 ⟨fun b hb => ?_, ins_inc h2 fun b hb => hn b (.tail _ hb)⟩
      rcases mem_ins.1 hb with rfl | hb
      · omega
      · exact h1 b hb
theorem mem_sort : ∀ {l : List L} {a : L}, a ∈ sortL l ↔ a ∈ l
  | [], a => Iff.rfl
  | b :: l, a => by
    show a ∈ insL b (sortL l) ↔ _
    rw [mem_ins, mem_sort, List.mem_cons]
theorem sort_len : ∀ l : List L, (sortL l).length = l.length
  | [] => rfl
  | b :: l => by
    show (insL b (sortL l)).length = _
    rw [ins_len, sort_len l, List.length_cons]
theorem sort_inc : ∀ {l : List L}, Apart l → Inc (sortL l)
  | [], _ => List.Pairwise.nil
  | b :: l, h => by
    obtain ⟨h1, h2⟩ := List.pairwise_cons.1 h
    exact ins_inc (sort_inc h2) fun a ha => h1 a (mem_sort.1 ha)
theorem last_inc (l : List L) : Inc (lastL l) := sort_inc (uniq_apart l)
theorem mem_last {l : List L} {a : L} : a ∈ lastL l ↔ IsLast a l := mem_sort.trans mem_uniq
/-- Whatever is in rising order and has just the last leases of their addresses is the latest leases. -/
theorem last_is {l m : List L} (hm : Inc m) (h : ∀ a, a ∈ m ↔ IsLast a l) : m = lastL l := inc_ext hm (last_inc l) fun a => (h a).trans mem_last.symm
theorem last_sub {l : List L} {a : L} (h : a ∈ lastL l) : a ∈ l := last_mem (mem_last.1 h)
theorem isLast_apart {l : List L} {a : L} (h : Apart l) (ha : a ∈ l) : IsLast a l := by
  rw [← mem_uniq, uniq_same h]
  exact ha
theorem last_same {l : List L} (h : Inc l) : lastL l = l := (last_is h fun _ => ⟨isLast_apart h.apart, last_mem⟩).symm
/-- P11.4. -/
theorem last_last (l : List L) : lastL (lastL l) = lastL l := last_same (last_inc l)
theorem last_any : ∀ {l : List L} {a : L}, a ∈ l → ∃ b, IsLast b l ∧ b.addr = a.addr
  | b :: l, a, h => by
    by_cases hf : ∀ c ∈ l, c.addr ≠ b.addr
    · rcases List.mem_cons.1 h with e | h
      · exact ⟨b, last_cons.2 (.inl ⟨rfl, hf⟩), by rw [e]⟩
      · obtain ⟨c, hc, e⟩ := last_any h
        exact ⟨c, last_cons.2 (.inr hc), e⟩
    · rcases List.mem_cons.1 h with e | h
      · have hx : ∃ c, c ∈ l ∧ c.addr = b.addr := by
          refine Decidable.byContradiction fun k => hf fun c hc e => k ⟨c, hc, e⟩
        obtain ⟨c, hc, ec⟩ := hx
        obtain ⟨d, hd, e2⟩ := last_any hc
        exact ⟨d, last_cons.2 (.inr hd), by rw [e2, ec, e]⟩
      · obtain ⟨c, hc, e⟩ := last_any h
        exact ⟨c, last_cons.2 (.inr hc), e⟩
theorem last_app {l m : List L} {a : L} : IsLast a (l ++ m) ↔ IsLast a m ∨ (IsLast a l ∧ ∀ b ∈ m, b.addr ≠ a.addr) := by
  induction l with
  | nil =>
    rw [List.nil_append]
    constructor
    · exact .inl
    · rintro (h | ⟨⟨p, q, e, _⟩, _⟩)
      · exact h
      · cases p <;> cases e
  | cons b l ih =>
    rw [List.cons_append, last_cons, ih, last_cons]
    constructor
    · rintro (⟨rfl, h⟩ | h | ⟨h, k⟩)
      · exact .inr ⟨.inl ⟨rfl, fun c hc => h c (List.mem_append_left _ hc)⟩, fun c hc => h c (List.mem_append_right _ hc)⟩
      · exact .inl h
      · exact .inr ⟨.inr h, k⟩
    · rintro (h | ⟨⟨rfl, h⟩ | h, k⟩)
      · exact .inr (.inl h)
      · refine .inl ⟨rfl, fun c hc => ?_⟩
        rcases List.mem_append.1 hc with hc | hc
        · exact h c hc
        · exact k c hc
      · exact .inr (.inr ⟨h, k⟩)
theorem last_behind (l : List L) : lastL (l ++ lastL l) = lastL l := by
  refine (last_is (last_inc l) fun a => ?_).symm
  rw [last_app]
  constructor
  · intro ha
    exact .inl (isLast_apart (last_inc l).apart ha)
  · rintro (h | ⟨h, k⟩)
    · exact last_mem h
    · exact absurd rfl (k a (mem_last.2 h))
theorem last_len (l : List L) : (lastL l).length ≤ l.length := by unfold lastL; rw [sort_len]; exact uniq_len l
theorem last_len_inc {l : List L} (h : (lastL l).length = l.length) : Apart l := uniq_all (by unfold lastL at h; rwa [sort_len] at h)
theorem last_right {l : List L} (h : ∀ a ∈ l, RightR a) : ∀ a ∈ lastL l, RightR a := fun a ha => h a (last_sub ha)
theorem last_short {l : List L} (h : Inc l) : (lastL l).length = l.length := by rw [last_same h]

/-! ### By choosing the least, one by one -/
/-- Where the least of the first n + 1 stands, the first of such. -/
def bestL (l : List L) : Nat → Nat
  | 0 => 0
  | n + 1 => if ((l.getD (n + 1) zeroL).addr) < ((l.getD (bestL l n) zeroL).addr) then n + 1 else bestL l n
theorem best_le (l : List L) : ∀ n, bestL l n ≤ n
  | 0 => Nat.le_refl _
  | n + 1 => by
    have := best_le l n
    rw [bestL]
    split <;> omega
theorem best_least (l : List L) : ∀ n i, i ≤ n → (l.getD (bestL l n) zeroL).addr ≤ (l.getD i zeroL).addr
  | 0, i, h => by rw [Nat.le_zero.1 h]; exact Int.le_refl _
  | n + 1, i, h => by
    rw [bestL]
    rcases Nat.lt_or_ge n i with k | k
    · obtain rfl : i = n + 1 := by omega
      split <;> omega
    · have := best_least l n i k
      split <;> omega
/-- The chosen ones and those that are left. -/
structure Sel (u out left : List L) : Prop where
  inc : Inc out
  apart : Apart left
  less : ∀ a ∈ out, ∀ b ∈ left, a.addr < b.addr
  mem : ∀ a, a ∈ out ∨ a ∈ left ↔ a ∈ u
theorem sel_start {u : List L} (h : Apart u) : Sel u [] u := ⟨List.Pairwise.nil, h, fun a ha => (by cases ha), fun a => ⟨fun k => k.elim (fun k => (by cases k)) id, .inr⟩⟩
theorem sel_end {u out : List L} (hu : Apart u) (h : Sel u out []) : out = sortL u := inc_ext h.inc (sort_inc hu) fun a => by
  rw [mem_sort, ← h.mem a]
  exact ⟨.inl, fun k => k.elim id (fun k => by cases k)⟩
theorem sel_step {u out left : List L} (h : Sel u out left) {k : Nat} {a : L} (hk : left[k]? = some a) (hb : ∀ b ∈ left, a.addr ≤ b.addr) : Sel u (out ++ [a]) (left.take k ++ left.drop (k + 1)) := by
  obtain ⟨hlt, hg⟩ := List.getElem?_eq_some_iff.1 hk
  have e : left = left.take k ++ a :: left.drop (k + 1) := by rw [← hg, ← List.drop_eq_getElem_cons hlt, List.take_append_drop]
  have hsub : (left.take k ++ left.drop (k + 1)).Sublist left := by
    conv => rhs; rw [e]
    exact List.Sublist.append (List.Sublist.refl _) (List.sublist_cons_self _ _)
  have hm : ∀ b, b ∈ left ↔ b = a ∨ b ∈ left.take k ++ left.drop (k + 1) := fun b => by
    conv => lhs; rw [e]
    rw [List.mem_append, List.mem_cons, List.mem_append]
    constructor
    · rintro (q | q | q)
      · exact .inr (.inl q)
      · exact .inl q
      · exact .inr (.inr q)
    · rintro (q | q | q)
      · exact .inr (.inl q)
      · exact .inl q
      · exact .inr (.inr q)
  have hap := h.apart
  rw [e] at hap
  have hne : ∀ b ∈ left.take k ++ left.drop (k + 1), b.addr ≠ a.addr := fun b hbm => by
    obtain ⟨_, h2, h3⟩ := List.pairwise_append.1 hap
    rcases List.mem_append.1 hbm with q | q
    · exact h3 b q a (.head _)
    · exact fun k => (List.pairwise_cons.1 h2).1 b q k.symm
  refine ⟨List.pairwise_append.2 ⟨h.inc, List.pairwise_singleton _ _, fun x hx y hy => ?_⟩, h.apart.sublist hsub, fun x hx y hy => ?_, fun x => ?_⟩
  · rw [List.mem_singleton.1 hy]
    exact h.less x hx a (List.mem_of_getElem? hk)
  · have hyl := hsub.subset hy
    rcases List.mem_append.1 hx with q | q
    · exact h.less x q y hyl
    · rw [List.mem_singleton.1 q]
      have h1 := hb y hyl
      have h2 := hne y hy
      omega
  · rw [← h.mem x, hm x, List.mem_append, List.mem_singleton]
    constructor
    · rintro ((q | q) | q)
      · exact .inl q
      · exact .inr (.inl q)
      · exact .inr (.inr q)
    · rintro (q | q | q)
      · exact .inl (.inl q)
      · exact .inl (.inr q)
      · exact .inr q
end Go.Proofs.Ytniocdbapkkdhaa.La
