/- Plain mathematics: frames one behind the other. No program. No conditions but those that each theorem names. -/
import Derived.Test.YtikgigijngobeaaCoCat
namespace Go.Proofs.Ytikgigijngobeaa
open Co By

/-- The parts that are framed: those of at most 2000 bytes. -/
def keptP (ps : List Part) : List Part := ps.filter fun p => decide (p.l.length ≤ 2000)
def allL (qs : List Part) : List UInt8 := qs.flatMap fun p => frameL p.l
def lastN (qs : List Part) : Nat := match qs.getLast? with | some p => p.l.length + 6 | none => 0
theorem kept_yes {ps : List Part} {k : Nat} (h : k < ps.length) (h2 : (ps[k]).l.length ≤ 2000) : keptP (ps.take (k + 1)) = keptP (ps.take k) ++ [ps[k]] := by
  unfold keptP
  rw [List.take_succ_eq_append_getElem h, List.filter_append]
  simp [h2]
theorem kept_no {ps : List Part} {k : Nat} (h : k < ps.length) (h2 : 2000 < (ps[k]).l.length) : keptP (ps.take (k + 1)) = keptP (ps.take k) := by
  unfold keptP
  rw [List.take_succ_eq_append_getElem h, List.filter_append]
  have : decide ((ps[k]).l.length ≤ 2000) = false := decide_eq_false (by omega)
  simp [this]
theorem kept_len (ps : List Part) (k : Nat) : (keptP (ps.take k)).length ≤ k := by
  unfold keptP
  refine Nat.le_trans (List.length_filter_le _ _) ?_
  rw [List.length_take]
  omega
theorem kept_small {ps : List Part} {p : Part} (h : p ∈ keptP ps) : p.l.length ≤ 2000 := by
  unfold keptP at h
  simpa using (List.mem_filter.1 h).2
theorem kept_mem {ps : List Part} {k : Nat} {p : Part} (h : p ∈ keptP (ps.take k)) : p ∈ ps := by
  unfold keptP at h
  exact List.mem_of_mem_take (List.mem_filter.1 h).1
theorem allL_snoc (qs : List Part) (p : Part) : allL (qs ++ [p]) = allL qs ++ frameL p.l := by simp [allL]
theorem lastN_snoc (qs : List Part) (p : Part) : lastN (qs ++ [p]) = p.l.length + 6 := by simp [lastN]
theorem allL_len (qs : List Part) (h : ∀ p ∈ qs, p.l.length ≤ 2000) : (allL qs).length ≤ 2006 * qs.length := by
  induction qs with
  | nil => simp [allL]
  | cons p qs ih =>
    have h1 := ih fun q hq => h q (.tail _ hq)
    have h2 := h p (.head _)
    simp only [allL, List.flatMap_cons, List.length_append, frameL_length, List.length_cons] at h1 ⊢
    omega
/-- What stands behind j frames. -/
theorem drop_frame {qs : List Part} {j : Nat} (h : j < qs.length) (r : List UInt8) : allL (qs.drop j) ++ r = frameL (qs[j]).l ++ (allL (qs.drop (j + 1)) ++ r) := by
  unfold allL
  rw [List.drop_eq_getElem_cons h, List.flatMap_cons, List.append_assoc]
theorem rest_next {qs : List Part} {j : Nat} (h : j < qs.length) (r : List UInt8) : (allL (qs.drop j) ++ r).drop ((qs[j]).l.length + 6) = allL (qs.drop (j + 1)) ++ r := by
  rw [drop_frame h, List.drop_append_of_le_length (by rw [frameL_length]; omega), List.drop_eq_nil_of_le (by rw [frameL_length]; omega), List.nil_append]
theorem rest_open {qs : List Part} {j : Nat} (h : j < qs.length) (h2 : (qs[j]).l.length ≤ 2000) (r : List UInt8) :
    openE (allL (qs.drop j) ++ r) = 0 ∧ heldL (allL (qs.drop j) ++ r) = (qs[j]).l ∧ valL ((allL (qs.drop j) ++ r).take 2) = (qs[j]).l.length := by
  rw [drop_frame h]
  obtain ⟨h1, h3⟩ := open_frame (qs[j]).l (allL (qs.drop (j + 1)) ++ r) h2
  exact ⟨h1, h3, (frame_parts (qs[j]).l _ h2).1⟩
/-- The last frame stands at the end of all. -/
theorem last_part {qs : List Part} (h : qs ≠ []) (h2 : ∀ p ∈ qs, p.l.length ≤ 2000) (k : Nat) (hk : k < lastN qs) :
    6 ≤ lastN qs ∧ lastN qs ≤ (allL qs).length ∧ openE (((allL qs).drop ((allL qs).length - lastN qs)).take k) = 4 := by
  obtain ⟨r, p, rfl⟩ : ∃ r p, qs = r ++ [p] := ⟨qs.dropLast, qs.getLast h, (List.dropLast_concat_getLast h).symm⟩
  rw [lastN_snoc] at hk ⊢
  rw [allL_snoc, List.length_append, frameL_length, show (allL r).length + (p.l.length + 6) - (p.l.length + 6) = (allL r).length by omega]
  refine ⟨by omega, by omega, ?_⟩
  rw [List.drop_append_of_le_length (Nat.le_refl _), List.drop_length, List.nil_append]
  exact open_part p.l k (h2 p (by simp)) hk
end Go.Proofs.Ytikgigijngobeaa
