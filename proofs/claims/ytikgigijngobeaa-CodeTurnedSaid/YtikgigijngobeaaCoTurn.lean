/- Plain mathematics: bits of a list of bytes turned one behind the other. No program. No conditions but those that each theorem names. -/
import Derived.Test.YtikgigijngobeaaCoMath
namespace Go.Proofs.Ytikgigijngobeaa.Co

/-- A byte with one bit turned. -/
def turnB (x : UInt8) (s : Nat) : UInt8 := UInt8.ofNat (x.toNat ^^^ 2 ^ s)
theorem turnB_toNat (x : UInt8) (s : Nat) (h : s < 8) : (turnB x s).toNat = x.toNat ^^^ 2 ^ s := by
  unfold turnB
  rw [UInt8.toNat_ofNat']
  refine Nat.mod_eq_of_lt (Nat.xor_lt_two_pow (n := 8) x.toNat_lt ?_)
  exact Nat.pow_lt_pow_right (by omega) h
def flipL (l : List UInt8) (F t : Nat) : Nat → List UInt8
  | 0 => l
  | k + 1 => if t.testBit k then (flipL l F t k).set ((F + k) / 8) (turnB ((flipL l F t k).getD ((F + k) / 8) 0) ((F + k) % 8)) else flipL l F t k
def anyB (t : Nat) : Nat → Bool
  | 0 => false
  | k + 1 => anyB t k || t.testBit k
theorem flipL_length (l : List UInt8) (F t : Nat) : ∀ k, (flipL l F t k).length = l.length
  | 0 => rfl
  | k + 1 => by
    unfold flipL
    split
    · rw [List.length_set, flipL_length l F t k]
    · exact flipL_length l F t k
theorem flipL_yes {l : List UInt8} {F t k : Nat} (h : t.testBit k = true) :
    flipL l F t (k + 1) = (flipL l F t k).set ((F + k) / 8) (turnB ((flipL l F t k).getD ((F + k) / 8) 0) ((F + k) % 8)) := by rw [flipL, if_pos h]
theorem flipL_no {l : List UInt8} {F t k : Nat} (h : t.testBit k = false) : flipL l F t (k + 1) = flipL l F t k := by rw [flipL, if_neg (by simp [h])]
theorem anyB_yes {t k : Nat} (h : t.testBit k = true) : anyB t (k + 1) = true := by simp [anyB, h]
theorem anyB_no {t k : Nat} (h : t.testBit k = false) : anyB t (k + 1) = anyB t k := by simp [anyB, h]
theorem flip_same {l : List UInt8} {F t : Nat} : ∀ k, anyB t k = false → flipL l F t k = l
  | 0, _ => rfl
  | k + 1, h => by
    unfold anyB at h
    obtain ⟨h1, h2⟩ := Bool.or_eq_false_iff.1 h
    rw [flipL_no h2, flip_same k h1]
theorem any_some {t : Nat} : ∀ k, anyB t k = true → ∃ i, i < k ∧ t.testBit i = true
  | 0, h => by cases h
  | k + 1, h => by
    unfold anyB at h
    rcases Bool.or_eq_true_iff.1 h with h1 | h1
    · obtain ⟨i, hi, hb⟩ := any_some k h1
      exact ⟨i, by omega, hb⟩
    · exact ⟨k, by omega, h1⟩
theorem bt_set (l : List UInt8) (q p : Nat) (hq : q < 8 * l.length) : bt (l.set (q / 8) (turnB (l.getD (q / 8) 0) (q % 8))) p = (bt l p ^^ decide (p = q)) := by
  unfold bt
  by_cases h : p / 8 = q / 8
  · have hlt : q / 8 < l.length := by omega
    rw [h, List.getD_eq_getElem?_getD, List.getElem?_set_self (by omega), Option.getD_some, turnB_toNat _ _ (by omega), Nat.testBit_xor, Nat.testBit_two_pow]
    congr 1
    exact decide_eq_decide.2 ⟨fun e => by omega, fun e => by rw [e]⟩
  · rw [List.getD_eq_getElem?_getD, List.getD_eq_getElem?_getD, List.getElem?_set_ne (fun e => h e.symm)]
    have : decide (p = q) = false := decide_eq_false (fun e => h (by rw [e]))
    rw [this, Bool.xor_false, List.getD_eq_getElem?_getD]
theorem bt_flip (l : List UInt8) (F t : Nat) : ∀ k, F + k ≤ 8 * l.length → ∀ p, bt (flipL l F t k) p = (bt l p ^^ (decide (F ≤ p ∧ p < F + k) && t.testBit (p - F)))
  | 0, _, p => by
    have : decide (F ≤ p ∧ p < F + 0) = false := decide_eq_false (by omega)
    rw [this]
    simp [flipL]
  | k + 1, h, p => by
    have ih := bt_flip l F t k (by omega) p
    by_cases hk : t.testBit k = true
    · rw [flipL_yes hk, bt_set _ _ _ (by rw [flipL_length]; omega), ih]
      by_cases hp : p = F + k
      · subst hp
        have h1 : decide (F ≤ F + k ∧ F + k < F + k) = false := decide_eq_false (by omega)
        have h2 : decide (F ≤ F + k ∧ F + k < F + (k + 1)) = true := decide_eq_true (by omega)
        rw [h1, h2, show F + k - F = k by omega, hk]
        simp
      · have h1 : decide (p = F + k) = false := decide_eq_false hp
        have h2 : decide (F ≤ p ∧ p < F + (k + 1)) = decide (F ≤ p ∧ p < F + k) := decide_eq_decide.2 ⟨fun e => by omega, fun e => by omega⟩
        rw [h1, h2, Bool.xor_false]
    · have hk' : t.testBit k = false := by simpa using hk
      rw [flipL_no hk', ih]
      by_cases hp : p = F + k
      · subst hp
        have h1 : decide (F ≤ F + k ∧ F + k < F + k) = false := decide_eq_false (by omega)
        rw [h1, show F + k - F = k by omega, hk']
        simp
      · have h2 : decide (F ≤ p ∧ p < F + (k + 1)) = decide (F ≤ p ∧ p < F + k) := decide_eq_decide.2 ⟨fun e => by omega, fun e => by omega⟩
        rw [h2]
theorem flip_sum {l : List UInt8} {F t k : Nat} (hk : k ≤ 32) (hF : F + k ≤ 8 * l.length) (h : anyB t k = true) : sumL (flipL l F t k) ≠ sumL l := by
  intro e
  have hb := bt_flip l F t k hF
  have hout : ∀ p, p < F ∨ F + 32 ≤ p → bt (flipL l F t k) p = bt l p := by
    intro p hp
    have : decide (F ≤ p ∧ p < F + k) = false := decide_eq_false (by omega)
    rw [hb p, this]
    simp
  have hsame := sum_burst (flipL_length l F t k) hout e
  obtain ⟨i, hi, ht⟩ := any_some k h
  have := hb (F + i)
  have h1 : decide (F ≤ F + i ∧ F + i < F + k) = true := decide_eq_true (by omega)
  rw [hsame, h1, show F + i - F = i by omega, ht] at this
  simp at this
/-- What Open answers of a frame whose bytes were turned. -/
theorem open_flip {l : List UInt8} {F t k : Nat} (hl : l.length ≤ 2000) (hk : k ≤ 32) (hF : F + k ≤ 8 * l.length) :
    openE (putL l.length 2 ++ (putL (sumL l) 4 ++ flipL l F t k)) = if anyB t k then 6 else 0 := by
  rw [open_other l _ hl (flipL_length l F t k)]
  cases h : anyB t k with
  | true => rw [if_neg (flip_sum hk hF h)]; rfl
  | false => rw [flip_same k h, if_pos rfl]; rfl
/-- A frame's bytes, one of those that it holds set. -/
theorem frame_set (a b m : List UInt8) (j : Nat) (x : UInt8) (ha : a.length = 2) (hb : b.length = 4) : (a ++ (b ++ m)).set (6 + j) x = a ++ (b ++ m.set j x) := by
  rw [List.set_append_right _ _ (by omega), List.set_append_right _ _ (by omega), ha, hb, show 6 + j - 2 - 4 = j by omega]
theorem frame_get (a b m : List UInt8) (j : Nat) (ha : a.length = 2) (hb : b.length = 4) : (a ++ (b ++ m))[6 + j]? = m[j]? := by
  rw [List.getElem?_append_right (by omega), List.getElem?_append_right (by omega), ha, hb, show 6 + j - 2 - 4 = j by omega]
end Go.Proofs.Ytikgigijngobeaa.Co
