/- Plain facts on numbers, for the layer of addresses and prefixes; no program is spoken of. No conditions. -/
import Derived.WalkKit
namespace Go.Proofs.Ytoobijefjljnjaa.Ad

/-- How many addresses a prefix of so many bits has. -/
def sz (k : Int) : Int := 2 ^ (32 - k).toNat
def rightB (a : Int) : Bool := decide (0 ≤ a ∧ a ≤ 4294967295)
def bitsB (k : Int) : Bool := decide (0 ≤ k ∧ k ≤ 32)
def fairB (b k : Int) : Bool := bitsB k && rightB b && decide (b % sz k = 0)
def hasB (b k a : Int) : Bool := fairB b k && rightB a && decide (b ≤ a ∧ a < b + sz k)
def meetB (b k c l : Int) : Bool := fairB b k && fairB c l && decide (b ≤ c + sz l - 1 ∧ c ≤ b + sz k - 1)

theorem rightB_iff {a : Int} : rightB a = true ↔ 0 ≤ a ∧ a ≤ 4294967295 := by simp [rightB]
theorem bitsB_iff {a : Int} : bitsB a = true ↔ 0 ≤ a ∧ a ≤ 32 := by simp [bitsB]
theorem fairB_iff {b k : Int} : fairB b k = true ↔ (0 ≤ k ∧ k ≤ 32) ∧ (0 ≤ b ∧ b ≤ 4294967295) ∧ b % sz k = 0 := by
  simp [fairB, rightB, bitsB, and_assoc]
theorem hasB_iff {b k a : Int} : hasB b k a = true ↔ fairB b k = true ∧ (0 ≤ a ∧ a ≤ 4294967295) ∧ (b ≤ a ∧ a < b + sz k) := by
  simp [hasB, rightB, and_assoc]
theorem meetB_iff {b k c l : Int} : meetB b k c l = true ↔ fairB b k = true ∧ fairB c l = true ∧ (b ≤ c + sz l - 1 ∧ c ≤ b + sz k - 1) := by
  simp [meetB, and_assoc]

theorem sz_nat (n : Nat) (h : n ≤ 32) : sz (32 - (n : Int)) = 2 ^ n := by
  unfold sz; congr 1; omega
theorem pow_split (m n : Nat) (h : m ≤ n) : (2 : Int) ^ n = 2 ^ m * 2 ^ (n - m) := by
  rw [← Int.pow_add]; congr 1; omega
theorem sz_pos {k : Int} : 1 ≤ sz k := by
  unfold sz
  have : (0 : Int) < 2 ^ (32 - k).toNat := Int.pow_pos (by omega)
  omega
theorem sz_le {k : Int} (h : 0 ≤ k) : sz k ≤ 4294967296 := by
  unfold sz
  rw [show (4294967296 : Int) = 2 ^ 32 from rfl, pow_split (32 - k).toNat 32 (by omega)]
  have h1 : (0 : Int) < 2 ^ (32 - k).toNat := Int.pow_pos (by omega)
  have h2 : (0 : Int) < 2 ^ (32 - (32 - k).toNat) := Int.pow_pos (by omega)
  have : (2 : Int) ^ (32 - k).toNat * 1 ≤ 2 ^ (32 - k).toNat * 2 ^ (32 - (32 - k).toNat) := Int.mul_le_mul_of_nonneg_left (by omega) (by omega)
  omega
/-- Of two prefixes the one with fewer bits has a multiple of the other one's addresses. -/
theorem sz_dvd {k l : Int} (h : k ≤ l) : sz l ∣ sz k := by
  unfold sz
  rw [pow_split (32 - l).toNat (32 - k).toNat (by omega)]
  exact Int.dvd_mul_right _ _
theorem sz_dvd_top {k : Int} (h : 0 ≤ k) : sz k ∣ 4294967296 := by
  have := sz_dvd (k := 0) (l := k) h
  rwa [show sz 0 = 4294967296 from rfl] at this

/-- A prefix ends within the addresses. -/
theorem last_le {b k : Int} (h : fairB b k = true) : b + sz k ≤ 4294967296 := by
  obtain ⟨⟨k0, k1⟩, ⟨b0, b1⟩, hm⟩ := fairB_iff.1 h
  obtain ⟨t, ht⟩ := sz_dvd_top k0
  obtain ⟨u, hu⟩ := Int.dvd_of_emod_eq_zero hm
  have hp := sz_pos (k := k)
  have : u < t := by
    have : sz k * u < sz k * t := by omega
    exact Int.lt_of_mul_lt_mul_left this (by omega)
  have : sz k * (u + 1) ≤ sz k * t := Int.mul_le_mul_of_nonneg_left (by omega) (by omega)
  rw [Int.mul_add, Int.mul_one] at this
  omega

/-- What the code asks of an address of a prefix, and what the document does. -/
theorem has_code {b k a : Int} (h : fairB b k = true) : (a - a % sz k = b) ↔ (b ≤ a ∧ a < b + sz k) := by
  obtain ⟨_, _, hm⟩ := fairB_iff.1 h
  have hp := sz_pos (k := k)
  obtain ⟨u, hu⟩ := Int.dvd_of_emod_eq_zero hm
  have h1 := Int.emod_nonneg a (b := sz k) (by omega)
  have h2 := Int.emod_lt_of_pos a (b := sz k) (by omega)
  have h3 := Int.emod_add_mul_ediv a (sz k)
  constructor
  · intro e; omega
  · rintro ⟨e1, e2⟩
    have e3 : sz k * u < sz k * (a / sz k + 1) := by rw [Int.mul_add, Int.mul_one]; omega
    have e4 : sz k * (a / sz k) < sz k * (u + 1) := by rw [Int.mul_add, Int.mul_one]; omega
    have e5 := Int.lt_of_mul_lt_mul_left e3 (by omega)
    have e6 := Int.lt_of_mul_lt_mul_left e4 (by omega)
    have e7 : u = a / sz k := by omega
    rw [← e7] at h3
    omega

/-- Two prefixes that meet: the one with fewer bits has all of the other one. -/
theorem nested {b k c l : Int} (hb : fairB b k = true) (hc : fairB c l = true) (hkl : k ≤ l) (h1 : b ≤ c + sz l - 1) (h2 : c ≤ b + sz k - 1) :
    b ≤ c ∧ c + sz l ≤ b + sz k := by
  obtain ⟨_, _, hm⟩ := fairB_iff.1 hb
  obtain ⟨_, _, hn⟩ := fairB_iff.1 hc
  have hp := sz_pos (k := l)
  obtain ⟨t, ht⟩ := sz_dvd hkl
  obtain ⟨u, hu⟩ := Int.dvd_of_emod_eq_zero hm
  obtain ⟨v, hv⟩ := Int.dvd_of_emod_eq_zero hn
  rw [ht, Int.mul_assoc] at hu
  generalize t * u = x at hu
  generalize sz l = z at *
  rw [ht] at h2 ⊢
  subst hu; subst hv
  have e1 : z * x < z * (v + 1) := by rw [Int.mul_add, Int.mul_one]; omega
  have e2 : z * v < z * (x + t) := by rw [Int.mul_add]; omega
  have e3 := Int.lt_of_mul_lt_mul_left e1 (by omega)
  have e4 := Int.lt_of_mul_lt_mul_left e2 (by omega)
  refine ⟨Int.mul_le_mul_of_nonneg_left (by omega) (by omega), ?_⟩
  have : z * (v + 1) ≤ z * (x + t) := Int.mul_le_mul_of_nonneg_left (by omega) (by omega)
  rw [Int.mul_add, Int.mul_add, Int.mul_one] at this
  omega

/-- Two prefixes meet just if one of them has the other one's base. -/
theorem meet_code {b k c l : Int} (hb : fairB b k = true) (hc : fairB c l = true) : (hasB b k c || hasB c l b) = meetB b k c l := by
  obtain ⟨_, ⟨_, _⟩, _⟩ := fairB_iff.1 hb
  obtain ⟨_, ⟨_, _⟩, _⟩ := fairB_iff.1 hc
  have p1 := sz_pos (k := k)
  have p2 := sz_pos (k := l)
  rw [Bool.eq_iff_iff, Bool.or_eq_true, hasB_iff, hasB_iff, meetB_iff]
  constructor
  · rintro (⟨_, _, _, _⟩ | ⟨_, _, _, _⟩) <;> exact ⟨hb, hc, by omega, by omega⟩
  · rintro ⟨_, _, h1, h2⟩
    rcases Int.le_total k l with hkl | hkl
    · have := nested hb hc hkl h1 h2
      exact .inl ⟨hb, ⟨by omega, by omega⟩, by omega, by omega⟩
    · have := nested hc hb hkl h2 h1
      exact .inr ⟨hc, ⟨by omega, by omega⟩, by omega, by omega⟩
end Go.Proofs.Ytoobijefjljnjaa.Ad
