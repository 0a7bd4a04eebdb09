/- Plain facts on numbers, for the layer of addresses and prefixes; no program is spoken of. No conditions. -/
import Derived.WalkKit
import Derived.Below
import Derived.Lib.Hide
section
namespace Go.Proofs.YtlefpodonkdbeaaGreat.Ad

/-- How many addresses a prefix of so many bits has. -/
def sz (k : Int) : Int := 2 ^ (32 - k).toNat
def rightB (a : Int) : Bool := decide (0 ≤ a ∧ a ≤ 4294967295)
def bitsB (k : Int) : Bool := decide (0 ≤ k ∧ k ≤ 32)
def fairB (b k : Int) : Bool := bitsB k && rightB b && decide (b % sz k = 0)
def hasB (b k a : Int) : Bool := fairB b k && rightB a && decide (b ≤ a ∧ a < b + sz k)
def meetB (b k c l : Int) : Bool := fairB b k && fairB c l && decide (b ≤ c + sz l - 1 ∧ c ≤ b + sz k - 1)

theorem rightB_iff {a : Int} : rightB a = true ↔ 0 ≤ a ∧ a ≤ 4294967295 := by simp [rightB]
theorem bitsB_iff {a : Int} : bitsB a = true ↔ 0 ≤ a ∧ a ≤ 32 := by simp [bitsB]
theorem fairB_iff {b k : Int} : fairB b k = true ↔ (0 ≤ k ∧ k ≤ 32) ∧ (0 ≤ b ∧ b ≤ 4294967295) ∧ b % sz k = 0 := by
  simp [fairB, rightB, bitsB, and_assoc]
theorem hasB_iff {b k a : Int} : hasB b k a = true ↔ fairB b k = true ∧ (0 ≤ a ∧ a ≤ 4294967295) ∧ (b ≤ a ∧ a < b + sz k) := by
  simp [hasB, rightB, and_assoc]
theorem meetB_iff {b k c l : Int} : meetB b k c l = true ↔ fairB b k = true ∧ fairB c l = true ∧ (b ≤ c + sz l - 1 ∧ c ≤ b + sz k - 1) := by
  simp [meetB, and_assoc]

theorem sz_nat (n : Nat) (h : n ≤ 32) : sz (32 - (n : Int)) = 2 ^ n := by
  unfold sz; congr 1; omega
theorem pow_split (m n : Nat) (h : m ≤ n) : (2 : Int) ^ n = 2 ^ m * 2 ^ (n - m) := by
  rw [← Int.pow_add]; congr 1; omega
theorem sz_pos {k : Int} : 1 ≤ sz k := by
  unfold sz
  have : (0 : Int) < 2 ^ (32 - k).toNat := Int.pow_pos (by omega)
  omega
theorem sz_le {k : Int} (h : 0 ≤ k) : sz k ≤ 4294967296 := by
  unfold sz
  rw [show (4294967296 : Int) = 2 ^ 32 from rfl, pow_split (32 - k).toNat 32 (by omega)]
  have h1 : (0 : Int) < 2 ^ (32 - k).toNat := Int.pow_pos (by omega)
  have h2 : (0 : Int) < 2 ^ (32 - (32 - k).toNat) := Int.pow_pos (by omega)
  have : (2 : Int) ^ (32 - k).toNat * 1 ≤ 2 ^ (32 - k).toNat * 2 ^ (32 - (32 - k).toNat) := Int.mul_le_mul_of_nonneg_left (by omega) (by omega)
  omega
/-- Of two prefixes the one with fewer bits has a multiple of the other one's addresses. -/
theorem sz_dvd {k l : Int} (h : k ≤ l) : sz l ∣ sz k := by
  unfold sz
  rw [pow_split (32 - l).toNat (32 - k).toNat (by omega)]
  exact Int.dvd_mul_right _ _
theorem sz_dvd_top {k : Int} (h : 0 ≤ k) : sz k ∣ 4294967296 := by
  have := sz_dvd (k := 0) (l := k) h
  rwa [show sz 0 = 4294967296 from rfl] at this

/-- A prefix ends within the addresses. -/
theorem last_le {b k : Int} (h : fairB b k = true) : b + sz k ≤ 4294967296 := by
  obtain ⟨⟨k0, k1⟩, ⟨b0, b1⟩, hm⟩ := fairB_iff.1 h
  obtain ⟨t, ht⟩ := sz_dvd_top k0
  obtain ⟨u, hu⟩ := Int.dvd_of_emod_eq_zero hm
  have hp := sz_pos (k := k)
  have : u < t := by
    have : sz k * u < sz k * t := by omega
    exact Int.lt_of_mul_lt_mul_left this (by omega)
  have : sz k * (u + 1) ≤ sz k * t := Int.mul_le_mul_of_nonneg_left (by omega) (by omega)
  rw [Int.mul_add, Int.mul_one] at this
  omega

/-- What the code asks of an address of a prefix, and what the document does. -/
theorem has_code {b k a : Int} (h : fairB b k = true) : (a - a % sz k = b) ↔ (b ≤ a ∧ a < b + sz k) := by
  obtain ⟨_, _, hm⟩ := fairB_iff.1 h
  have hp := sz_pos (k := k)
  obtain ⟨u, hu⟩ := Int.dvd_of_emod_eq_zero hm
  have h1 := Int.emod_nonneg a (b := sz k) (by omega)
  have h2 := Int.emod_lt_of_pos a (b := sz k) (by omega)
  have h3 := Int.emod_add_mul_ediv a (sz k)
  constructor
  · intro e; omega
  · rintro ⟨e1, e2⟩
    have e3 : sz k * u < sz k * (a / sz k + 1) := by rw [Int.mul_add, Int.mul_one]; omega
    have e4 : sz k * (a / sz k) < sz k * (u + 1) := by rw [Int.mul_add, Int.mul_one]; omega
    have e5 := Int.lt_of_mul_lt_mul_left e3 (by omega)
    have e6 := Int.lt_of_mul_lt_mul_left e4 (by omega)
    have e7 : u = a / sz k := by omega
    rw [← e7] at h3
    omega

/-- Two prefixes that meet: the one with fewer bits has all of the other one. -/
theorem nested {b k c l : Int} (hb : fairB b k = true) (hc : fairB c l = true) (hkl : k ≤ l) (h1 : b ≤ c + sz l - 1) (h2 : c ≤ b + sz k - 1) :
    b ≤ c ∧ c + sz l ≤ b + sz k := by
  obtain ⟨_, _, hm⟩ := fairB_iff.1 hb
  obtain ⟨_, _, hn⟩ := fairB_iff.1 hc
  have hp := sz_pos (k := l)
  obtain ⟨t, ht⟩ := sz_dvd hkl
  obtain ⟨u, hu⟩ := Int.dvd_of_emod_eq_zero hm
  obtain ⟨v, hv⟩ := Int.dvd_of_emod_eq_zero hn
  rw [ht, Int.mul_assoc] at hu
  generalize t * u = x at hu
  generalize sz l = z at *
  rw [ht] at h2 ⊢
  subst hu; subst hv
  have e1 : z * x < z * (v + 1) := by rw [Int.mul_add, Int.mul_one]; omega
  have e2 : z * v < z * (x + t) := by rw [Int.mul_add]; omega
  have e3 := Int.lt_of_mul_lt_mul_left e1 (by omega)
  have e4 := Int.lt_of_mul_lt_mul_left e2 (by omega)
  refine ⟨Int.mul_le_mul_of_nonneg_left (by omega) (by omega), ?_⟩
  have : z * (v + 1) ≤ z * (x + t) := Int.mul_le_mul_of_nonneg_left (by omega) (by omega)
  rw [Int.mul_add, Int.mul_add, Int.mul_one] at this
  omega

/-- Two prefixes meet just if one of them has the other one's base. -/
theorem meet_code {b k c l : Int} (hb : fairB b k = true) (hc : fairB c l = true) : (hasB b k c || hasB c l b) = meetB b k c l := by
  obtain ⟨_, ⟨_, _⟩, _⟩ := fairB_iff.1 hb
  obtain ⟨_, ⟨_, _⟩, _⟩ := fairB_iff.1 hc
  have p1 := sz_pos (k := k)
  have p2 := sz_pos (k := l)
  rw [Bool.eq_iff_iff, Bool.or_eq_true, hasB_iff, hasB_iff, meetB_iff]
  constructor
  · rintro (⟨_, _, _, _⟩ | ⟨_, _, _, _⟩) <;> exact ⟨hb, hc, by omega, by omega⟩
  · rintro ⟨_, _, h1, h2⟩
    rcases Int.le_total k l with hkl | hkl
    · have := nested hb hc hkl h1 h2
      exact .inl ⟨hb, ⟨by omega, by omega⟩, by omega, by omega⟩
    · have := nested hc hb hkl h2 h1
      exact .inr ⟨hc, ⟨by omega, by omega⟩, by omega, by omega⟩
end Go.Proofs.YtlefpodonkdbeaaGreat.Ad
end
/- Plain mathematics of layer 2: numbers in bytes, the CRC-32 bit by bit, and that a burst of at most 32 bits turns it. No program. No conditions but those that each theorem names. -/
section
namespace Go.Proofs.YtlefpodonkdbeaaGreat.Co

/-! ### Numbers in bytes -/
def byteV (v : Nat) : UInt8 := UInt8.ofNat (v % 256)
theorem byteV_toNat (v : Nat) : (byteV v).toNat = v % 256 := by
  unfold byteV
  rw [UInt8.toNat_ofNat']
  omega
/-- 256 to the n-th. -/
def p256 (n : Nat) : Nat := 256 ^ n
theorem p256_succ (n : Nat) : p256 (n + 1) = p256 n * 256 := Nat.pow_succ 256 n
theorem p256_le {m n : Nat} (h : m ≤ n) : p256 m ≤ p256 n := Nat.pow_le_pow_right (by omega) h
theorem p256_two (n : Nat) : p256 n = 2 ^ (8 * n) := by
  have h : (2 : Nat) ^ 8 = 256 := by decide
  unfold p256
  rw [Nat.pow_mul, h]
def putL : Nat → Nat → List UInt8
  | _, 0 => []
  | v, n + 1 => putL (v / 256) n ++ [byteV v]
theorem putL_length : ∀ (n v : Nat), (putL v n).length = n
  | 0, _ => rfl
  | n + 1, v => by simp [putL, putL_length n]
def valL (l : List UInt8) : Nat := l.foldl (fun a b => a * 256 + b.toNat) 0
theorem valL_snoc (l : List UInt8) (b : UInt8) : valL (l ++ [b]) = valL l * 256 + b.toNat := by simp [valL]
theorem valL_nil : valL [] = 0 := rfl
theorem valL_putL : ∀ (n v : Nat), v < p256 n → valL (putL v n) = v
  | 0, v, h => by simp [p256] at h; subst h; rfl
  | n + 1, v, h => by
    rw [putL, valL_snoc, valL_putL n (v / 256) (by rw [p256_succ] at h; omega), byteV_toNat]
    omega
theorem foldl_val_lt : ∀ (l : List UInt8) (a : Nat), l.foldl (fun a b => a * 256 + b.toNat) a < (a + 1) * 256 ^ l.length
  | [], a => by simp
  | b :: l, a => by
    simp only [List.foldl_cons, List.length_cons]
    have h := foldl_val_lt l (a * 256 + b.toNat)
    have hb := b.toNat_lt
    refine Nat.lt_of_lt_of_le h ?_
    rw [Nat.pow_succ, Nat.mul_comm (256 ^ l.length) 256, ← Nat.mul_assoc]
    exact Nat.mul_le_mul_right _ (by omega)
theorem valL_lt (l : List UInt8) : valL l < p256 l.length := by
  unfold valL p256
  simpa using foldl_val_lt l 0
theorem putL_valL : ∀ (n : Nat) (l : List UInt8), l.length = n → putL (valL l) n = l
  | 0, l, h => by simp [List.length_eq_zero_iff.1 h, putL]
  | n + 1, l, h => by
    obtain ⟨r, b, rfl⟩ : ∃ r b, l = r ++ [b] := ⟨l.dropLast, l.getLast (by intro e; simp [e] at h), (List.dropLast_concat_getLast _).symm⟩
    have hb := b.toNat_lt
    rw [valL_snoc, putL, show (valL r * 256 + b.toNat) / 256 = valL r by omega, putL_valL n r (by simpa using h)]
    congr 1
    unfold byteV
    rw [show (valL r * 256 + b.toNat) % 256 = b.toNat by omega, UInt8.ofNat_toNat]

theorem putL_cons : ∀ (k v : Nat), putL v (k + 1) = byteV (v / p256 k) :: putL v k
  | 0, v => by simp [putL, p256]
  | k + 1, v => by
    rw [putL, putL_cons k (v / 256), Nat.div_div_eq_div_mul, Nat.mul_comm 256, ← p256_succ]
    rfl
/-- Bytes that were noughts, the last k of them written. -/
def partL (v n k : Nat) : List UInt8 := List.replicate (n - k) 0 ++ putL v k
theorem partL_length {v n k : Nat} (h : k ≤ n) : (partL v n k).length = n := by simp [partL, putL_length]; omega
theorem partL_next {v n k : Nat} (h : k < n) : (partL v n k).set (n - 1 - k) (byteV (v / p256 k)) = partL v n (k + 1) := by
  unfold partL
  rw [putL_cons, show n - k = (n - (k + 1)) + 1 by omega, List.replicate_succ', List.append_assoc, List.set_append_right _ _ (by simp; omega)]
  simp
  rw [show n - 1 - k - (n - (k + 1)) = 0 by omega]
  rfl
theorem partL_all (v n : Nat) : partL v n n = putL v n := by simp [partL]

/-! ### The CRC-32 -/
theorem xor_cancel {a b c : Nat} (h : a ^^^ b = a ^^^ c) : b = c := by
  have := congrArg (a ^^^ ·) h
  simpa only [← Nat.xor_assoc, Nat.xor_self, Nat.zero_xor] using this
theorem xor_cancel' {a b c : Nat} (h : b ^^^ a = c ^^^ a) : b = c := xor_cancel (a := a) (by rw [Nat.xor_comm, h, Nat.xor_comm])
theorem xor_even (x y : Nat) : (x ^^^ 2 * y) % 2 = x % 2 := by
  have h := @Nat.xor_mod_two_eq_one x (2 * y)
  have : 2 * y % 2 = 0 := by omega
  simp only [this] at h
  by_cases e : x % 2 = 1
  · rw [e]; exact h.2 (by simp [e])
  · have h1 : ¬ (x ^^^ 2 * y) % 2 = 1 := fun k => (h.1 k) (by simp [e])
    omega
def polyN : Nat := 0xedb88320
def stepN (c : Nat) : Nat := if c % 2 = 1 then (c / 2) ^^^ polyN else c / 2
def stepsN : Nat → Nat → Nat
  | 0, c => c
  | n + 1, c => stepsN n (stepN c)
theorem stepsN_add : ∀ (m n c : Nat), stepsN (m + n) c = stepsN n (stepsN m c)
  | 0, n, c => by rw [Nat.zero_add]; rfl
  | m + 1, n, c => by
    rw [show m + 1 + n = (m + n) + 1 by omega]
    exact stepsN_add m n (stepN c)
theorem stepsN_succ (n c : Nat) : stepsN (n + 1) c = stepN (stepsN n c) := stepsN_add n 1 c
theorem stepN_lt (c : Nat) (h : c < 4294967296) : stepN c < 4294967296 := by
  unfold stepN
  split
  · exact Nat.xor_lt_two_pow (n := 32) (by omega) (by decide)
  · omega
theorem stepsN_lt : ∀ (n c : Nat), c < 4294967296 → stepsN n c < 4294967296
  | 0, _, h => h
  | n + 1, c, h => stepsN_lt n _ (stepN_lt c h)
theorem stepN_xor2 (x y : Nat) : stepN (x ^^^ 2 * y) = stepN x ^^^ y := by
  have h1 := xor_even x y
  have h2 : (x ^^^ 2 * y) / 2 = x / 2 ^^^ y := by
    rw [Nat.xor_div_two]
    congr 1
    omega
  unfold stepN
  rw [h1, h2]
  split
  · rw [Nat.xor_assoc, Nat.xor_comm y, Nat.xor_assoc]
  · rfl
theorem stepN_top (c : Nat) (h : c < 4294967296) : (stepN c).testBit 31 = decide (c % 2 = 1) := by
  have h31 : (c / 2).testBit 31 = false := Nat.testBit_lt_two_pow (by omega)
  unfold stepN
  split
  · next e => rw [Nat.testBit_xor, h31]; simp [e, polyN, Nat.testBit]
  · next e => rw [h31]; simp [e]
theorem stepN_inj {a b : Nat} (ha : a < 4294967296) (hb : b < 4294967296) (h : stepN a = stepN b) : a = b := by
  have ht := stepN_top a ha
  rw [h, stepN_top b hb] at ht
  have hm : a % 2 = 1 ↔ b % 2 = 1 := by
    exact (decide_eq_decide.1 ht).symm
  have hd : a / 2 = b / 2 := by
    unfold stepN at h
    by_cases e : a % 2 = 1
    · rw [if_pos e, if_pos (hm.1 e)] at h
      exact xor_cancel' h
    · rw [if_neg e, if_neg (fun k => e (hm.2 k))] at h
      exact h
  omega
theorem stepsN_inj : ∀ (n : Nat) {a b : Nat}, a < 4294967296 → b < 4294967296 → stepsN n a = stepsN n b → a = b
  | 0, _, _, _, _, h => h
  | n + 1, _, _, ha, hb, h => stepN_inj ha hb (stepsN_inj n (stepN_lt _ ha) (stepN_lt _ hb) h)
/-- The sum's state behind bytes. -/
def crcFrom (c : Nat) (l : List UInt8) : Nat := l.foldl (fun c b => stepsN 8 (c ^^^ b.toNat)) c
def sumL (l : List UInt8) : Nat := crcFrom 4294967295 l ^^^ 4294967295
theorem xor_byte_lt (c : Nat) (b : UInt8) (h : c < 4294967296) : c ^^^ b.toNat < 4294967296 :=
  Nat.xor_lt_two_pow (n := 32) (by omega) (by have := b.toNat_lt; omega)
theorem crcFrom_lt : ∀ (l : List UInt8) (c : Nat), c < 4294967296 → crcFrom c l < 4294967296
  | [], _, h => h
  | b :: l, c, h => crcFrom_lt l _ (stepsN_lt 8 _ (xor_byte_lt c b h))
theorem crcFrom_snoc (c : Nat) (l : List UInt8) (b : UInt8) : crcFrom c (l ++ [b]) = stepsN 8 (crcFrom c l ^^^ b.toNat) := by simp [crcFrom]
theorem sumL_lt (l : List UInt8) : sumL l < 4294967296 := Nat.xor_lt_two_pow (n := 32) (by have := crcFrom_lt l 4294967295 (by omega); omega) (by omega)
theorem xor_ones {a b : Nat} (h : a ^^^ 4294967295 = b ^^^ 4294967295) : a = b := xor_cancel' h

/-! ### Bit by bit -/
def bitN (b : Bool) : Nat := if b then 1 else 0
def run1 (f : Nat → Bool) : Nat → Nat → Nat → Nat
  | _, 0, d => d
  | p, n + 1, d => run1 f (p + 1) n (stepN (d ^^^ bitN (f p)))
def numF (f : Nat → Bool) : Nat → Nat → Nat
  | _, 0 => 0
  | p, n + 1 => bitN (f p) ^^^ 2 * numF f (p + 1) n
theorem numF_lt (f : Nat → Bool) : ∀ (n p : Nat), numF f p n < 2 ^ n
  | 0, _ => by simp [numF]
  | n + 1, p => by
    have := numF_lt f n (p + 1)
    unfold numF
    refine Nat.xor_lt_two_pow ?_ (by rw [Nat.pow_succ]; omega)
    have : 0 < 2 ^ n := Nat.two_pow_pos n
    unfold bitN
    rw [Nat.pow_succ]
    split <;> omega
theorem run1_steps (f : Nat → Bool) : ∀ (n p d : Nat), run1 f p n d = stepsN n (d ^^^ numF f p n)
  | 0, _, d => by simp [run1, stepsN, numF]
  | n + 1, p, d => by
    unfold run1 numF stepsN
    rw [run1_steps f n, ← Nat.xor_assoc, stepN_xor2]
theorem run1_add (f : Nat → Bool) : ∀ (m n p d : Nat), run1 f p (m + n) d = run1 f (p + m) n (run1 f p m d)
  | 0, n, p, d => by simp [run1]
  | m + 1, n, p, d => by
    rw [show m + 1 + n = (m + n) + 1 by omega]
    show run1 f (p + 1) (m + n) _ = run1 f (p + (m + 1)) n (run1 f (p + 1) m _)
    rw [run1_add f m n, show p + 1 + m = p + (m + 1) by omega]
theorem bitN_lt (b : Bool) : bitN b < 4294967296 := by unfold bitN; split <;> omega
theorem run1_lt (f : Nat → Bool) : ∀ (n p d : Nat), d < 4294967296 → run1 f p n d < 4294967296
  | 0, _, _, h => h
  | n + 1, p, d, h => run1_lt f n _ _ (stepN_lt _ (Nat.xor_lt_two_pow (n := 32) (by omega) (by have := bitN_lt (f p); omega)))
theorem run1_inj (f : Nat → Bool) : ∀ (n p : Nat) {a b : Nat}, a < 4294967296 → b < 4294967296 → run1 f p n a = run1 f p n b → a = b
  | 0, _, _, _, _, _, h => h
  | n + 1, p, a, b, ha, hb, h => by
    have hx : ∀ x, x < 4294967296 → x ^^^ bitN (f p) < 4294967296 := fun x hx => Nat.xor_lt_two_pow (n := 32) (by omega) (by have := bitN_lt (f p); omega)
    have h1 := run1_inj f n (p + 1) (stepN_lt _ (hx a ha)) (stepN_lt _ (hx b hb)) h
    exact xor_cancel' (stepN_inj (hx a ha) (hx b hb) h1)
theorem run1_congr {f g : Nat → Bool} : ∀ (n p d : Nat), (∀ i, i < n → f (p + i) = g (p + i)) → run1 f p n d = run1 g p n d
  | 0, _, _, _ => rfl
  | n + 1, p, d, h => by
    unfold run1
    have h0 := h 0 (by omega)
    rw [Nat.add_zero] at h0
    rw [h0]
    exact run1_congr n (p + 1) _ fun i hi => by
      have := h (i + 1) (by omega)
      rwa [show p + 1 + i = p + (i + 1) by omega]
theorem numF_inj {f g : Nat → Bool} : ∀ (n p : Nat), numF f p n = numF g p n → ∀ i, i < n → f (p + i) = g (p + i)
  | 0, _, _, _, hi => by omega
  | n + 1, p, h, i, hi => by
    unfold numF at h
    have h1 := congrArg (· % 2) h
    have h2 := congrArg (· / 2) h
    simp only [xor_even, Nat.xor_div_two] at h1 h2
    have e0 : f p = g p := by
      unfold bitN at h1
      cases hf : f p <;> cases hg : g p <;> simp [hf, hg] at h1 ⊢
    have e1 : numF f (p + 1) n = numF g (p + 1) n := by
      rw [e0] at h2
      have := xor_cancel h2
      omega
    match i with
    | 0 => simpa using e0
    | i + 1 =>
      have := numF_inj n (p + 1) e1 i (by omega)
      rwa [show p + 1 + i = p + (i + 1) by omega] at this
/-- Bits of two streams that differ within 32 places at most: the same state behind them only if they are the same. -/
theorem burst {f g : Nat → Bool} {N first k c : Nat} (hc : c < 4294967296) (hk : k ≤ 32) (hN : first + k ≤ N) (hout : ∀ p, p < first ∨ first + k ≤ p → f p = g p)
    (h : run1 f 0 N c = run1 g 0 N c) : ∀ p, f p = g p := by
  have e : N = first + (k + (N - first - k)) := by omega
  rw [e, run1_add f, run1_add g, run1_add f, run1_add g] at h
  simp only [Nat.zero_add] at h
  have e1 : run1 f 0 first c = run1 g 0 first c := run1_congr first 0 c fun i hi => hout _ (by omega)
  rw [e1] at h
  generalize hd : run1 g 0 first c = d at h
  have hdl : d < 4294967296 := by rw [← hd]; exact run1_lt g _ _ _ hc
  have e2 : ∀ x, run1 f (first + k) (N - first - k) x = run1 g (first + k) (N - first - k) x := fun x => run1_congr _ _ x fun i _ => hout _ (by omega)
  rw [e2] at h
  have e3 := run1_inj g _ _ (run1_lt f k first d hdl) (run1_lt g k first d hdl) h
  rw [run1_steps, run1_steps] at e3
  have hn : ∀ (u : Nat → Bool), numF u first k < 4294967296 := fun u => Nat.lt_of_lt_of_le (numF_lt u k first) (by
    have := Nat.pow_le_pow_right (n := 2) (by omega) hk
    simpa using this)
  have hx : ∀ (u : Nat → Bool), d ^^^ numF u first k < 4294967296 := fun u => Nat.xor_lt_two_pow (n := 32) (by omega) (by have := hn u; omega)
  have e4 := xor_cancel (stepsN_inj k (hx f) (hx g) e3)
  intro p
  by_cases hp : p < first ∨ first + k ≤ p
  · exact hout p hp
  · have := numF_inj k first e4 (p - first) (by omega)
    rwa [show first + (p - first) = p by omega] at this

/-! ### Bytes as bits, the lowest one of a byte first -/
def bt (l : List UInt8) (p : Nat) : Bool := (l.getD (p / 8) 0).toNat.testBit (p % 8)
theorem numF_byte : ∀ (n x p : Nat) (f : Nat → Bool), x < 2 ^ n → (∀ i, i < n → f (p + i) = x.testBit i) → numF f p n = x
  | 0, x, _, _, h, _ => by simp at h; simp [numF, h]
  | n + 1, x, p, f, h, hf => by
    have h0 := hf 0 (by omega)
    rw [Nat.add_zero] at h0
    have ih := numF_byte n (x / 2) (p + 1) f (by rw [Nat.pow_succ] at h; omega) fun i hi => by
      have := hf (i + 1) (by omega)
      rw [show p + 1 + i = p + (i + 1) by omega, this, Nat.testBit_succ]
    unfold numF
    rw [ih, h0]
    unfold bitN
    apply Nat.eq_of_testBit_eq
    intro i
    rw [Nat.testBit_xor]
    cases i with
    | zero =>
      rw [Nat.testBit_zero, Nat.testBit_zero, Nat.testBit_zero]
      by_cases e : x % 2 = 1 <;> simp [e] 
    | succ i =>
      rw [Nat.testBit_succ, Nat.testBit_succ, Nat.testBit_succ, show 2 * (x / 2) / 2 = x / 2 by omega]
      split <;> simp
theorem crc_bits : ∀ (l : List UInt8) (c : Nat), crcFrom c l = run1 (bt l) 0 (8 * l.length) c := by
  intro l
  suffices h : ∀ (n : Nat), n ≤ l.length → ∀ c, crcFrom c (l.take n) = run1 (bt l) 0 (8 * n) c by
    intro c
    have := h l.length (Nat.le_refl _) c
    rwa [List.take_length] at this
  intro n
  induction n with
  | zero => intro _ c; simp [crcFrom, run1]
  | succ n ih =>
    intro hn c
    rw [List.take_succ_eq_append_getElem (by omega), crcFrom_snoc, ih (by omega), show 8 * (n + 1) = 8 * n + 8 by omega, run1_add, run1_steps (bt l) 8]
    congr 2
    rw [Nat.zero_add]
    symm
    apply numF_byte 8 _ _ _ (by have := (l[n]).toNat_lt; omega)
    intro i hi
    unfold bt
    rw [show (8 * n + i) / 8 = n by omega, show (8 * n + i) % 8 = i by omega, List.getD_eq_getElem?_getD, List.getElem?_eq_getElem (by omega), Option.getD_some]
theorem bt_ext {a b : List UInt8} (hl : a.length = b.length) (h : ∀ p, bt a p = bt b p) : a = b := by
  apply List.ext_getElem hl
  intro i h1 h2
  apply UInt8.toNat_inj.1
  apply Nat.eq_of_testBit_eq
  intro s
  by_cases hs : s < 8
  · have := h (8 * i + s)
    unfold bt at this
    rw [show (8 * i + s) / 8 = i by omega, show (8 * i + s) % 8 = s by omega] at this
    simpa [List.getD_eq_getElem?_getD, h1, h2] using this
  · rw [Nat.testBit_lt_two_pow (Nat.lt_of_lt_of_le (a[i]).toNat_lt (Nat.pow_le_pow_right (n := 2) (by omega) (by omega : 8 ≤ s))), Nat.testBit_lt_two_pow (Nat.lt_of_lt_of_le (b[i]).toNat_lt (Nat.pow_le_pow_right (n := 2) (by omega) (by omega : 8 ≤ s)))]
/-- P2.7's mathematics: bytes that differ within 32 consecutive bits have different sums. -/
theorem sum_burst {a b : List UInt8} {first : Nat} (hl : a.length = b.length) (hout : ∀ p, p < first ∨ first + 32 ≤ p → bt a p = bt b p) (h : sumL a = sumL b) : a = b := by
  have h1 := xor_ones h
  rw [crc_bits, crc_bits, hl] at h1
  by_cases hf : first ≤ 8 * b.length
  · have hz : ∀ p, 8 * b.length ≤ p → bt a p = bt b p := by
      intro p hp
      unfold bt
      rw [List.getD_eq_getElem?_getD, List.getD_eq_getElem?_getD, List.getElem?_eq_none (by omega), List.getElem?_eq_none (by omega)]
    have hk : ∃ k, k ≤ 32 ∧ first + k ≤ 8 * b.length ∧ ∀ p, p < first ∨ first + k ≤ p → bt a p = bt b p := by
      by_cases e : first + 32 ≤ 8 * b.length
      · exact ⟨32, Nat.le_refl _, e, hout⟩
      · exact ⟨8 * b.length - first, by omega, by omega, fun p hp => hp.elim (fun h => hout p (.inl h)) (fun h => hz p (by omega))⟩
    obtain ⟨k, hk1, hk2, hk3⟩ := hk
    exact bt_ext hl (burst (by omega) hk1 hk2 hk3 h1)
  · refine bt_ext hl fun p => ?_
    by_cases hp : p < first
    · exact hout p (.inl hp)
    · unfold bt
      rw [List.getD_eq_getElem?_getD, List.getD_eq_getElem?_getD, List.getElem?_eq_none (by omega), List.getElem?_eq_none (by omega)]

/-! ### Frames -/
def frameL (l : List UInt8) : List UInt8 := putL l.length 2 ++ (putL (sumL l) 4 ++ l)
theorem frameL_length (l : List UInt8) : (frameL l).length = l.length + 6 := by simp [frameL, putL_length]; omega
/-- What Open answers: the error, and how many bytes the frame holds. -/
def openE (b : List UInt8) : Nat :=
  if b.length < 6 then 4 else if 2000 < valL (b.take 2) then 2 else if b.length < 6 + valL (b.take 2) then 4 else
  if sumL ((b.drop 6).take (valL (b.take 2))) = valL ((b.drop 2).take 4) then 0 else 6
def heldL (b : List UInt8) : List UInt8 := (b.drop 6).take (valL (b.take 2))
theorem frame_parts (l r : List UInt8) (h : l.length ≤ 2000) :
    valL ((frameL l ++ r).take 2) = l.length ∧ valL (((frameL l ++ r).drop 2).take 4) = sumL l ∧ ((frameL l ++ r).drop 6).take l.length = l := by
  have h2 := putL_length 2 l.length
  have h4 := putL_length 4 (sumL l)
  have hs := sumL_lt l
  refine ⟨?_, ?_, ?_⟩
  · rw [frameL, List.append_assoc, List.take_append_of_le_length (by omega), List.take_of_length_le (by omega), valL_putL 2 _ (by show _ < 65536; omega)]
  · rw [frameL, List.append_assoc, List.drop_append_of_le_length (by omega), List.drop_eq_nil_of_le (by omega), List.nil_append, List.append_assoc, List.take_append_of_le_length (by omega), List.take_of_length_le (by omega), valL_putL 4 _ (by show _ < 4294967296; omega)]
  · rw [frameL, List.append_assoc, List.append_assoc, ← List.append_assoc, List.drop_append, List.drop_eq_nil_of_le (by simp; omega), List.nil_append, List.length_append, h2, h4, Nat.sub_self, List.drop_zero, List.take_append_of_le_length (by omega), List.take_length]
theorem open_frame (l r : List UInt8) (h : l.length ≤ 2000) : openE (frameL l ++ r) = 0 ∧ heldL (frameL l ++ r) = l := by
  obtain ⟨h1, h2, h3⟩ := frame_parts l r h
  have hl := frameL_length l
  unfold openE heldL
  rw [h1, h2, h3, List.length_append, hl]
  refine ⟨?_, rfl⟩
  rw [if_neg (by omega), if_neg (by omega), if_neg (by omega), if_pos rfl]
/-- A beginning of a frame, not the whole: more is wanted. -/
theorem open_part (l : List UInt8) (k : Nat) (h : l.length ≤ 2000) (hk : k < l.length + 6) : openE ((frameL l).take k) = 4 := by
  have hl := frameL_length l
  have hlen : ((frameL l).take k).length = k := by rw [List.length_take]; omega
  unfold openE
  rw [hlen]
  by_cases h6 : k < 6
  · rw [if_pos h6]
  · have h1 := (frame_parts l [] h).1
    rw [List.append_nil] at h1
    rw [if_neg h6, List.take_take, Nat.min_eq_left (by omega), h1, if_neg (by omega), if_pos (by omega)]
/-- A frame whose bytes are other ones of the same number. -/
theorem open_other (l m : List UInt8) (h : l.length ≤ 2000) (hm : m.length = l.length) :
    openE (putL l.length 2 ++ (putL (sumL l) 4 ++ m)) = if sumL m = sumL l then 0 else 6 := by
  have h2 := putL_length 2 l.length
  have h4 := putL_length 4 (sumL l)
  have hs := sumL_lt l
  have e1 : valL ((putL l.length 2 ++ (putL (sumL l) 4 ++ m)).take 2) = l.length := by
    rw [List.take_append_of_le_length (by omega), List.take_of_length_le (by omega), valL_putL 2 _ (by show _ < 65536; omega)]
  have e2 : valL (((putL l.length 2 ++ (putL (sumL l) 4 ++ m)).drop 2).take 4) = sumL l := by
    rw [List.drop_append_of_le_length (by omega), List.drop_eq_nil_of_le (by omega), List.nil_append, List.take_append_of_le_length (by omega), List.take_of_length_le (by omega), valL_putL 4 _ (by show _ < 4294967296; omega)]
  have e3 : ((putL l.length 2 ++ (putL (sumL l) 4 ++ m)).drop 6).take l.length = m := by
    rw [← List.append_assoc, List.drop_append, List.drop_eq_nil_of_le (by simp; omega), List.nil_append, List.length_append, h2, h4, Nat.sub_self, List.drop_zero, List.take_of_length_le (by omega)]
  unfold openE
  rw [e1, e2, e3]
  have e4 : (putL l.length 2 ++ (putL (sumL l) 4 ++ m)).length = l.length + 6 := by simp [h2, h4]; omega
  rw [e4, if_neg (by omega), if_neg (by omega), if_neg (by omega)]
/-- The document's own test of a frame: is it the frame of the bytes that it holds? -/
theorem frame_test (b : List UInt8) (n : Nat) (hn : n = valL (b.take 2)) (h2000 : n ≤ 2000) (hb : 6 + n ≤ b.length) :
    frameL ((b.drop 6).take n) = b.take (6 + n) ↔ sumL ((b.drop 6).take n) = valL ((b.drop 2).take 4) := by
  have hl : ((b.drop 6).take n).length = n := by rw [List.length_take, List.length_drop]; omega
  have hb1 : b.take (6 + n) = b.take 2 ++ ((b.drop 2).take 4 ++ (b.drop 6).take n) := by
    rw [show 6 + n = 2 + (4 + n) by omega, List.take_add, List.take_add, List.drop_drop]
  have hp : putL n 2 = b.take 2 := by rw [hn]; exact putL_valL 2 _ (by rw [List.length_take]; omega)
  have hl4 : ((b.drop 2).take 4).length = 4 := by rw [List.length_take, List.length_drop]; omega
  rw [hb1, frameL, hl, hp, List.append_cancel_left_eq, List.append_cancel_right_eq]
  constructor
  · intro h
    rw [← h, valL_putL 4 _ (by show _ < 4294967296; exact sumL_lt _)]
  · intro h
    rw [h]
    exact putL_valL 4 _ hl4
end Go.Proofs.YtlefpodonkdbeaaGreat.Co
end
/- Options as lists: which are right, what is found, written, joined and read. Plain mathematics, no program. -/
section
namespace Go.Proofs.YtlefpodonkdbeaaGreat.Tl

abbrev O := Int × List UInt8
def codesL (l : List O) : List Int := l.map (·.1)
def fitO (o : O) : Bool := decide (1 ≤ o.1) && (decide (o.1 ≤ 254) && decide (o.2.length ≤ 600))
def rightL (l : List O) : Bool := decide (l.length ≤ 60) && (l.all fitO && decide (codesL l).Nodup)
def hasL (l : List O) (c : Int) : Nat := (codesL l).count c
def placeN : List O → Int → Nat
  | [], _ => 0
  | o :: l, c => if o.1 = c then 0 else placeN l c + 1
def placeL (l : List O) (c : Int) : Int := if c ∈ codesL l then (placeN l c : Nat) else -1
def findL (l : List O) (c : Int) : Option (List UInt8) := (l.find? fun o => o.1 == c).map (·.2)
def joinO (c : Int) (d : List UInt8) (o : O) : O := if o.1 = c then (o.1, o.2 ++ d) else o
def joinedL (l : List O) (c : Int) (d : List UInt8) : List O := l.map (joinO c d) ++ (if c ∈ codesL l then [] else [(c, d)])
def joinAll (l m : List O) : List O := m.foldl (fun a o => joinedL a o.1 o.2) l
def joinL (l m : List O) : List O × Int := if rightL l = true ∧ rightL m = true then (if rightL (joinAll l m) = true then (joinAll l m, 0) else ([], 3)) else ([], 1)
def codeB (c : Int) : UInt8 := UInt8.ofNat c.toNat
def oneL (c : Int) (d : List UInt8) : List UInt8 :=
  if _h : d.length ≤ 255 then codeB c :: UInt8.ofNat d.length :: d else codeB c :: 255 :: (d.take 255 ++ oneL c (d.drop 255))
termination_by d.length
decreasing_by rw [List.length_drop]; omega
def bodyL (l : List O) : List UInt8 := l.flatMap fun o => oneL o.1 o.2
def writeL (l : List O) : List UInt8 := bodyL l ++ [255]
def readF : Nat → List O → List UInt8 → List O × Int
  | 0, l, _ => (l, 0)
  | _ + 1, l, [] => (l, 0)
  | f + 1, l, c :: t =>
    if c = 255 then (l, 0) else if c = 0 then readF f l t else
      match t with
      | [] => ([], 2)
      | n :: r => if r.length < n.toNat then ([], 2) else
          if rightL (joinedL l (c.toNat : Int) (r.take n.toNat)) = true then readF f (joinedL l (c.toNat : Int) (r.take n.toNat)) (r.drop n.toNat) else ([], 3)
def readL (l : List O) (b : List UInt8) : List O × Int := readF b.length l b

/-! ### Right -/
theorem fit_iff (o : O) : fitO o = true ↔ 1 ≤ o.1 ∧ o.1 ≤ 254 ∧ o.2.length ≤ 600 := by simp [fitO]
theorem right_iff (l : List O) : rightL l = true ↔ l.length ≤ 60 ∧ (∀ o ∈ l, 1 ≤ o.1 ∧ o.1 ≤ 254 ∧ o.2.length ≤ 600) ∧ (codesL l).Nodup := by
  unfold rightL
  rw [Bool.and_eq_true, Bool.and_eq_true, decide_eq_true_eq, decide_eq_true_eq, List.all_eq_true]
  constructor
  · rintro ⟨a, b, c⟩; exact ⟨a, fun o ho => (fit_iff o).1 (b o ho), c⟩
  · rintro ⟨a, b, c⟩; exact ⟨a, fun o ho => (fit_iff o).2 (b o ho), c⟩
theorem right_no {l : List O} (h : ¬ (l.length ≤ 60 ∧ (∀ o ∈ l, 1 ≤ o.1 ∧ o.1 ≤ 254 ∧ o.2.length ≤ 600) ∧ (codesL l).Nodup)) : rightL l = false := by
  cases e : rightL l with
  | false => rfl
  | true => exact absurd ((right_iff l).1 e) h
theorem right_len {l : List O} (h : rightL l = true) : l.length ≤ 60 := ((right_iff l).1 h).1
theorem right_fit {l : List O} (h : rightL l = true) {o : O} (ho : o ∈ l) : 1 ≤ o.1 ∧ o.1 ≤ 254 ∧ o.2.length ≤ 600 := ((right_iff l).1 h).2.1 o ho
theorem right_nodup {l : List O} (h : rightL l = true) : (codesL l).Nodup := ((right_iff l).1 h).2.2
theorem right_nil : rightL [] = true := rfl
theorem codes_len (l : List O) : (codesL l).length = l.length := by simp [codesL]
theorem codes_app (l m : List O) : codesL (l ++ m) = codesL l ++ codesL m := by simp [codesL]
theorem codes_take (l : List O) (k : Nat) : codesL (l.take k) = (codesL l).take k := by simp [codesL, List.map_take]
theorem codes_get {l : List O} {i : Nat} (h : i < l.length) : (codesL l)[i]'(by rw [codes_len]; exact h) = (l[i]).1 := by simp [codesL]
theorem codes_mem {l : List O} {o : O} (h : o ∈ l) : o.1 ∈ codesL l := List.mem_map.2 ⟨o, h, rfl⟩
theorem right_long {l : List O} (h : 60 < l.length) : rightL l = false := right_no fun ⟨a, _⟩ => by omega
theorem right_unfit {l : List O} {i : Nat} (h : i < l.length) (hf : ¬ (1 ≤ (l[i]).1 ∧ (l[i]).1 ≤ 254 ∧ (l[i]).2.length ≤ 600)) : rightL l = false :=
  right_no fun ⟨_, a, _⟩ => hf (a _ (List.getElem_mem h))
theorem take_snocO {l : List O} {k : Nat} (h : k < l.length) : l.take (k + 1) = l.take k ++ [l[k]] := List.take_succ_eq_append_getElem h
theorem nodup_snoc {α : Type} {l : List α} {a : α} : (l ++ [a]).Nodup ↔ l.Nodup ∧ a ∉ l := by
  rw [List.nodup_append]
  simp
  intro _
  constructor
  · intro h k; exact h a k rfl
  · intro h b hb e; subst e; exact h hb
theorem right_twice {l : List O} {i : Nat} (h : i < l.length) (hd : (l[i]).1 ∈ codesL (l.take i)) : rightL l = false := right_no fun ⟨_, _, hn⟩ => by
  have h1 : (codesL (l.take (i + 1))).Nodup := by
    rw [codes_take]
    exact List.Nodup.sublist (List.take_sublist _ _) hn
  rw [take_snocO h, codes_app] at h1
  exact (nodup_snoc.1 h1).2 hd
theorem right_step {l : List O} {i : Nat} (h : i < l.length) (hl : l.length ≤ 60) (hr : rightL (l.take i) = true) (hf : 1 ≤ (l[i]).1 ∧ (l[i]).1 ≤ 254 ∧ (l[i]).2.length ≤ 600) (hd : (l[i]).1 ∉ codesL (l.take i)) : rightL (l.take (i + 1)) = true := by
  rw [right_iff, take_snocO h, codes_app]
  refine ⟨by rw [List.length_append, List.length_take]; simp; omega, fun o ho => ?_, nodup_snoc.2 ⟨right_nodup hr, hd⟩⟩
  rcases List.mem_append.1 ho with ho | ho
  · exact right_fit hr ho
  · simp at ho; subst ho; exact hf
theorem right_has {l : List O} {i : Nat} (h : i < l.length) (hd : 1 < hasL l (l[i]).1) : rightL l = false := right_no fun ⟨_, _, hn⟩ => by
  have := List.nodup_iff_count.1 hn (l[i]).1
  unfold hasL at hd
  omega
theorem right_all {l : List O} (hl : l.length ≤ 60) (h : ∀ i (h : i < l.length), (1 ≤ (l[i]).1 ∧ (l[i]).1 ≤ 254 ∧ (l[i]).2.length ≤ 600) ∧ hasL l (l[i]).1 ≤ 1) : rightL l = true := by
  refine (right_iff l).2 ⟨hl, fun o ho => ?_, List.nodup_iff_count.2 fun a => ?_⟩
  · obtain ⟨i, hi, rfl⟩ := List.mem_iff_getElem.1 ho
    exact (h i hi).1
  · by_cases ha : a ∈ codesL l
    · obtain ⟨o, ho, rfl⟩ := List.mem_map.1 ha
      obtain ⟨i, hi, rfl⟩ := List.mem_iff_getElem.1 ho
      exact (h i hi).2
    · rw [List.count_eq_zero_of_not_mem ha]; omega
theorem has_next {l : List O} {k : Nat} (h : k < l.length) (c : Int) : hasL (l.take (k + 1)) c = hasL (l.take k) c + if (l[k]).1 = c then 1 else 0 := by
  unfold hasL
  rw [take_snocO h, codes_app, List.count_append]
  simp [codesL, List.count_cons]
theorem has_le (l : List O) (c : Int) : hasL l c ≤ l.length := by
  have := List.count_le_length (a := c) (l := codesL l)
  rw [codes_len] at this
  exact this
theorem has_zero {l : List O} {c : Int} : hasL l c = 0 ↔ c ∉ codesL l := List.count_eq_zero

/-! ### Place, find -/
theorem placeN_hit : ∀ {l : List O} {k : Nat} {c : Int} (h : k < l.length), (l[k]).1 = c → c ∉ codesL (l.take k) → placeN l c = k
  | o :: l, 0, c, _, hk, _ => by simp at hk; simp [placeN, hk]
  | o :: l, k + 1, c, h, hk, hn => by
    simp [codesL] at hn
    have h1 : ¬ o.1 = c := fun e => hn.1 e.symm
    have h2 := placeN_hit (l := l) (k := k) (c := c) (by simpa using h) (by simpa using hk) (by simpa [codesL] using hn.2)
    simp [placeN, h1, h2]
theorem placeN_mem : ∀ {l : List O} {c : Int}, c ∈ codesL l → ∃ (h : placeN l c < l.length), (l[placeN l c]).1 = c ∧ c ∉ codesL (l.take (placeN l c))
  | [], c, h => by simp [codesL] at h
  | o :: l, c, h => by
    by_cases h1 : o.1 = c
    · have e : placeN (o :: l) c = 0 := by simp [placeN, h1]
      rw [e]
      exact ⟨by simp, by simpa using h1, by simp [codesL]⟩
    · have e : placeN (o :: l) c = placeN l c + 1 := by simp [placeN, h1]
      have hm : c ∈ codesL l := by
        simp only [codesL, List.map_cons, List.mem_cons] at h
        rcases h with h | h
        · exact absurd h.symm h1
        · exact h
      obtain ⟨a, b, d⟩ := placeN_mem hm
      rw [e]
      refine ⟨by simpa using a, by simpa using b, ?_⟩
      rw [List.take_succ_cons]
      simp only [codesL, List.map_cons, List.mem_cons, not_or] at d ⊢
      exact ⟨fun e => h1 e.symm, d⟩
theorem place_hit {l : List O} {k : Nat} {c : Int} (h : k < l.length) (hk : (l[k]).1 = c) (hn : c ∉ codesL (l.take k)) : placeL l c = (k : Int) := by
  have hm : c ∈ codesL l := by rw [← hk]; exact codes_mem (List.getElem_mem h)
  unfold placeL
  rw [if_pos hm, placeN_hit h hk hn]
theorem place_none {l : List O} {c : Int} (hn : c ∉ codesL l) : placeL l c = -1 := by unfold placeL; rw [if_neg hn]
theorem place_lo (l : List O) (c : Int) : -1 ≤ placeL l c := by unfold placeL; split <;> omega
theorem place_mem {l : List O} {c : Int} (h : c ∈ codesL l) : ∃ (i : Nat) (hi : i < l.length), placeL l c = (i : Int) ∧ (l[i]).1 = c ∧ c ∉ codesL (l.take i) := by
  obtain ⟨a, b, d⟩ := placeN_mem h
  exact ⟨placeN l c, a, by unfold placeL; rw [if_pos h], b, d⟩
theorem find_hit {l : List O} {k : Nat} {c : Int} (h : k < l.length) (hk : (l[k]).1 = c) (hn : c ∉ codesL (l.take k)) : findL l c = some (l[k]).2 := by
  unfold findL
  have hs : l = l.take k ++ l[k] :: l.drop (k + 1) := by rw [← List.drop_eq_getElem_cons h, List.take_append_drop]
  have h0 : (l.take k).find? (fun o => o.1 == c) = none := by
    rw [List.find?_eq_none]
    intro o ho e
    exact hn (by simp at e; rw [← e]; exact codes_mem ho)
  have : l.find? (fun o => o.1 == c) = some l[k] := by
    conv => lhs; rw [hs]
    rw [List.find?_append, h0, List.find?_cons_of_pos (by simp [hk])]
    rfl
  rw [this]
  rfl
theorem find_none {l : List O} {c : Int} (hn : c ∉ codesL l) : findL l c = none := by
  unfold findL
  have h0 : l.find? (fun o => o.1 == c) = none := by
    rw [List.find?_eq_none]
    intro o ho e
    exact hn (by simp at e; rw [← e]; exact codes_mem ho)
  rw [h0]
  rfl
theorem not_codes_next {l : List O} {k : Nat} {c : Int} (h : k < l.length) (hn : c ∉ codesL (l.take k)) (hk : (l[k]).1 ≠ c) : c ∉ codesL (l.take (k + 1)) := by
  rw [take_snocO h, codes_app]
  simp [codesL] at hn ⊢
  exact ⟨hn, fun e => hk e.symm⟩

/-! ### Joined -/
theorem joinO_code (c : Int) (d : List UInt8) (o : O) : (joinO c d o).1 = o.1 := by unfold joinO; split <;> rfl
theorem codes_map (l : List O) (c : Int) (d : List UInt8) : codesL (l.map (joinO c d)) = codesL l := by
  simp [codesL, joinO_code]
theorem codes_joined (l : List O) (c : Int) (d : List UInt8) : codesL (joinedL l c d) = codesL l ++ (if c ∈ codesL l then [] else [c]) := by
  unfold joinedL
  rw [codes_app, codes_map]
  split <;> simp [codesL]
theorem joined_new {l : List O} {c : Int} (h : c ∉ codesL l) (d : List UInt8) : joinedL l c d = l ++ [(c, d)] := by
  unfold joinedL
  rw [if_neg h]
  congr 1
  have : ∀ o ∈ l, joinO c d o = o := fun o ho => by
    unfold joinO
    rw [if_neg (fun e => h (by rw [← e]; exact codes_mem ho))]
  rw [List.map_congr_left this, List.map_id']
theorem joined_old {l : List O} {c : Int} (h : c ∈ codesL l) (d : List UInt8) : joinedL l c d = l.map (joinO c d) := by
  unfold joinedL
  rw [if_pos h, List.append_nil]
theorem joined_set {l : List O} {c : Int} (hn : (codesL l).Nodup) {i : Nat} (h : i < l.length) (hi : (l[i]).1 = c) (d : List UInt8) : joinedL l c d = l.set i (c, (l[i]).2 ++ d) := by
  have hm : c ∈ codesL l := by rw [← hi]; exact codes_mem (List.getElem_mem h)
  rw [joined_old hm]
  apply List.ext_getElem
  · simp
  · intro j hj hj2
    have hjl : j < l.length := by simpa using hj
    rw [List.getElem_map, List.getElem_set]
    by_cases e : i = j
    · subst e
      rw [if_pos rfl]
      unfold joinO
      rw [if_pos hi, hi]
    · rw [if_neg e]
      unfold joinO
      rw [if_neg]
      intro e2
      have h1 := codes_get h
      have h2 := codes_get hjl
      have := (List.getElem_inj (h₀ := by rw [codes_len]; exact h) (h₁ := by rw [codes_len]; exact hjl) hn).1 (by rw [h1, h2, hi, e2])
      exact e this
theorem right_joined_new {l : List O} {c : Int} {d : List UInt8} (hr : rightL l = true) (h : c ∉ codesL l) (h1 : 1 ≤ c) (h2 : c ≤ 254) (hl : l.length < 60) (hd : d.length ≤ 600) : rightL (joinedL l c d) = true := by
  rw [joined_new h, right_iff, codes_app]
  refine ⟨by simp; omega, fun o ho => ?_, nodup_snoc.2 ⟨right_nodup hr, h⟩⟩
  rcases List.mem_append.1 ho with ho | ho
  · exact right_fit hr ho
  · simp at ho; subst ho; exact ⟨h1, h2, hd⟩
theorem right_joined_full {l : List O} {c : Int} {d : List UInt8} (h : c ∉ codesL l) (hl : 60 ≤ l.length) : rightL (joinedL l c d) = false := by
  rw [joined_new h]
  exact right_long (by simp; omega)
theorem right_joined_big {l : List O} {c : Int} {d : List UInt8} (h : c ∉ codesL l) (hd : 600 < d.length) : rightL (joinedL l c d) = false := by
  rw [joined_new h]
  refine right_no fun ⟨_, a, _⟩ => ?_
  have := (a (c, d) (by simp)).2.2
  simp at this
  omega
theorem right_joined_set {l : List O} {c : Int} {d : List UInt8} (hr : rightL l = true) {i : Nat} (h : i < l.length) (hi : (l[i]).1 = c) (hd : (l[i]).2.length + d.length ≤ 600) : rightL (joinedL l c d) = true := by
  have hm : c ∈ codesL l := by rw [← hi]; exact codes_mem (List.getElem_mem h)
  have hc : codesL (joinedL l c d) = codesL l := by rw [codes_joined, if_pos hm, List.append_nil]
  rw [right_iff, hc]
  refine ⟨by rw [joined_old hm, List.length_map]; exact right_len hr, fun o ho => ?_, right_nodup hr⟩
  rw [joined_set (right_nodup hr) h hi] at ho
  rcases List.mem_or_eq_of_mem_set ho with ho | rfl
  · exact right_fit hr ho
  · have := right_fit hr (List.getElem_mem h)
    rw [hi] at this
    exact ⟨this.1, this.2.1, by simpa using hd⟩
theorem right_joined_over {l : List O} {c : Int} {d : List UInt8} {i : Nat} (h : i < l.length) (hi : (l[i]).1 = c) (hd : 600 < (l[i]).2.length + d.length) : rightL (joinedL l c d) = false := by
  have hm : c ∈ codesL l := by rw [← hi]; exact codes_mem (List.getElem_mem h)
  rw [joined_old hm]
  refine right_no fun ⟨_, a, _⟩ => ?_
  have := (a (joinO c d l[i]) (List.mem_map_of_mem (List.getElem_mem h))).2.2
  unfold joinO at this
  rw [if_pos hi, List.length_append] at this
  omega
theorem right_mono {l : List O} {c : Int} {d : List UInt8} (h : rightL (joinedL l c d) = true) : rightL l = true := by
  rw [right_iff] at h ⊢
  obtain ⟨a, b, n⟩ := h
  rw [codes_joined] at n
  have hlen : l.length ≤ (joinedL l c d).length := by unfold joinedL; rw [List.length_append, List.length_map]; omega
  refine ⟨by omega, fun o ho => ?_, (List.nodup_append.1 n).1⟩
  have := b (joinO c d o) (by unfold joinedL; exact List.mem_append_left _ (List.mem_map_of_mem ho))
  rw [joinO_code] at this
  refine ⟨this.1, this.2.1, Nat.le_trans ?_ this.2.2⟩
  unfold joinO
  split
  · rw [List.length_append]; omega
  · exact Nat.le_refl _
theorem joined_joined (l : List O) (c : Int) (d1 d2 : List UInt8) : joinedL (joinedL l c d1) c d2 = joinedL l c (d1 ++ d2) := by
  have hm : c ∈ codesL (joinedL l c d1) := by
    rw [codes_joined]
    by_cases h : c ∈ codesL l
    · exact List.mem_append_left _ h
    · rw [if_neg h]; simp
  rw [joined_old hm]
  have hj : ∀ o : O, joinO c d2 (joinO c d1 o) = joinO c (d1 ++ d2) o := fun o => by
    unfold joinO
    by_cases h : o.1 = c
    · simp [h]
    · simp [h]
  unfold joinedL
  rw [List.map_append, List.map_map, show (joinO c d2 ∘ joinO c d1) = joinO c (d1 ++ d2) from funext hj]
  congr 1
  split
  · rfl
  · simp [joinO]
theorem joinAll_nil (l : List O) : joinAll l [] = l := rfl
theorem joinAll_cons (l m : List O) (o : O) : joinAll l (o :: m) = joinAll (joinedL l o.1 o.2) m := rfl
theorem joinAll_app (l m k : List O) : joinAll l (m ++ k) = joinAll (joinAll l m) k := by unfold joinAll; rw [List.foldl_append]
theorem joinAll_next (l m : List O) {k : Nat} (h : k < m.length) : joinAll l (m.take (k + 1)) = joinedL (joinAll l (m.take k)) (m[k]).1 (m[k]).2 := by
  rw [take_snocO h, joinAll_app]; rfl
theorem joinAll_mono {l : List O} : ∀ {m : List O}, rightL (joinAll l m) = true → rightL l = true
  | [], h => h
  | _ :: m, h => right_mono (joinAll_mono (m := m) h)
theorem joinAll_mono_take {l m : List O} (k : Nat) (h : rightL (joinAll l m) = true) : rightL (joinAll l (m.take k)) = true := by
  rw [← List.take_append_drop k m, joinAll_app] at h
  exact joinAll_mono h
theorem joinAll_plain : ∀ {m l : List O}, (codesL (l ++ m)).Nodup → joinAll l m = l ++ m
  | [], l, _ => by rw [joinAll_nil, List.append_nil]
  | o :: m, l, h => by
    have hs : l ++ o :: m = (l ++ [o]) ++ m := by simp
    have hn : o.1 ∉ codesL l := by
      rw [hs, codes_app, codes_app] at h
      exact (nodup_snoc.1 (List.nodup_append.1 h).1).2
    rw [joinAll_cons, joined_new hn, hs]
    exact joinAll_plain (by rw [← hs]; exact h)
theorem joinAll_self {l : List O} (h : rightL l = true) : joinAll [] l = l := by
  have := joinAll_plain (m := l) (l := []) (by simpa using right_nodup h)
  simpa using this

/-! ### Written, read -/
theorem one_small {c : Int} {d : List UInt8} (h : d.length ≤ 255) : oneL c d = codeB c :: UInt8.ofNat d.length :: d := by rw [oneL, dif_pos h]
theorem one_big {c : Int} {d : List UInt8} (h : 255 < d.length) : oneL c d = codeB c :: 255 :: (d.take 255 ++ oneL c (d.drop 255)) := by rw [oneL, dif_neg (by omega)]
theorem one_len (c : Int) (d : List UInt8) : (oneL c d).length ≤ 2 * d.length + 2 := by
  by_cases h : d.length ≤ 255
  · rw [one_small h]; simp; omega
  · rw [one_big (by omega)]
    have := one_len c (d.drop 255)
    rw [List.length_drop] at this
    simp
    omega
termination_by d.length
decreasing_by rw [List.length_drop]; omega
theorem body_app (l m : List O) : bodyL (l ++ m) = bodyL l ++ bodyL m := by unfold bodyL; rw [List.flatMap_append]
theorem body_next {l : List O} {k : Nat} (h : k < l.length) : bodyL (l.take (k + 1)) = bodyL (l.take k) ++ oneL (l[k]).1 (l[k]).2 := by
  rw [take_snocO h, body_app]; simp [bodyL]
theorem body_len : ∀ {l : List O}, (∀ o ∈ l, o.2.length ≤ 600) → (bodyL l).length ≤ 1202 * l.length
  | [], _ => by simp [bodyL]
  | o :: l, h => by
    have h1 := one_len o.1 o.2
    have h2 := body_len (l := l) fun x hx => h x (.tail _ hx)
    have h3 := h o (.head _)
    have : bodyL (o :: l) = oneL o.1 o.2 ++ bodyL l := by simp [bodyL]
    rw [this, List.length_append, List.length_cons]
    omega
theorem body_len_right {l : List O} (h : rightL l = true) (k : Nat) : (bodyL (l.take k)).length ≤ 72120 := by
  have h1 := body_len (l := l.take k) fun o ho => (right_fit h (List.mem_of_mem_take ho)).2.2
  have h2 := right_len h
  rw [List.length_take] at h1
  omega
theorem readF_more : ∀ (f g : Nat) (l : List O) (b : List UInt8), b.length ≤ f → b.length ≤ g → readF f l b = readF g l b
  | 0, 0, _, _, _, _ => rfl
  | 0, g + 1, l, [], _, _ => rfl
  | f + 1, 0, l, [], _, _ => rfl
  | f + 1, g + 1, l, [], _, _ => rfl
  | f + 1, g + 1, l, c :: t, hf, hg => by
    simp only [readF]
    simp at hf hg
    by_cases h1 : c = 255
    · rw [if_pos h1, if_pos h1]
    · rw [if_neg h1, if_neg h1]
      by_cases h2 : c = 0
      · rw [if_pos h2, if_pos h2]
        exact readF_more f g l t hf hg
      · rw [if_neg h2, if_neg h2]
        cases t with
        | nil => rfl
        | cons n r =>
          simp only
          simp at hf hg
          by_cases h3 : r.length < n.toNat
          · rw [if_pos h3, if_pos h3]
          · rw [if_neg h3, if_neg h3]
            by_cases h4 : rightL (joinedL l (c.toNat : Int) (r.take n.toNat)) = true
            · rw [if_pos h4, if_pos h4]
              exact readF_more f g _ _ (by rw [List.length_drop]; omega) (by rw [List.length_drop]; omega)
            · rw [if_neg h4, if_neg h4]
theorem read_nil (l : List O) : readL l [] = (l, 0) := rfl
theorem read_end (l : List O) (t : List UInt8) : readL l (255 :: t) = (l, 0) := by simp [readL, readF]
theorem read_zero (l : List O) (t : List UInt8) : readL l (0 :: t) = readL l t := by simp [readL, readF]
theorem read_lone (l : List O) {c : UInt8} (h1 : c ≠ 255) (h2 : c ≠ 0) : readL l [c] = ([], 2) := by simp [readL, readF, h1, h2]
theorem read_short (l : List O) {c n : UInt8} {r : List UInt8} (h1 : c ≠ 255) (h2 : c ≠ 0) (h3 : r.length < n.toNat) : readL l (c :: n :: r) = ([], 2) := by simp [readL, readF, h1, h2, h3]
theorem read_part (l : List O) {c n : UInt8} {r : List UInt8} (h1 : c ≠ 255) (h2 : c ≠ 0) (h3 : n.toNat ≤ r.length) :
    readL l (c :: n :: r) = if rightL (joinedL l (c.toNat : Int) (r.take n.toNat)) = true then readL (joinedL l (c.toNat : Int) (r.take n.toNat)) (r.drop n.toNat) else ([], 3) := by
  unfold readL
  simp only [List.length_cons, readF, h1, h2, if_false, show ¬ r.length < n.toNat by omega]
  split
  · exact readF_more _ _ _ _ (by rw [List.length_drop]; omega) (Nat.le_refl _)
  · rfl
theorem codeB_nat {c : Int} (h1 : 1 ≤ c) (h2 : c ≤ 254) : ((codeB c).toNat : Int) = c ∧ codeB c ≠ 255 ∧ codeB c ≠ 0 := by
  have h : (codeB c).toNat = c.toNat := by
    unfold codeB
    rw [UInt8.toNat_ofNat']
    omega
  refine ⟨by rw [h]; omega, fun e => ?_, fun e => ?_⟩
  · have : (codeB c).toNat = 255 := by rw [e]; rfl
    omega
  · have : (codeB c).toNat = 0 := by rw [e]; rfl
    omega
theorem read_one (l : List O) {c : Int} (h1 : 1 ≤ c) (h2 : c ≤ 254) (d x : List UInt8) : readL l (oneL c d ++ x) = if rightL (joinedL l c d) = true then readL (joinedL l c d) x else ([], 3) := by
  obtain ⟨hb, hne, hnz⟩ := codeB_nat h1 h2
  by_cases h : d.length ≤ 255
  · rw [one_small h, List.cons_append, List.cons_append]
    have hn : (UInt8.ofNat d.length).toNat = d.length := by rw [UInt8.toNat_ofNat']; omega
    rw [read_part l hne hnz (by rw [hn, List.length_append]; omega), hn, hb, List.take_left, List.drop_left]
  · rw [one_big (by omega), List.cons_append, List.cons_append, List.append_assoc]
    have hn : (255 : UInt8).toNat = 255 := rfl
    have ht : (d.take 255).length = 255 := by rw [List.length_take]; omega
    rw [read_part l hne hnz (by rw [hn, List.length_append, ht]; omega), hn, hb]
    have e1 : ∀ y : List UInt8, (d.take 255 ++ y).take 255 = d.take 255 := fun y => by rw [List.take_append_of_le_length (by omega), List.take_take]; rfl
    have e2 : ∀ y : List UInt8, (d.take 255 ++ y).drop 255 = y := fun y => by rw [List.drop_append_of_le_length (by omega), List.drop_of_length_le (by omega)]; rfl
    rw [e1, e2, read_one (joinedL l c (d.take 255)) h1 h2 (d.drop 255) x, joined_joined, List.take_append_drop]
    by_cases hr : rightL (joinedL l c (d.take 255)) = true
    · rw [if_pos hr]
    · rw [if_neg hr, if_neg]
      intro k
      refine hr (right_mono (c := c) (d := d.drop 255) ?_)
      rw [joined_joined, List.take_append_drop]
      exact k
termination_by d.length
decreasing_by rw [List.length_drop]; omega
theorem read_body : ∀ (m l : List O) (x : List UInt8), (∀ o ∈ m, 1 ≤ o.1 ∧ o.1 ≤ 254) → rightL l = true → readL l (bodyL m ++ x) = if rightL (joinAll l m) = true then readL (joinAll l m) x else ([], 3)
  | [], l, x, _, hl => by rw [joinAll_nil, if_pos hl]; rfl
  | o :: m, l, x, hm, hl => by
    have e : bodyL (o :: m) = oneL o.1 o.2 ++ bodyL m := by simp [bodyL]
    have ho := hm o (.head _)
    rw [e, List.append_assoc, read_one l ho.1 ho.2, joinAll_cons]
    by_cases hr : rightL (joinedL l o.1 o.2) = true
    · rw [if_pos hr]
      exact read_body m _ x (fun p hp => hm p (.tail _ hp)) hr
    · rw [if_neg hr, if_neg]
      exact fun k => hr (joinAll_mono k)
theorem read_rows {l m : List O} (hl : rightL l = true) (hm : rightL m = true) (rest : List UInt8) : readL [] (bodyL l ++ (writeL m ++ rest)) = joinL l m := by
  rw [read_body l [] _ (fun o ho => ⟨(right_fit hl ho).1, (right_fit hl ho).2.1⟩) right_nil, joinAll_self hl, if_pos hl]
  unfold writeL joinL
  rw [List.append_assoc, read_body m l _ (fun o ho => ⟨(right_fit hm ho).1, (right_fit hm ho).2.1⟩) hl]
  have hc : rightL l = true ∧ rightL m = true := ⟨hl, hm⟩
  rw [if_pos hc]
  split
  · exact read_end _ _
  · rfl
theorem read_back {l : List O} (hl : rightL l = true) (rest : List UInt8) : readL [] (writeL l ++ rest) = (l, 0) := by
  have := read_rows (l := []) right_nil hl rest
  have e : joinL [] l = (l, 0) := by
    unfold joinL
    have hc : rightL [] = true ∧ rightL l = true := ⟨right_nil, hl⟩
    rw [if_pos hc, joinAll_self hl, if_pos hl]
  rw [e] at this
  exact this
theorem read_zeros (l : List O) (n : Nat) (b : List UInt8) : readL l (List.replicate n 0 ++ b) = readL l b := by
  induction n with
  | zero => rfl
  | succ n ih => rw [List.replicate_succ, List.cons_append, read_zero, ih]
theorem readF_good : ∀ (f : Nat) (l : List O) (b : List UInt8), rightL l = true → rightL (readF f l b).1 = true ∧ ((readF f l b).2 ≠ 0 → (readF f l b).1 = []) ∧ ((readF f l b).2 = 0 ∨ (readF f l b).2 = 2 ∨ (readF f l b).2 = 3)
  | 0, l, _, h => ⟨h, fun k => absurd rfl k, .inl rfl⟩
  | f + 1, l, [], h => ⟨h, fun k => absurd rfl k, .inl rfl⟩
  | f + 1, l, c :: t, h => by
    simp only [readF]
    by_cases h1 : c = 255
    · rw [if_pos h1]; exact ⟨h, fun k => absurd rfl k, .inl rfl⟩
    · rw [if_neg h1]
      by_cases h2 : c = 0
      · rw [if_pos h2]; exact readF_good f l t h
      · rw [if_neg h2]
        cases t with
        | nil => exact ⟨right_nil, fun _ => rfl, .inr (.inl rfl)⟩
        | cons n r =>
          simp only
          by_cases h3 : r.length < n.toNat
          · rw [if_pos h3]; exact ⟨right_nil, fun _ => rfl, .inr (.inl rfl)⟩
          · rw [if_neg h3]
            by_cases h4 : rightL (joinedL l (c.toNat : Int) (r.take n.toNat)) = true
            · rw [if_pos h4]; exact readF_good f _ _ h4
            · rw [if_neg h4]; exact ⟨right_nil, fun _ => rfl, .inr (.inr rfl)⟩
theorem read_good (b : List UInt8) : rightL (readL [] b).1 = true ∧ ((readL [] b).2 ≠ 0 → (readL [] b).1 = []) ∧ ((readL [] b).2 = 0 ∨ (readL [] b).2 = 2 ∨ (readL [] b).2 = 3) := readF_good _ _ _ right_nil
end Go.Proofs.YtlefpodonkdbeaaGreat.Tl
end
/- Messages as lists of bytes: which are right, how they are written and read, options in the file and the name. Plain mathematics, no program. -/
section
namespace Go.Proofs.YtlefpodonkdbeaaGreat.Ms
open Tl Co

structure M where
  op : Int
  htype : Int
  hlen : Int
  hops : Int
  xid : Int
  secs : Int
  flags : Int
  ci : Int
  yi : Int
  si : Int
  gi : Int
  ch : List UInt8
  os : List O
def zeroM : M := ⟨0, 0, 0, 0, 0, 0, 0, 0, 0, 0, 0, [], []⟩
def HeadOk (m : M) : Prop := (0 ≤ m.op ∧ m.op ≤ 255) ∧ (0 ≤ m.htype ∧ m.htype ≤ 255) ∧ (0 ≤ m.hlen ∧ m.hlen ≤ 16) ∧ (0 ≤ m.hops ∧ m.hops ≤ 255) ∧ (0 ≤ m.xid ∧ m.xid ≤ 4294967295) ∧ (0 ≤ m.secs ∧ m.secs ≤ 65535) ∧ (0 ≤ m.flags ∧ m.flags ≤ 65535) ∧
  (0 ≤ m.ci ∧ m.ci ≤ 4294967295) ∧ (0 ≤ m.yi ∧ m.yi ≤ 4294967295) ∧ (0 ≤ m.si ∧ m.si ≤ 4294967295) ∧ (0 ≤ m.gi ∧ m.gi ≤ 4294967295)
instance (m : M) : Decidable (HeadOk m) := by unfold HeadOk; infer_instance
def RightM (m : M) : Prop := HeadOk m ∧ m.ch.length = 16 ∧ rightL m.os = true ∧ hasL m.os 52 = 0
instance (m : M) : Decidable (RightM m) := by unfold RightM; infer_instance
def rightM (m : M) : Bool := decide (RightM m)
def byteI (v : Int) : UInt8 := UInt8.ofNat v.toNat
def numB (v : Int) (n : Nat) : List UInt8 := putL v.toNat n
def cookieL : List UInt8 := [99, 130, 83, 99]
def headL (m : M) : List UInt8 := [byteI m.op, byteI m.htype, byteI m.hlen, byteI m.hops] ++ (numB m.xid 4 ++ (numB m.secs 2 ++ (numB m.flags 2 ++ (numB m.ci 4 ++ (numB m.yi 4 ++ (numB m.si 4 ++ (numB m.gi 4 ++ m.ch)))))))
def padL (b : List UInt8) : List UInt8 := b ++ List.replicate (300 - b.length) 0
def bodyM (m : M) : List UInt8 := headL m ++ (List.replicate 192 0 ++ (cookieL ++ writeL m.os))
def bytesM (m : M) : List UInt8 := padL (bodyM m)
def sub (b : List UInt8) (i n : Nat) : List UInt8 := (b.drop i).take n
def withoutL (l : List O) (c : Int) : List O := l.filter fun o => !(o.1 == c)
def areaL (l : List O) (a : List UInt8) : List O × Int := if (readL [] a).2 ≠ 0 then ([], (readL [] a).2) else if 0 < hasL (readL [] a).1 52 then ([], 2) else joinL l (readL [] a).1
/-- Behind the cookie's options: the value of overload, the two rooms. -/
def roomsL (l : List O) (x : UInt8) (file name : List UInt8) : List O × Int :=
  if x ≠ 2 then (if (areaL l file).2 ≠ 0 then ([], (areaL l file).2) else if x ≠ 1 then areaL (areaL l file).1 name else ((areaL l file).1, 0)) else areaL l name
def overL (l : List O) (d : List UInt8) (file name : List UInt8) : List O × Int :=
  match d with
  | [x] => if x = 0 ∨ 3 < x then ([], 2) else roomsL (withoutL l 52) x file name
  | _ => ([], 2)
def optionsL (b : List UInt8) : List O × Int :=
  if (readL [] (b.drop 240)).2 ≠ 0 then ([], (readL [] (b.drop 240)).2) else
    match findL (readL [] (b.drop 240)).1 52 with
    | none => ((readL [] (b.drop 240)).1, 0)
    | some d => overL (readL [] (b.drop 240)).1 d (sub b 108 128) (sub b 44 64)
def byteAt (b : List UInt8) (i : Nat) : Int := ((b.getD i 0).toNat : Int)
def numAt (b : List UInt8) (i n : Nat) : Int := (valL (sub b i n) : Int)
def msgOf (b : List UInt8) (l : List O) : M := ⟨byteAt b 0, byteAt b 1, byteAt b 2, byteAt b 3, numAt b 4 4, numAt b 8 2, numAt b 10 2, numAt b 12 4, numAt b 16 4, numAt b 20 4, numAt b 24 4, sub b 28 16, l⟩
def readM (b : List UInt8) : M × Int :=
  if b.length < 240 then (zeroM, 4) else if 1500 < b.length then (zeroM, 3) else if sub b 236 4 ≠ cookieL ∨ 16 < (b.getD 2 0).toNat then (zeroM, 2) else
    if (optionsL b).2 ≠ 0 then (zeroM, (optionsL b).2) else (msgOf b (optionsL b).1, 0)

/-! ### Pieces -/
theorem sub_mid {a p r : List UInt8} {i n : Nat} (ha : a.length = i) (hp : p.length = n) : sub (a ++ (p ++ r)) i n = p := by
  subst ha; subst hp
  unfold sub
  rw [List.drop_left, List.take_left]
theorem sub_len {b : List UInt8} {i n : Nat} (h : i + n ≤ b.length) : (sub b i n).length = n := by
  unfold sub
  rw [List.length_take, List.length_drop]
  omega
theorem numB_len (v : Int) (n : Nat) : (numB v n).length = n := putL_length n _
theorem head_len {m : M} (h : m.ch.length = 16) : (headL m).length = 44 := by
  unfold headL
  simp only [List.length_append, List.length_cons, List.length_nil, numB_len, h]
theorem body_lenM {m : M} (h : m.ch.length = 16) : (bodyM m).length = 240 + (writeL m.os).length := by
  unfold bodyM
  simp only [List.length_append, head_len h, List.length_replicate]
  show 44 + (192 + (4 + _)) = _
  omega
theorem bytes_ge (m : M) : 300 ≤ (bytesM m).length := by
  unfold bytesM padL
  rw [List.length_append, List.length_replicate]
  omega
/-- A message's bytes: the head, two rooms, the cookie, the options, and some noughts. -/
theorem bytes_lay (m : M) : ∃ k, bytesM m = headL m ++ (List.replicate 64 0 ++ (List.replicate 128 0 ++ (cookieL ++ (writeL m.os ++ List.replicate k 0)))) := by
  refine ⟨300 - (bodyM m).length, ?_⟩
  unfold bytesM padL bodyM
  have : List.replicate 192 (0 : UInt8) = List.replicate 64 0 ++ List.replicate 128 0 := by rw [List.replicate_append_replicate]
  rw [this]
  simp only [List.append_assoc]
theorem num_back {v : Int} {n : Nat} (h0 : 0 ≤ v) (h1 : v < ((p256 n : Nat) : Int)) : ((valL (numB v n) : Nat) : Int) = v := by
  unfold numB
  rw [valL_putL n v.toNat (by omega)]
  omega
theorem byteI_back {v : Int} (h0 : 0 ≤ v) (h1 : v ≤ 255) : ((byteI v).toNat : Int) = v := by
  unfold byteI
  rw [UInt8.toNat_ofNat']
  omega
/-- What is read of bytes that begin with a message's head. -/
theorem msgOf_head {m : M} (h : HeadOk m) (hc : m.ch.length = 16) (r : List UInt8) (l : List O) : msgOf (headL m ++ r) l = { m with os := l } := by
  obtain ⟨h1, h2, h3, h4, h5, h6, h7, h8, h9, h10, h11⟩ := h
  have p4 : p256 4 = 4294967296 := by decide
  have p2 : p256 2 = 65536 := by decide
  have g : ∀ {i n : Nat} {v : Int} {a t : List UInt8}, headL m ++ r = a ++ (numB v n ++ t) → a.length = i → 0 ≤ v → v < ((p256 n : Nat) : Int) → numAt (headL m ++ r) i n = v := fun {i n v a t} e ha hv0 hv1 => by
    unfold numAt
    rw [e, sub_mid ha (numB_len v n)]
    exact num_back hv0 hv1
  have b0 : byteAt (headL m ++ r) 0 = m.op := byteI_back h1.1 h1.2
  have b1 : byteAt (headL m ++ r) 1 = m.htype := byteI_back h2.1 h2.2
  have b2 : byteAt (headL m ++ r) 2 = m.hlen := byteI_back h3.1 (by omega)
  have b3 : byteAt (headL m ++ r) 3 = m.hops := byteI_back h4.1 h4.2
  let q0 : List UInt8 := [byteI m.op, byteI m.htype, byteI m.hlen, byteI m.hops]
  have c4 : numAt (headL m ++ r) 4 4 = m.xid := g (a := q0) (t := numB m.secs 2 ++ (numB m.flags 2 ++ (numB m.ci 4 ++ (numB m.yi 4 ++ (numB m.si 4 ++ (numB m.gi 4 ++ (m.ch ++ r))))))) (by simp [headL, q0]) rfl h5.1 (by omega)
  have c8 : numAt (headL m ++ r) 8 2 = m.secs := g (a := q0 ++ numB m.xid 4) (t := numB m.flags 2 ++ (numB m.ci 4 ++ (numB m.yi 4 ++ (numB m.si 4 ++ (numB m.gi 4 ++ (m.ch ++ r)))))) (by simp [headL, q0]) (by simp [q0, numB_len]) h6.1 (by omega)
  have c10 : numAt (headL m ++ r) 10 2 = m.flags := g (a := q0 ++ (numB m.xid 4 ++ numB m.secs 2)) (t := numB m.ci 4 ++ (numB m.yi 4 ++ (numB m.si 4 ++ (numB m.gi 4 ++ (m.ch ++ r))))) (by simp [headL, q0]) (by simp [q0, numB_len]) h7.1 (by omega)
  have c12 : numAt (headL m ++ r) 12 4 = m.ci := g (a := q0 ++ (numB m.xid 4 ++ (numB m.secs 2 ++ numB m.flags 2))) (t := numB m.yi 4 ++ (numB m.si 4 ++ (numB m.gi 4 ++ (m.ch ++ r)))) (by simp [headL, q0]) (by simp [q0, numB_len]) h8.1 (by omega)
  have c16 : numAt (headL m ++ r) 16 4 = m.yi := g (a := q0 ++ (numB m.xid 4 ++ (numB m.secs 2 ++ (numB m.flags 2 ++ numB m.ci 4)))) (t := numB m.si 4 ++ (numB m.gi 4 ++ (m.ch ++ r))) (by simp [headL, q0]) (by simp [q0, numB_len]) h9.1 (by omega)
  have c20 : numAt (headL m ++ r) 20 4 = m.si := g (a := q0 ++ (numB m.xid 4 ++ (numB m.secs 2 ++ (numB m.flags 2 ++ (numB m.ci 4 ++ numB m.yi 4))))) (t := numB m.gi 4 ++ (m.ch ++ r)) (by simp [headL, q0]) (by simp [q0, numB_len]) h10.1 (by omega)
  have c24 : numAt (headL m ++ r) 24 4 = m.gi := g (a := q0 ++ (numB m.xid 4 ++ (numB m.secs 2 ++ (numB m.flags 2 ++ (numB m.ci 4 ++ (numB m.yi 4 ++ numB m.si 4)))))) (t := m.ch ++ r) (by simp [headL, q0]) (by simp [q0, numB_len]) h11.1 (by omega)
  have c28 : sub (headL m ++ r) 28 16 = m.ch := by
    have e : headL m ++ r = (q0 ++ (numB m.xid 4 ++ (numB m.secs 2 ++ (numB m.flags 2 ++ (numB m.ci 4 ++ (numB m.yi 4 ++ (numB m.si 4 ++ numB m.gi 4))))))) ++ (m.ch ++ r) := by simp [headL, q0]
    rw [e]
    exact sub_mid (by simp [q0, numB_len]) hc
  unfold msgOf
  rw [b0, b1, b2, b3, c4, c8, c10, c12, c16, c20, c24, c28]

/-! ### Right -/
theorem rightM_iff (m : M) : rightM m = true ↔ RightM m := by unfold rightM; exact decide_eq_true_iff
theorem find_of_has {l : List O} {c : Int} (h : hasL l c = 0) : findL l c = none := find_none (has_zero.1 h)
theorem joined_has {l : List O} {c k : Int} {d : List UInt8} (h : k ∉ codesL l) (hk : k ≠ c) : k ∉ codesL (joinedL l c d) := by
  rw [codes_joined]
  intro hm
  rcases List.mem_append.1 hm with hm | hm
  · exact h hm
  · split at hm
    · cases hm
    · simp at hm; exact hk hm
theorem joinAll_has {k : Int} : ∀ {m l : List O}, k ∉ codesL l → k ∉ codesL m → k ∉ codesL (joinAll l m)
  | [], _, h, _ => h
  | o :: m, l, h, hm => by
    simp only [codesL, List.map_cons, List.mem_cons, not_or] at hm
    exact joinAll_has (m := m) (joined_has h hm.1) hm.2
theorem joinL_good {l m : List O} (h : (joinL l m).2 = 0) : joinL l m = (joinAll l m, 0) ∧ rightL (joinAll l m) = true := by
  unfold joinL at h ⊢
  by_cases h1 : rightL l = true ∧ rightL m = true
  · rw [if_pos h1] at h ⊢
    by_cases h2 : rightL (joinAll l m) = true
    · rw [if_pos h2]; exact ⟨rfl, h2⟩
    · rw [if_neg h2] at h; cases h
  · rw [if_neg h1] at h; cases h
theorem joinL_bad {l m : List O} (h : (joinL l m).2 ≠ 0) : (joinL l m).1 = [] := by
  unfold joinL at h ⊢
  by_cases h1 : rightL l = true ∧ rightL m = true
  · rw [if_pos h1] at h ⊢
    by_cases h2 : rightL (joinAll l m) = true
    · rw [if_pos h2] at h; exact absurd rfl h
    · rw [if_neg h2]
  · rw [if_neg h1]
def GoodO (l : List O) : Prop := rightL l = true ∧ hasL l 52 = 0
theorem area_good {l : List O} {a : List UInt8} (hl : GoodO l) (h : (areaL l a).2 = 0) : GoodO (areaL l a).1 := by
  unfold areaL at h ⊢
  by_cases h1 : (readL [] a).2 ≠ 0
  · rw [if_pos h1] at h; exact absurd h h1
  · rw [if_neg h1] at h ⊢
    by_cases h2 : 0 < hasL (readL [] a).1 52
    · rw [if_pos h2] at h; cases h
    · rw [if_neg h2] at h ⊢
      obtain ⟨e, hr⟩ := joinL_good h
      rw [e]
      exact ⟨hr, has_zero.2 (joinAll_has (has_zero.1 hl.2) (has_zero.1 (by omega)))⟩
theorem area_bad {l : List O} {a : List UInt8} (h : (areaL l a).2 ≠ 0) : (areaL l a).1 = [] := by
  unfold areaL at h ⊢
  by_cases h1 : (readL [] a).2 ≠ 0
  · rw [if_pos h1]
  · rw [if_neg h1] at h ⊢
    by_cases h2 : 0 < hasL (readL [] a).1 52
    · rw [if_pos h2]
    · rw [if_neg h2] at h ⊢
      exact joinL_bad h
theorem without_codes (l : List O) (c : Int) : codesL (withoutL l c) = (codesL l).filter fun x => !(x == c) := by
  unfold withoutL codesL
  rw [List.filter_map]
  rfl
theorem without_good {l : List O} (h : rightL l = true) : GoodO (withoutL l 52) := by
  constructor
  · rw [right_iff]
    refine ⟨Nat.le_trans (List.length_filter_le _ _) (right_len h), fun o ho => right_fit h (List.mem_filter.1 ho).1, ?_⟩
    rw [without_codes]
    exact List.Nodup.sublist List.filter_sublist (right_nodup h)
  · rw [has_zero, without_codes]
    intro hm
    have := (List.mem_filter.1 hm).2
    simp at this
theorem rooms_good {l : List O} {x : UInt8} {f n : List UInt8} (hl : GoodO l) (h : (roomsL l x f n).2 = 0) : GoodO (roomsL l x f n).1 := by
  unfold roomsL at h ⊢
  by_cases h1 : x ≠ 2
  · rw [if_pos h1] at h ⊢
    by_cases h2 : (areaL l f).2 ≠ 0
    · rw [if_pos h2] at h; exact absurd h h2
    · rw [if_neg h2] at h ⊢
      have g := area_good (a := f) hl (by omega)
      by_cases h3 : x ≠ 1
      · rw [if_pos h3] at h ⊢; exact area_good g h
      · rw [if_neg h3]; exact g
  · rw [if_neg h1] at h ⊢
    exact area_good hl h
theorem rooms_bad {l : List O} {x : UInt8} {f n : List UInt8} (h : (roomsL l x f n).2 ≠ 0) : (roomsL l x f n).1 = [] := by
  unfold roomsL at h ⊢
  by_cases h1 : x ≠ 2
  · rw [if_pos h1] at h ⊢
    by_cases h2 : (areaL l f).2 ≠ 0
    · rw [if_pos h2]
    · rw [if_neg h2] at h ⊢
      by_cases h3 : x ≠ 1
      · rw [if_pos h3] at h ⊢; exact area_bad h
      · rw [if_neg h3] at h; exact absurd rfl h
  · rw [if_neg h1] at h ⊢
    exact area_bad h
theorem over_one (l : List O) (x : UInt8) (f n : List UInt8) : overL l [x] f n = if x = 0 ∨ 3 < x then ([], 2) else roomsL (withoutL l 52) x f n := rfl
theorem over_not (l : List O) {d : List UInt8} (hd : d.length ≠ 1) (f n : List UInt8) : overL l d f n = ([], 2) := by
  match d with
  | [] => rfl
  | [_] => exact absurd rfl hd
  | _ :: _ :: _ => rfl
theorem one_of_len {d : List UInt8} (h : d.length = 1) : ∃ x, d = [x] := by
  match d, h with
  | [x], _ => exact ⟨x, rfl⟩
theorem over_good {l : List O} {d f n : List UInt8} (hl : rightL l = true) (h : (overL l d f n).2 = 0) : GoodO (overL l d f n).1 := by
  by_cases hd : d.length = 1
  · obtain ⟨x, rfl⟩ := one_of_len hd
    rw [over_one] at h ⊢
    by_cases h1 : x = 0 ∨ 3 < x
    · rw [if_pos h1] at h; cases h
    · rw [if_neg h1] at h ⊢
      exact rooms_good (without_good hl) h
  · rw [over_not l hd] at h; cases h
theorem over_bad {l : List O} {d f n : List UInt8} (h : (overL l d f n).2 ≠ 0) : (overL l d f n).1 = [] := by
  by_cases hd : d.length = 1
  · obtain ⟨x, rfl⟩ := one_of_len hd
    rw [over_one] at h ⊢
    by_cases h1 : x = 0 ∨ 3 < x
    · rw [if_pos h1]
    · rw [if_neg h1] at h ⊢
      exact rooms_bad h
  · rw [over_not l hd]
theorem options_good {b : List UInt8} (h : (optionsL b).2 = 0) : GoodO (optionsL b).1 := by
  unfold optionsL at h ⊢
  by_cases h1 : (readL [] (b.drop 240)).2 ≠ 0
  · rw [if_pos h1] at h; exact absurd h h1
  · rw [if_neg h1] at h ⊢
    have hr := (read_good (b.drop 240)).1
    cases e : findL (readL [] (b.drop 240)).1 52 with
    | none =>
      simp only
      refine ⟨hr, ?_⟩
      rw [has_zero]
      intro hm
      obtain ⟨i, hi, _, hc, hno⟩ := place_mem hm
      rw [find_hit hi hc hno] at e
      cases e
    | some d =>
      rw [e] at h
      exact over_good hr h
theorem options_bad {b : List UInt8} (h : (optionsL b).2 ≠ 0) : (optionsL b).1 = [] := by
  unfold optionsL at h ⊢
  by_cases h1 : (readL [] (b.drop 240)).2 ≠ 0
  · rw [if_pos h1]
  · rw [if_neg h1] at h ⊢
    cases e : findL (readL [] (b.drop 240)).1 52 with
    | none => rw [e] at h; exact absurd rfl h
    | some d => rw [e] at h; exact over_bad h
theorem numAt_lt (b : List UInt8) (i n : Nat) : 0 ≤ numAt b i n ∧ numAt b i n < ((p256 n : Nat) : Int) := by
  unfold numAt
  have h1 := valL_lt (sub b i n)
  have h2 : (sub b i n).length ≤ n := by unfold sub; rw [List.length_take]; omega
  have h3 := p256_le h2
  omega
theorem byteAt_lt (b : List UInt8) (i : Nat) : 0 ≤ byteAt b i ∧ byteAt b i ≤ 255 := by
  unfold byteAt
  have := (b.getD i 0).toNat_lt
  omega
theorem read_rightM {b : List UInt8} (h : (readM b).2 = 0) : RightM (readM b).1 ∧ (readM b).1 = msgOf b (optionsL b).1 ∧ 240 ≤ b.length ∧ b.length ≤ 1500 ∧ sub b 236 4 = cookieL ∧ (optionsL b).2 = 0 := by
  unfold readM at h ⊢
  by_cases h1 : b.length < 240
  · rw [if_pos h1] at h; cases h
  rw [if_neg h1] at h ⊢
  by_cases h2 : 1500 < b.length
  · rw [if_pos h2] at h; cases h
  rw [if_neg h2] at h ⊢
  by_cases h3 : sub b 236 4 ≠ cookieL ∨ 16 < (b.getD 2 0).toNat
  · rw [if_pos h3] at h; cases h
  rw [if_neg h3] at h ⊢
  by_cases h4 : (optionsL b).2 ≠ 0
  · rw [if_pos h4] at h; exact absurd h h4
  rw [if_neg h4]
  have h3' := not_or.1 h3
  have h4' : (optionsL b).2 = 0 := Decidable.not_not.1 h4
  refine ⟨⟨?_, sub_len (by omega), options_good h4'⟩, rfl, by omega, by omega, Decidable.not_not.1 h3'.1, h4'⟩
  have p4 : p256 4 = 4294967296 := by decide
  have p2 : p256 2 = 65536 := by decide
  have n4 := fun i => numAt_lt b i 4
  have n2 := fun i => numAt_lt b i 2
  simp only [p4] at n4
  simp only [p2] at n2
  have hl : byteAt b 2 ≤ 16 := by unfold byteAt; omega
  unfold HeadOk msgOf
  have a0 := byteAt_lt b 0
  have a1 := byteAt_lt b 1
  have a2 := byteAt_lt b 2
  have a3 := byteAt_lt b 3
  have c4 := n4 4
  have c8 := n2 8
  have c10 := n2 10
  have c12 := n4 12
  have c16 := n4 16
  have c20 := n4 20
  have c24 := n4 24
  refine ⟨?_, ?_, ?_, ?_, ?_, ?_, ?_, ?_, ?_, ?_, ?_⟩ <;> (constructor <;> simp only <;> omega)
theorem read_badM {b : List UInt8} (h : (readM b).2 ≠ 0) : (readM b).1 = zeroM := by
  unfold readM at h ⊢
  by_cases h1 : b.length < 240
  · rw [if_pos h1]
  rw [if_neg h1] at h ⊢
  by_cases h2 : 1500 < b.length
  · rw [if_pos h2]
  rw [if_neg h2] at h ⊢
  by_cases h3 : sub b 236 4 ≠ cookieL ∨ 16 < (b.getD 2 0).toNat
  · rw [if_pos h3]
  rw [if_neg h3] at h ⊢
  by_cases h4 : (optionsL b).2 ≠ 0
  · rw [if_pos h4]
  · rw [if_neg h4] at h; exact absurd rfl h

/-! ### Back -/
/-- Bytes that are laid like a message's, with whatever in the two rooms. -/
theorem read_lay {m : M} (h : HeadOk m) (hc : m.ch.length = 16) {name file r : List UInt8} (hn : name.length = 64) (hf : file.length = 128) (hle : 240 + r.length ≤ 1500) {R : List O × Int}
    (hR : (if (readL [] r).2 ≠ 0 then ([], (readL [] r).2) else match findL (readL [] r).1 52 with | none => ((readL [] r).1, 0) | some d => overL (readL [] r).1 d file name) = R) :
    readM (headL m ++ (name ++ (file ++ (cookieL ++ r)))) = if R.2 ≠ 0 then (zeroM, R.2) else ({ m with os := R.1 }, 0) := by
  have hh := head_len hc
  have hck : cookieL.length = 4 := rfl
  have e1 : (headL m ++ (name ++ (file ++ (cookieL ++ r)))).drop 240 = r := by
    have e : headL m ++ (name ++ (file ++ (cookieL ++ r))) = (headL m ++ (name ++ (file ++ cookieL))) ++ r := by simp
    rw [e, List.drop_left' (by simp only [List.length_append, hh, hn, hf, hck])]
  have e2 : sub (headL m ++ (name ++ (file ++ (cookieL ++ r)))) 44 64 = name := sub_mid hh hn
  have e3 : sub (headL m ++ (name ++ (file ++ (cookieL ++ r)))) 108 128 = file := by
    have e : headL m ++ (name ++ (file ++ (cookieL ++ r))) = (headL m ++ name) ++ (file ++ (cookieL ++ r)) := by simp
    rw [e]
    exact sub_mid (by simp only [List.length_append, hh, hn]) hf
  have e4 : sub (headL m ++ (name ++ (file ++ (cookieL ++ r)))) 236 4 = cookieL := by
    have e : headL m ++ (name ++ (file ++ (cookieL ++ r))) = (headL m ++ (name ++ file)) ++ (cookieL ++ r) := by simp
    rw [e]
    exact sub_mid (by simp only [List.length_append, hh, hn, hf]) hck
  have hlen : (headL m ++ (name ++ (file ++ (cookieL ++ r)))).length = 240 + r.length := by
    simp only [List.length_append, hh, hn, hf, hck]
    omega
  have e5 : ((headL m ++ (name ++ (file ++ (cookieL ++ r)))).getD 2 0).toNat ≤ 16 := by
    have : (byteI m.hlen).toNat ≤ 16 := by
      have := byteI_back h.2.2.1.1 (by have := h.2.2.1.2; omega)
      have := h.2.2.1.2
      omega
    exact this
  have eo : optionsL (headL m ++ (name ++ (file ++ (cookieL ++ r)))) = R := by
    unfold optionsL
    rw [e1, e2, e3]
    exact hR
  unfold readM
  rw [hlen, if_neg (by omega), if_neg (by omega), e4, if_neg (by intro k; rcases k with k | k; exact k rfl; omega), eo, msgOf_head h hc]
theorem read_backM {m : M} (h : RightM m) (hle : (bytesM m).length ≤ 1500) : readM (bytesM m) = (m, 0) := by
  obtain ⟨hh, hc, hr, h52⟩ := h
  obtain ⟨k, e⟩ := bytes_lay m
  rw [e] at hle ⊢
  have hrb := read_back hr (List.replicate k 0)
  rw [read_lay hh hc (R := (m.os, 0)) List.length_replicate List.length_replicate]
  · rfl
  · simp only [List.length_append, head_len hc, List.length_replicate] at hle ⊢
    have : cookieL.length = 4 := rfl
    omega
  · rw [hrb]
    simp only [find_of_has h52]
    rfl
/-- Options in the two rooms: those behind the cookie (with overload 3) joined with the file's, then the name's. -/
theorem over_three {l file name : List O} (hl : GoodO l) (hf : GoodO file) (hn : GoodO name) {x y : List UInt8} (k j : Nat) (hx : x = writeL file ++ List.replicate k 0) (hy : y = writeL name ++ List.replicate j 0) :
    overL (l ++ [(52, [3])]) [3] x y = if (joinL l file).2 ≠ 0 then ([], (joinL l file).2) else joinL (joinL l file).1 name := by
  have hw : withoutL (l ++ [(52, [3])]) 52 = l := by
    unfold withoutL
    rw [List.filter_append]
    have e1 : l.filter (fun o => !(o.1 == 52)) = l := by
      rw [List.filter_eq_self]
      intro o ho
      have : o.1 ≠ 52 := fun e => (has_zero.1 hl.2) (by rw [← e]; exact codes_mem ho)
      simpa using this
    rw [e1]
    simp
  have hax : ∀ l', areaL l' x = joinL l' file := fun l' => by
    unfold areaL
    rw [hx, read_back hf.1]
    simp only
    rw [if_neg (by simp), if_neg (by rw [hf.2]; omega)]
  have hay : ∀ l', areaL l' y = joinL l' name := fun l' => by
    unfold areaL
    rw [hy, read_back hn.1]
    simp only
    rw [if_neg (by simp), if_neg (by rw [hn.2]; omega)]
  unfold overL
  simp only
  rw [if_neg (by decide), hw]
  unfold roomsL
  rw [if_pos (by decide), hax]
  split
  · rfl
  · rw [if_pos (by decide), hay]
theorem snoc_right {l : List O} (hl : GoodO l) (h60 : l.length < 60) : rightL (l ++ [(52, [3])]) = true := by
  have := right_joined_new (d := [3]) hl.1 (has_zero.1 hl.2) (by omega) (by omega) h60 (by simp)
  rwa [joined_new (has_zero.1 hl.2)] at this
theorem snoc_find {l : List O} (hl : GoodO l) : findL (l ++ [(52, [3])]) 52 = some [3] := by
  have h := find_hit (l := l ++ [(52, [3])]) (k := l.length) (c := 52) (by simp) (by simp) (by rw [List.take_left]; exact has_zero.1 hl.2)
  simpa using h
theorem read_areas {m : M} (h : RightM m) (h60 : m.os.length < 60) {file name : List O} (hf : GoodO file) (hn : GoodO name) {x y : List UInt8} (k j : Nat) (hx : x = writeL file ++ List.replicate k 0) (hy : y = writeL name ++ List.replicate j 0)
    (hxl : x.length = 128) (hyl : y.length = 64) (p : Nat) (hle : 240 + ((writeL (m.os ++ [(52, [3])])).length + p) ≤ 1500) {R : List O × Int} (hR : R = if (joinL m.os file).2 ≠ 0 then ([], (joinL m.os file).2) else joinL (joinL m.os file).1 name) :
    readM (headL m ++ (y ++ (x ++ (cookieL ++ (writeL (m.os ++ [(52, [3])]) ++ List.replicate p 0))))) = if R.2 ≠ 0 then (zeroM, R.2) else ({ m with os := R.1 }, 0) := by
  obtain ⟨hh, hc, hr, h52⟩ := h
  have hg : GoodO m.os := ⟨hr, h52⟩
  refine read_lay hh hc hyl hxl (by simp only [List.length_append, List.length_replicate]; omega) ?_
  rw [read_back (snoc_right hg h60)]
  simp only
  rw [if_neg (by simp), snoc_find hg]
  simp only
  rw [over_three hg hf hn k j hx hy, hR]
end Go.Proofs.YtlefpodonkdbeaaGreat.Ms
end
/- The mathematics of layer 7 (key): keys, their texts, what is read of a text, the key of a message. No program. -/
section
namespace Go.Proofs.YtlefpodonkdbeaaGreat.Ky
open Tl Ms

def rightK : List UInt8 → Bool
  | [] => false
  | x :: t => (x == 105 && decide (2 ≤ t.length ∧ t.length ≤ 255)) || (x == 104 && decide (2 ≤ t.length ∧ t.length ≤ 17))
def hexD (n : Nat) : UInt8 := if n < 10 then UInt8.ofNat (48 + n) else UInt8.ofNat (87 + n)
def hexL (t : List UInt8) : List UInt8 := t.flatMap fun b => [hexD (b.toNat / 16), hexD (b.toNat % 16)]
def textK : List UInt8 → List UInt8
  | [] => []
  | x :: t => x :: 45 :: hexL t
/-- What a digit stands for. -/
def digV (c : UInt8) : Option Nat := if 48 ≤ c.toNat ∧ c.toNat ≤ 57 then some (c.toNat - 48) else if 97 ≤ c.toNat ∧ c.toNat ≤ 102 then some (c.toNat - 87) else none
def unhexL : List UInt8 → Option (List UInt8)
  | [] => some []
  | [_] => none
  | a :: b :: r => match digV a, digV b with
    | some u, some v => (unhexL r).map (UInt8.ofNat (16 * u + v) :: ·)
    | _, _ => none
def parseK : List UInt8 → Option (List UInt8)
  | x :: y :: r => if y = 45 then (unhexL r).bind fun t => if rightK (x :: t) = true then some (x :: t) else none else none
  | _ => none

theorem hexL_nil : hexL [] = [] := rfl
theorem hexL_cons (b : UInt8) (t : List UInt8) : hexL (b :: t) = hexD (b.toNat / 16) :: hexD (b.toNat % 16) :: hexL t := by simp [hexL]
theorem hexL_snoc (t : List UInt8) (b : UInt8) : hexL (t ++ [b]) = hexL t ++ [hexD (b.toNat / 16), hexD (b.toNat % 16)] := by simp [hexL]
theorem hexL_len : ∀ t : List UInt8, (hexL t).length = 2 * t.length
  | [] => rfl
  | b :: t => by rw [hexL_cons, List.length_cons, List.length_cons, List.length_cons, hexL_len t]; omega
theorem hexD_nat {n : Nat} (h : n < 16) : (hexD n).toNat = if n < 10 then 48 + n else 87 + n := by
  unfold hexD
  split <;> rw [UInt8.toNat_ofNat'] <;> omega
theorem dig_hex {n : Nat} (h : n < 16) : digV (hexD n) = some n := by
  unfold digV
  rw [hexD_nat h]
  by_cases h1 : n < 10
  · rw [if_pos h1, if_pos (by omega)]
    congr 1
    omega
  · rw [if_neg h1, if_neg (by omega), if_pos (by omega)]
    congr 1
    omega
theorem hex_dig {c : UInt8} {n : Nat} (h : digV c = some n) : n < 16 ∧ hexD n = c := by
  unfold digV at h
  split at h
  · next h1 =>
    injection h with h
    have hn : n < 16 := by omega
    exact ⟨hn, UInt8.toNat_inj.1 (by rw [hexD_nat hn, if_pos (by omega)]; omega)⟩
  · split at h
    · next h1 =>
      injection h with h
      have hn : n < 16 := by omega
      exact ⟨hn, UInt8.toNat_inj.1 (by rw [hexD_nat hn, if_neg (by omega)]; omega)⟩
    · cases h
theorem unhex_hex : ∀ t : List UInt8, unhexL (hexL t) = some t
  | [] => rfl
  | b :: t => by
    have hb := b.toNat_lt
    rw [hexL_cons, unhexL, dig_hex (by omega), dig_hex (by omega)]
    show (unhexL (hexL t)).map _ = _
    rw [unhex_hex t]
    show some (UInt8.ofNat (16 * (b.toNat / 16) + b.toNat % 16) :: t) = some (b :: t)
    rw [show 16 * (b.toNat / 16) + b.toNat % 16 = b.toNat by omega, UInt8.ofNat_toNat]
theorem unhex_cons {a b : UInt8} {r t : List UInt8} (h : unhexL (a :: b :: r) = some t) : ∃ u v t', digV a = some u ∧ digV b = some v ∧ unhexL r = some t' ∧ t = UInt8.ofNat (16 * u + v) :: t' := by
  rw [unhexL] at h
  cases ha : digV a with
  | none => rw [ha] at h; cases h
  | some u =>
    cases hb : digV b with
    | none => rw [ha, hb] at h; cases h
    | some v =>
      rw [ha, hb] at h
      cases hr : unhexL r with
      | none => rw [hr] at h; cases h
      | some t' =>
        rw [hr] at h
        injection h with h
        exact ⟨u, v, t', rfl, rfl, rfl, h.symm⟩
theorem hex_unhex : ∀ {r t : List UInt8}, unhexL r = some t → hexL t = r
  | [], t, h => by injection h with h; subst h; rfl
  | [_], _, h => by cases h
  | a :: b :: r, t, h => by
    obtain ⟨u, v, t', ha, hb, hr, rfl⟩ := unhex_cons h
    obtain ⟨hu, eu⟩ := hex_dig ha
    obtain ⟨hv, ev⟩ := hex_dig hb
    rw [hexL_cons, hex_unhex hr, UInt8.toNat_ofNat', show (16 * u + v) % 2 ^ 8 / 16 = u by omega, show (16 * u + v) % 2 ^ 8 % 16 = v by omega, eu, ev]
theorem right_cons {k : List UInt8} (h : rightK k = true) : ∃ x t, k = x :: t ∧ 2 ≤ t.length ∧ t.length ≤ 255 := by
  match k, h with
  | x :: t, h =>
    unfold rightK at h
    simp only [Bool.or_eq_true, Bool.and_eq_true, decide_eq_true_eq] at h
    exact ⟨x, t, rfl, by omega, by omega⟩
/-- A text is read as k just if it is k's text, and k is right. -/
theorem parse_iff {s k : List UInt8} : parseK s = some k ↔ rightK k = true ∧ textK k = s := by
  constructor
  · intro h
    match s, h with
    | [], h => cases h
    | [_], h => cases h
    | x :: y :: r, h =>
      rw [parseK] at h
      split at h
      · next hy =>
        subst hy
        cases hr : unhexL r with
        | none => rw [hr] at h; cases h
        | some t =>
          rw [hr] at h
          change (if rightK (x :: t) = true then some (x :: t) else none) = some k at h
          split at h
          · next hk =>
            injection h with h
            subst h
            exact ⟨hk, by rw [textK, hex_unhex hr]⟩
          · cases h
      · cases h
  · rintro ⟨hk, rfl⟩
    obtain ⟨x, t, rfl, _, _⟩ := right_cons hk
    rw [textK, parseK, if_pos rfl, unhex_hex]
    show (if rightK (x :: t) = true then some (x :: t) else none) = _
    rw [if_pos hk]
theorem text_len {k : List UInt8} (h : rightK k = true) : (textK k).length = 2 * k.length ∧ 3 ≤ k.length ∧ k.length ≤ 256 := by
  obtain ⟨x, t, rfl, h1, h2⟩ := right_cons h
  rw [textK, List.length_cons, List.length_cons, hexL_len, List.length_cons]
  omega
/-! ### The document's way of reading: what it may be the text of has just this text -/
def valU (c : UInt8) : UInt8 := if 97 ≤ c.toNat then c - 87 else c - 48
def pairsU : List UInt8 → List UInt8
  | a :: b :: r => (valU a * 16 + valU b) :: pairsU r
  | _ => []
theorem val_dig {c : UInt8} {n : Nat} (h : digV c = some n) : valU c = UInt8.ofNat n := by
  unfold digV at h
  unfold valU
  split at h
  · next h1 =>
    injection h with h
    rw [if_neg (by omega)]
    apply UInt8.toNat_inj.1
    rw [UInt8.toNat_sub, UInt8.toNat_ofNat']
    show (2 ^ 8 - 48 + c.toNat) % 2 ^ 8 = n % 2 ^ 8
    omega
  · split at h
    · next h1 =>
      injection h with h
      rw [if_pos (by omega)]
      apply UInt8.toNat_inj.1
      rw [UInt8.toNat_sub, UInt8.toNat_ofNat']
      show (2 ^ 8 - 87 + c.toNat) % 2 ^ 8 = n % 2 ^ 8
      omega
    · cases h
theorem pairs_unhex : ∀ {r t : List UInt8}, unhexL r = some t → pairsU r = t
  | [], t, h => by injection h with h
  | [_], _, h => by cases h
  | a :: b :: r, t, h => by
    obtain ⟨u, v, t', ha, hb, hr, rfl⟩ := unhex_cons h
    obtain ⟨hu, _⟩ := hex_dig ha
    obtain ⟨hv, _⟩ := hex_dig hb
    rw [pairsU, pairs_unhex hr, val_dig ha, val_dig hb]
    congr 1
    apply UInt8.toNat_inj.1
    rw [UInt8.toNat_add, UInt8.toNat_mul, UInt8.toNat_ofNat', UInt8.toNat_ofNat', UInt8.toNat_ofNat']
    show (u % 2 ^ 8 * 16 % 2 ^ 8 + v % 2 ^ 8) % 2 ^ 8 = (16 * u + v) % 2 ^ 8
    omega
/-- The document's Parse, of a text of two letters or more. -/
theorem parse_ref (x y : UInt8) (r : List UInt8) : parseK (x :: y :: r) = if rightK (x :: pairsU r) = true ∧ textK (x :: pairsU r) = x :: y :: r then some (x :: pairsU r) else none := by
  split
  · next h => exact parse_iff.2 h
  · next h =>
    cases hp : parseK (x :: y :: r) with
    | none => rfl
    | some k =>
      exfalso
      obtain ⟨h1, h2⟩ := parse_iff.1 hp
      obtain ⟨x', t, rfl, _, _⟩ := right_cons h1
      rw [textK] at h2
      injection h2 with e1 e2
      injection e2 with e2 e3
      subst e1; subst e3
      rw [pairs_unhex (unhex_hex t)] at h
      exact h ⟨h1, by rw [textK, e2]⟩
theorem parse_short {s : List UInt8} (h : s.length < 4) : parseK s = none := by
  cases hp : parseK s with
  | none => rfl
  | some k =>
    obtain ⟨h1, h2⟩ := parse_iff.1 hp
    have := text_len h1
    rw [h2] at this
    omega
theorem parse_long {s : List UInt8} (h : 512 < s.length) : parseK s = none := by
  cases hp : parseK s with
  | none => rfl
  | some k =>
    obtain ⟨h1, h2⟩ := parse_iff.1 hp
    have := text_len h1
    rw [h2] at this
    omega
theorem parse_odd {s : List UInt8} (h : s.length % 2 = 1) : parseK s = none := by
  cases hp : parseK s with
  | none => rfl
  | some k =>
    obtain ⟨h1, h2⟩ := parse_iff.1 hp
    have := text_len h1
    rw [h2] at this
    omega
/-! ### The key of a message -/
def clientL (m : M) : List UInt8 := (findL m.os 61).getD []
def ofK (m : M) : List UInt8 × Int :=
  if RightM m then (if 255 < (clientL m).length then ([], 3) else if 1 < (clientL m).length then (105 :: clientL m, 0) else if m.hlen = 0 then ([], 5) else (104 :: byteI m.htype :: m.ch.take m.hlen.toNat, 0)) else ([], 1)
theorem of_wrong {m : M} (h : ¬ RightM m) : ofK m = ([], 1) := by unfold ofK; rw [if_neg h]
theorem of_full {m : M} (h : RightM m) (h1 : 255 < (clientL m).length) : ofK m = ([], 3) := by unfold ofK; rw [if_pos h, if_pos h1]
theorem of_client {m : M} (h : RightM m) (h1 : ¬ 255 < (clientL m).length) (h2 : 1 < (clientL m).length) : ofK m = (105 :: clientL m, 0) := by unfold ofK; rw [if_pos h, if_neg h1, if_pos h2]
theorem of_none {m : M} (h : RightM m) (h2 : ¬ 1 < (clientL m).length) (h3 : m.hlen = 0) : ofK m = ([], 5) := by unfold ofK; rw [if_pos h, if_neg (by omega), if_neg h2, if_pos h3]
theorem of_head {m : M} (h : RightM m) (h2 : ¬ 1 < (clientL m).length) (h3 : m.hlen ≠ 0) : ofK m = (104 :: byteI m.htype :: m.ch.take m.hlen.toNat, 0) := by unfold ofK; rw [if_pos h, if_neg (by omega), if_neg h2, if_neg h3]
/-- A key that is told is right. -/
theorem of_right {m : M} (h : (ofK m).2 = 0) : rightK (ofK m).1 = true := by
  by_cases h0 : RightM m
  · by_cases h1 : 255 < (clientL m).length
    · rw [of_full h0 h1] at h; cases h
    · by_cases h2 : 1 < (clientL m).length
      · rw [of_client h0 h1 h2]
        unfold rightK
        simp only [Bool.or_eq_true, Bool.and_eq_true, decide_eq_true_eq]
        exact .inl ⟨rfl, by omega, by omega⟩
      · by_cases h3 : m.hlen = 0
        · rw [of_none h0 h2 h3] at h; cases h
        · rw [of_head h0 h2 h3]
          obtain ⟨hh, hc, _⟩ := h0
          obtain ⟨_, _, ⟨a, b⟩, _⟩ := hh
          unfold rightK
          simp only [Bool.or_eq_true, Bool.and_eq_true, decide_eq_true_eq]
          refine .inr ⟨rfl, ?_, ?_⟩ <;> rw [List.length_cons, List.length_take, hc] <;> omega
  · rw [of_wrong h0] at h; cases h
/-- P7.4: with such an option the key hangs on the options alone. -/
theorem hangs_client {m n : M} (hm : RightM m) (hn : RightM n) (h : 1 < (clientL m).length) : ofK { n with os := m.os } = ofK m := by
  have hx : RightM { n with os := m.os } := ⟨hn.1, hn.2.1, hm.2.2⟩
  have hc : clientL { n with os := m.os } = clientL m := rfl
  by_cases h1 : 255 < (clientL m).length
  · rw [of_full hm h1, of_full hx (by rw [hc]; exact h1)]
  · rw [of_client hm h1 h, of_client hx (by rw [hc]; exact h1) (by rw [hc]; exact h), hc]
/-- P7.4: without it the key hangs on the head alone. -/
theorem hangs_head {m : M} (hm : RightM m) (h : ¬ 1 < (clientL m).length) : ofK { m with os := [] } = ofK m := by
  have hx : RightM { m with os := [] } := ⟨hm.1, hm.2.1, rfl, rfl⟩
  have hc : ¬ 1 < (clientL { m with os := [] }).length := by show ¬ 1 < 0; omega
  by_cases h3 : m.hlen = 0
  · rw [of_none hm h h3, of_none hx hc h3]
  · rw [of_head hm h h3, of_head hx hc h3]
end Go.Proofs.YtlefpodonkdbeaaGreat.Ky
end
/- The mathematics of layer 9 (record): leases as bytes. No program. -/
section
namespace Go.Proofs.YtlefpodonkdbeaaGreat.Rc
open Co Ky

structure L where
  addr : Int
  state : Int
  till : Int
  key : List UInt8
def zeroL : L := ⟨0, 0, 0, []⟩
def RightR (l : L) : Prop := (0 ≤ l.addr ∧ l.addr ≤ 4294967295) ∧ (1 ≤ l.state ∧ l.state ≤ 3) ∧ (0 ≤ l.till ∧ l.till ≤ 1125899906842624) ∧ rightK l.key = true
instance (l : L) : Decidable (RightR l) := by unfold RightR; infer_instance
def rightR (l : L) : Bool := decide (RightR l)
def encR (l : L) : List UInt8 := putL l.addr.toNat 4 ++ (UInt8.ofNat l.state.toNat :: (putL l.till.toNat 7 ++ l.key))
/-- What Write answers: the bytes, and the error. -/
def writeR (l : L) : List UInt8 × Int := if RightR l then (encR l, 0) else ([], 1)
def heldR (b : List UInt8) : L := ⟨(valL (b.take 4) : Nat), ((b.getD 4 0).toNat : Nat), (valL ((b.drop 5).take 7) : Nat), b.drop 12⟩
/-- What Read answers: the lease, and the error. -/
def readR (b : List UInt8) : L × Int := if b.length < 12 then (zeroL, 4) else if RightR (heldR b) then (heldR b, 0) else (zeroL, 2)
theorem enc_len (l : L) : (encR l).length = 12 + l.key.length := by
  unfold encR
  rw [List.length_append, putL_length, List.length_cons, List.length_append, putL_length]
  omega
theorem held_enc {l : L} (h : RightR l) : heldR (encR l) = l := by
  obtain ⟨⟨a0, a1⟩, ⟨s0, s1⟩, ⟨t0, t1⟩, _⟩ := h
  obtain ⟨a, s, t, k⟩ := l
  simp only at a0 a1 s0 s1 t0 t1
  have e1 : (encR ⟨a, s, t, k⟩).take 4 = putL a.toNat 4 := List.take_left' (putL_length 4 _)
  have e2 : (encR ⟨a, s, t, k⟩).drop 4 = UInt8.ofNat s.toNat :: (putL t.toNat 7 ++ k) := List.drop_left' (putL_length 4 _)
  have e3 : (encR ⟨a, s, t, k⟩).drop 5 = putL t.toNat 7 ++ k := by rw [show 5 = 4 + 1 from rfl, ← List.drop_drop, e2]; rfl
  have e4 : (encR ⟨a, s, t, k⟩).drop 12 = k := by rw [show 12 = 5 + 7 from rfl, ← List.drop_drop, e3]; exact List.drop_left' (putL_length 7 _)
  have e5 : (encR ⟨a, s, t, k⟩).getD 4 0 = UInt8.ofNat s.toNat := by
    have : (encR ⟨a, s, t, k⟩)[4]? = some (UInt8.ofNat s.toNat) := by
      have h0 := congrArg (·[0]?) e2
      simp only [List.getElem?_drop] at h0
      exact h0
    rw [List.getD_eq_getElem?_getD, this]
    rfl
  have e6 : ((encR ⟨a, s, t, k⟩).drop 5).take 7 = putL t.toNat 7 := by rw [e3]; exact List.take_left' (putL_length 7 _)
  have p4 : p256 4 = 4294967296 := by decide
  have p7 : p256 7 = 72057594037927936 := by decide
  unfold heldR
  rw [e1, e4, e5, e6, valL_putL 4 _ (by rw [p4]; omega), valL_putL 7 _ (by rw [p7]; omega), UInt8.toNat_ofNat']
  congr 1 <;> omega
/-- P9.3: a lease that was written is read as it was. -/
theorem read_write {l : L} (h : RightR l) : readR (encR l) = (l, 0) := by
  unfold readR
  rw [if_neg (by rw [enc_len]; omega), held_enc h, if_pos h]
theorem enc_held {b : List UInt8} (h : 12 ≤ b.length) : encR (heldR b) = b := by
  have hs : (b.getD 4 0).toNat < 256 := (b.getD 4 0).toNat_lt
  have e1 : putL (heldR b).addr.toNat 4 = b.take 4 := by
    show putL ((valL (b.take 4) : Nat) : Int).toNat 4 = _
    rw [Int.toNat_natCast, putL_valL 4 _ (by rw [List.length_take]; omega)]
  have e2 : putL (heldR b).till.toNat 7 = (b.drop 5).take 7 := by
    show putL ((valL ((b.drop 5).take 7) : Nat) : Int).toNat 7 = _
    rw [Int.toNat_natCast, putL_valL 7 _ (by rw [List.length_take, List.length_drop]; omega)]
  have e3 : UInt8.ofNat (heldR b).state.toNat = b.getD 4 0 := by
    show UInt8.ofNat (((b.getD 4 0).toNat : Nat) : Int).toNat = _
    rw [Int.toNat_natCast, UInt8.ofNat_toNat]
  unfold encR
  rw [e1, e2, e3]
  show b.take 4 ++ (b.getD 4 0 :: ((b.drop 5).take 7 ++ b.drop 12)) = b
  have e4 : (b.drop 5).take 7 ++ b.drop 12 = b.drop 5 := by
    have := List.take_append_drop 7 (b.drop 5)
    rw [List.drop_drop] at this
    exact this
  have h4 : 4 < b.length := by omega
  rw [e4, show b.getD 4 0 = b[4] by rw [List.getD_eq_getElem?_getD, List.getElem?_eq_getElem h4]; rfl, ← List.drop_eq_getElem_cons h4, List.take_append_drop]
theorem read_ok {b : List UInt8} (h : (readR b).2 = 0) : 12 ≤ b.length ∧ RightR (heldR b) ∧ readR b = (heldR b, 0) := by
  unfold readR at *
  split at h
  · cases h
  · split at h
    · next h1 h2 => exact ⟨by omega, h2, by rw [if_neg h1, if_pos h2]⟩
    · cases h
/-- P9.3: what was read has just the bytes that it was read from. -/
theorem read_only {b : List UInt8} (h : (readR b).2 = 0) : writeR (readR b).1 = (b, 0) := by
  obtain ⟨h1, h2, h3⟩ := read_ok h
  rw [h3]
  unfold writeR
  rw [if_pos h2, enc_held h1]
theorem read_err {b : List UInt8} (h : (readR b).2 ≠ 0) : (readR b).1 = zeroL := by
  unfold readR at *
  split
  · rfl
  · next h1 =>
    rw [if_neg h1] at h
    split
    · next h2 => rw [if_pos h2] at h; exact absurd rfl h
    · rfl
end Go.Proofs.YtlefpodonkdbeaaGreat.Rc
end
/- The mathematics of layer 8 (disk): disks, their names, what is done to them, in the document's words; every disk that is told is right. No program. -/
section
namespace Go.Proofs.YtlefpodonkdbeaaGreat.Dk

abbrev N := List UInt8
abbrev E := N × Int
structure F where
  d : List UInt8
  s : Int
structure D where
  fs : List F
  now : List E
  kept : List E
def zeroD : D := ⟨[], [], []⟩

/-! ### The order of names -/
theorem lt_irr (a : N) : ¬ a < a := List.lt_irrefl a
theorem lt_tr {a b c : N} (h : a < b) (k : b < c) : a < c := List.lt_trans h k
theorem lt_or {a b : N} (h : ¬ a < b) (hne : a ≠ b) : b < a := by
  rcases Decidable.em (b < a) with k | k
  · exact k
  · exact absurd (List.le_antisymm (List.not_lt.1 k) (List.not_lt.1 h)) hne

/-! ### Names -/
def FairN (n : N) : Prop := 1 ≤ n.length ∧ n.length ≤ 16
instance (n : N) : Decidable (FairN n) := by unfold FairN; infer_instance
def findE : List E → N → Option Int
  | [], _ => none
  | e :: l, n => if e.1 = n then some e.2 else findE l n
def Ord (l : List E) : Prop := l.Pairwise fun a b => a.1 < b.1 ∧ a.2 ≠ b.2
instance (l : List E) : Decidable (Ord l) := by unfold Ord; infer_instance
def Named (l : List E) (m : Nat) : Prop := (∀ e ∈ l, FairN e.1 ∧ 0 ≤ e.2 ∧ e.2 < (m : Int)) ∧ Ord l
instance (l : List E) (m : Nat) : Decidable (Named l m) := by unfold Named; infer_instance
theorem find_mem : ∀ {l : List E} {n : N} {f : Int}, findE l n = some f → (n, f) ∈ l
  | [], _, _, h => by cases h
  | e :: l, n, f, h => by
    rw [findE] at h
    split at h
    · next he =>
      injection h with h
      subst he; subst h
      exact .head _
    · exact .tail _ (find_mem h)
theorem find_none : ∀ {l : List E} {n : N}, findE l n = none ↔ ∀ e ∈ l, e.1 ≠ n
  | [], _ => ⟨fun _ e he => (by cases he), fun _ => rfl⟩
  | e :: l, n => by
    rw [findE]
    constructor
    · intro h
      split at h
      · cases h
      · next he =>
        intro a ha
        rcases List.mem_cons.1 ha with rfl | ha
        · exact he
        · exact find_none.1 h a ha
    · intro h
      rw [if_neg (h e (.head _))]
      exact find_none.2 fun a ha => h a (.tail _ ha)
theorem find_iff : ∀ {l : List E} {n : N} {f : Int}, Ord l → (findE l n = some f ↔ (n, f) ∈ l)
  | [], _, _, _ => ⟨fun h => (by cases h), fun h => (by cases h)⟩
  | e :: l, n, f, ho => by
    refine ⟨find_mem, fun h => ?_⟩
    obtain ⟨h1, h2⟩ := List.pairwise_cons.1 ho
    rw [findE]
    rcases List.mem_cons.1 h with rfl | h
    · rw [if_pos rfl]
    · rw [if_neg (fun k => by have := (h1 _ h).1; rw [k] at this; exact lt_irr _ this)]
      exact (find_iff h2).2 h
/-- Two names of one file are one. -/
theorem ord_file {l : List E} (ho : Ord l) {a b : E} (ha : a ∈ l) (hb : b ∈ l) (h : a.2 = b.2) : a = b := by
  induction l with
  | nil => cases ha
  | cons e l ih =>
    obtain ⟨h1, h2⟩ := List.pairwise_cons.1 ho
    rcases List.mem_cons.1 ha with ea | ka <;> rcases List.mem_cons.1 hb with eb | kb
    · rw [ea, eb]
    · exact absurd (ea ▸ h) (h1 _ kb).2
    · exact absurd (eb ▸ h.symm) (h1 _ ka).2
    · exact ih h2 ka kb
def withoutE (l : List E) (n : N) : List E := l.filter fun e => decide (e.1 ≠ n)
theorem mem_without {l : List E} {n : N} {e : E} : e ∈ withoutE l n ↔ e ∈ l ∧ e.1 ≠ n := by unfold withoutE; rw [List.mem_filter, decide_eq_true_iff]
theorem ord_without {l : List E} {n : N} (h : Ord l) : Ord (withoutE l n) := List.Pairwise.filter _ h
theorem named_without {l : List E} {m : Nat} {n : N} (h : Named l m) : Named (withoutE l n) m := ⟨fun e he => h.1 e (mem_without.1 he).1, ord_without h.2⟩
def withE : List E → N → Int → List E
  | [], n, f => [(n, f)]
  | e :: l, n, f => if n < e.1 then (n, f) :: e :: l else e :: withE l n f
theorem mem_with : ∀ {l : List E} {n : N} {f : Int} {e : E}, e ∈ withE l n f ↔ e = (n, f) ∨ e ∈ l
  | [], n, f, e => by simp [withE]
  | a :: l, n, f, e => by
    rw [withE]
    split
    · simp
    · rw [List.mem_cons, mem_with, List.mem_cons]
      constructor
      · rintro (h | h | h)
        · exact .inr (.inl h)
        · exact .inl h
        · exact .inr (.inr h)
      · rintro (h | h | h)
        · exact .inr (.inl h)
        · exact .inl h
        · exact .inr (.inr h)
theorem ord_with : ∀ {l : List E} {n : N} {f : Int}, Ord l → (∀ e ∈ l, e.1 ≠ n) → (∀ e ∈ l, e.2 ≠ f) → Ord (withE l n f)
  | [], n, f, _, _, _ => by unfold withE Ord; exact List.pairwise_singleton _ _
  | a :: l, n, f, h, hn, hf => by
    obtain ⟨h1, h2⟩ := List.pairwise_cons.1 h
    rw [withE]
    split
    · next hlt =>
      refine List.pairwise_cons.2 ⟨fun b hb => ?_, h⟩
      refine ⟨?_, fun k => hf b hb k.symm⟩
      rcases List.mem_cons.1 hb with rfl | hb
      · exact hlt
      · exact lt_tr hlt (h1 b hb).1
    · next hlt =>
      refine List.pairwise_cons.2 ⟨fun b hb => ?_, ord_with h2 (fun e he => hn e (.tail _ he)) (fun e he => hf e (.tail _ he))⟩
      rcases mem_with.1 hb with rfl | hb
      · exact ⟨lt_or hlt (fun k => hn a (.head _) k.symm), hf a (.head _)⟩
      · exact h1 b hb
theorem named_with {l : List E} {m : Nat} {n : N} {f : Int} (h : Named l m) (hn : FairN n) (hno : ∀ e ∈ l, e.1 ≠ n) (hf : ∀ e ∈ l, e.2 ≠ f) (h0 : 0 ≤ f) (h1 : f < (m : Int)) : Named (withE l n f) m :=
  ⟨fun e he => by
    rcases mem_with.1 he with rfl | he
    · exact ⟨hn, h0, h1⟩
    · exact h.1 e he, ord_with h.2 hno hf⟩
theorem named_more {l : List E} {m k : Nat} (h : Named l m) (hk : m ≤ k) : Named l k := ⟨fun e he => by obtain ⟨a, b, c⟩ := h.1 e he; exact ⟨a, b, by omega⟩, h.2⟩

/-! ### The files as they come up -/
def addF (acc : List Int) (f : Int) : List Int := if f ∈ acc then acc else acc ++ [f]
def firstsFrom (acc l : List Int) : List Int := l.foldl addF acc
def firsts (l : List Int) : List Int := firstsFrom [] l
theorem from_cons (acc : List Int) (f : Int) (l : List Int) : firstsFrom acc (f :: l) = firstsFrom (addF acc f) l := rfl
theorem from_app (acc l m : List Int) : firstsFrom acc (l ++ m) = firstsFrom (firstsFrom acc l) m := List.foldl_append
theorem mem_add {acc : List Int} {f g : Int} : g ∈ addF acc f ↔ g ∈ acc ∨ g = f := by
  unfold addF
  split
  · next h => exact ⟨.inl, fun k => k.elim id (fun e => e ▸ h)⟩
  · simp
theorem nodup_add {acc : List Int} {f : Int} (h : acc.Nodup) : (addF acc f).Nodup := by
  unfold addF
  split
  · exact h
  · next k =>
    rw [List.nodup_append]
    exact ⟨h, List.nodup_cons.2 ⟨List.not_mem_nil, List.nodup_nil⟩, fun a ha b hb e => by simp at hb; subst hb; subst e; exact k ha⟩
theorem mem_from : ∀ {l acc : List Int} {g : Int}, g ∈ firstsFrom acc l ↔ g ∈ acc ∨ g ∈ l
  | [], acc, g => by simp [firstsFrom]
  | f :: l, acc, g => by
    rw [from_cons, mem_from, mem_add, List.mem_cons]
    constructor
    · rintro ((h | h) | h)
      · exact .inl h
      · exact .inr (.inl h)
      · exact .inr (.inr h)
    · rintro (h | h | h)
      · exact .inl (.inl h)
      · exact .inl (.inr h)
      · exact .inr h
theorem nodup_from : ∀ {l acc : List Int}, acc.Nodup → (firstsFrom acc l).Nodup
  | [], _, h => h
  | f :: l, acc, h => by rw [from_cons]; exact nodup_from (nodup_add h)
theorem mem_firsts {l : List Int} {g : Int} : g ∈ firsts l ↔ g ∈ l := by unfold firsts; rw [mem_from]; simp
theorem nodup_firsts (l : List Int) : (firsts l).Nodup := nodup_from List.nodup_nil
/-- What has come up already adds nothing. -/
theorem from_old : ∀ {l acc : List Int}, (∀ f ∈ l, f ∈ acc) → firstsFrom acc l = acc
  | [], _, _ => rfl
  | f :: l, acc, h => by
    rw [from_cons, show addF acc f = acc by unfold addF; rw [if_pos (h f (.head _))]]
    exact from_old fun g hg => h g (.tail _ hg)
/-- What has not come up comes up as it stands. -/
theorem from_new : ∀ {l acc : List Int}, l.Nodup → (∀ f ∈ l, f ∉ acc) → firstsFrom acc l = acc ++ l
  | [], acc, _, _ => by simp [firstsFrom]
  | f :: l, acc, hd, h => by
    obtain ⟨h1, h2⟩ := List.nodup_cons.1 hd
    rw [from_cons, show addF acc f = acc ++ [f] by unfold addF; rw [if_neg (h f (.head _))], from_new h2]
    · simp
    · intro g hg hm
      rcases List.mem_append.1 hm with hm | hm
      · exact h g (.tail _ hg) hm
      · simp at hm; subst hm; exact h1 hg
theorem firsts_nodup {l : List Int} (h : l.Nodup) : firsts l = l := by unfold firsts; rw [from_new h (fun _ _ => List.not_mem_nil)]; rfl
/-- Other numbers for the same files. -/
theorem from_map (g : Int → Int) : ∀ {l acc : List Int}, (∀ a ∈ acc ++ l, ∀ b ∈ acc ++ l, g a = g b → a = b) → firstsFrom (acc.map g) (l.map g) = (firstsFrom acc l).map g
  | [], _, _ => rfl
  | f :: l, acc, h => by
    rw [List.map_cons, from_cons, from_cons]
    have e : addF (acc.map g) (g f) = (addF acc f).map g := by
      unfold addF
      by_cases hf : f ∈ acc
      · rw [if_pos hf, if_pos (List.mem_map.2 ⟨f, hf, rfl⟩)]
      · rw [if_neg hf, if_neg, List.map_append]
        · rfl
        · intro k
          obtain ⟨a, ha, hg⟩ := List.mem_map.1 k
          have := h a (List.mem_append_left _ ha) f (List.mem_append_right _ (.head _)) hg
          subst this
          exact hf ha
    rw [e]
    refine from_map g fun a ha b hb => h a ?_ b ?_
    · rcases List.mem_append.1 ha with ha | ha
      · rcases mem_add.1 ha with ha | ha
        · exact List.mem_append_left _ ha
        · exact List.mem_append_right _ (ha ▸ .head _)
      · exact List.mem_append_right _ (.tail _ ha)
    · rcases List.mem_append.1 hb with hb | hb
      · rcases mem_add.1 hb with hb | hb
        · exact List.mem_append_left _ hb
        · exact List.mem_append_right _ (hb ▸ .head _)
      · exact List.mem_append_right _ (.tail _ hb)
theorem firsts_map (g : Int → Int) {l : List Int} (h : ∀ a ∈ l, ∀ b ∈ l, g a = g b → a = b) : firsts (l.map g) = (firsts l).map g := from_map g (acc := []) (by simpa using h)
/-- The place of a file among those that have come up. -/
def idx (l : List Int) (f : Int) : Int := (l.idxOf f : Nat)
theorem idx_lt {l : List Int} {f : Int} (h : f ∈ l) : 0 ≤ idx l f ∧ idx l f < (l.length : Int) := by
  have := List.idxOf_lt_length_of_mem h
  unfold idx
  omega
theorem get_idx {l : List Int} {f : Int} (h : f ∈ l) : l[l.idxOf f]'(List.idxOf_lt_length_of_mem h) = f := List.getElem_idxOf _
theorem idx_inj {l : List Int} {f g : Int} (hf : f ∈ l) (hg : g ∈ l) (h : idx l f = idx l g) : f = g := by
  have e : l.idxOf f = l.idxOf g := by unfold idx at h; omega
  rw [← get_idx hf, ← get_idx hg]
  simp only [e]
def rangeZ (n : Nat) : List Int := (List.range n).map fun i : Nat => (i : Int)
theorem map_idx {l : List Int} (h : l.Nodup) : l.map (idx l) = rangeZ l.length := by
  apply List.ext_getElem
  · simp [rangeZ]
  · intro i h1 h2
    simp only [List.getElem_map, rangeZ, List.getElem_range]
    unfold idx
    rw [List.length_map] at h1
    have : l.idxOf l[i] = i := List.Nodup.idxOf_getElem h i h1
    rw [this]
theorem nodup_range (n : Nat) : (rangeZ n).Nodup := by
  unfold rangeZ
  exact List.Pairwise.map _ (fun a b hab k => hab (by omega)) List.nodup_range
theorem mem_range {n : Nat} {f : Int} : f ∈ rangeZ n ↔ 0 ≤ f ∧ f < (n : Int) := by
  unfold rangeZ
  rw [List.mem_map]
  constructor
  · rintro ⟨i, hi, rfl⟩
    rw [List.mem_range] at hi
    omega
  · rintro ⟨h1, h2⟩
    exact ⟨f.toNat, by rw [List.mem_range]; omega, by omega⟩
theorem idx_range {n : Nat} {f : Int} (h0 : 0 ≤ f) (h1 : f < (n : Int)) : idx (rangeZ n) f = f := by
  have hm : f ∈ rangeZ n := mem_range.2 ⟨h0, h1⟩
  have hl := List.idxOf_lt_length_of_mem hm
  have := get_idx hm
  simp only [rangeZ, List.getElem_map, List.getElem_range] at this
  exact this
end Go.Proofs.YtlefpodonkdbeaaGreat.Dk
end
/- The mathematics of layer 8, continued: which disks are right, a disk put in order, what is done to a disk, and that each disk that is told is right. No program. -/
section
namespace Go.Proofs.YtlefpodonkdbeaaGreat.Dk

def FileOk (f : F) : Prop := f.d.length ≤ 20000 ∧ 0 ≤ f.s ∧ f.s ≤ (f.d.length : Int)
instance (f : F) : Decidable (FileOk f) := by unfold FileOk; infer_instance
def filesOf (l : List E) : List Int := l.map (·.2)
def cameD (d : D) : List Int := firsts (filesOf (d.now ++ d.kept))
/-- Right but for the order of its files. -/
def Loose (d : D) : Prop := Named d.now d.fs.length ∧ Named d.kept d.fs.length ∧ ∀ f ∈ d.fs, FileOk f
def RightD (d : D) : Prop := d.fs.length ≤ 20 ∧ Loose d ∧ cameD d = rangeZ d.fs.length
instance (d : D) : Decidable (Loose d) := by unfold Loose; infer_instance
instance (d : D) : Decidable (RightD d) := by unfold RightD; infer_instance
def goodD (d : D) : D := if RightD d then d else zeroD
theorem zero_right : RightD zeroD := by decide
theorem good_right (d : D) : RightD (goodD d) := by
  unfold goodD
  split
  · assumption
  · exact zero_right
theorem good_of {d : D} (h : RightD d) : goodD d = d := if_pos h
def fileAt (d : D) (f : Int) : F := d.fs.getD f.toNat ⟨[], 0⟩
theorem fileAt_mem {d : D} {f : Int} (h0 : 0 ≤ f) (h1 : f < (d.fs.length : Int)) : fileAt d f ∈ d.fs := by
  unfold fileAt
  have h : f.toNat < d.fs.length := by omega
  rw [List.getD_eq_getElem?_getD, List.getElem?_eq_getElem h]
  exact List.getElem_mem h

/-! ### A disk put in order -/
def renum (l : List E) (c : List Int) : List E := l.map fun e => (e.1, idx c e.2)
def orderedD (d : D) : D := ⟨(cameD d).map (fileAt d), renum d.now (cameD d), renum d.kept (cameD d)⟩
theorem files_renum (l : List E) (c : List Int) : filesOf (renum l c) = (filesOf l).map (idx c) := by simp [filesOf, renum]
theorem mem_came {d : D} {f : Int} : f ∈ cameD d ↔ f ∈ filesOf d.now ∨ f ∈ filesOf d.kept := by
  unfold cameD
  rw [mem_firsts, filesOf, List.map_append, List.mem_append]
  rfl
theorem now_came {d : D} {e : E} (h : e ∈ d.now) : e.2 ∈ cameD d := mem_came.2 (.inl (List.mem_map.2 ⟨e, h, rfl⟩))
theorem kept_came {d : D} {e : E} (h : e ∈ d.kept) : e.2 ∈ cameD d := mem_came.2 (.inr (List.mem_map.2 ⟨e, h, rfl⟩))
theorem came_range {d : D} (h : Loose d) {f : Int} (hf : f ∈ cameD d) : 0 ≤ f ∧ f < (d.fs.length : Int) := by
  rcases mem_came.1 hf with k | k
  · obtain ⟨e, he, rfl⟩ := List.mem_map.1 k
    exact (h.1.1 e he).2
  · obtain ⟨e, he, rfl⟩ := List.mem_map.1 k
    exact (h.2.1.1 e he).2
theorem named_renum {l : List E} {m : Nat} {c : List Int} (h : Named l m) (hc : ∀ e ∈ l, e.2 ∈ c) : Named (renum l c) c.length := by
  refine ⟨fun e he => ?_, ?_⟩
  · obtain ⟨a, ha, rfl⟩ := List.mem_map.1 he
    exact ⟨(h.1 a ha).1, idx_lt (hc a ha)⟩
  · have ho := h.2
    unfold Ord renum at *
    rw [List.pairwise_map]
    refine List.Pairwise.imp_of_mem (fun {a b} ha hb hab => ⟨hab.1, fun k => hab.2 (idx_inj (hc a ha) (hc b hb) k)⟩) ho
theorem came_ordered (d : D) : cameD (orderedD d) = rangeZ (cameD d).length := by
  have hn : (cameD d).Nodup := nodup_firsts _
  show firsts (filesOf (renum d.now (cameD d) ++ renum d.kept (cameD d))) = _
  rw [show filesOf (renum d.now (cameD d) ++ renum d.kept (cameD d)) = (filesOf (d.now ++ d.kept)).map (idx (cameD d)) by simp [filesOf, renum]; rfl]
  rw [firsts_map]
  · exact map_idx hn
  · intro a ha b hb
    exact idx_inj (mem_firsts.2 ha) (mem_firsts.2 hb)
theorem ordered_right {d : D} (h : Loose d) (hl : (cameD d).length ≤ 20) : RightD (orderedD d) := by
  have e : (orderedD d).fs.length = (cameD d).length := List.length_map ..
  refine ⟨by rw [e]; exact hl, ⟨?_, ?_, ?_⟩, by rw [e]; exact came_ordered d⟩
  · rw [e]; exact named_renum h.1 fun a ha => now_came ha
  · rw [e]; exact named_renum h.2.1 fun a ha => kept_came ha
  · intro f hf
    obtain ⟨g, hg, rfl⟩ := List.mem_map.1 hf
    obtain ⟨h0, h1⟩ := came_range h hg
    exact h.2.2 _ (fileAt_mem h0 h1)
theorem nodup_sub : ∀ {n : Nat} {l : List Int}, l.Nodup → (∀ f ∈ l, 0 ≤ f ∧ f < (n : Int)) → l.length ≤ n
  | 0, [], _, _ => Nat.le_refl _
  | 0, f :: _, _, h => by have := h f (.head _); omega
  | n + 1, l, hd, h => by
    by_cases hm : (n : Int) ∈ l
    · have h1 := nodup_sub (n := n) (hd.erase (n : Int)) fun f hf => by
        obtain ⟨k1, k2⟩ := (List.Nodup.mem_erase_iff hd).1 hf
        have := h f k2
        omega
      rw [List.length_erase_of_mem hm] at h1
      omega
    · have h1 := nodup_sub (n := n) hd fun f hf => by
        have h2 := h f hf
        have h3 : f ≠ (n : Int) := fun k => hm (k ▸ hf)
        omega
      omega
theorem came_few {d : D} (h : Loose d) : (cameD d).length ≤ d.fs.length := nodup_sub (nodup_firsts _) fun _ hf => came_range h hf
theorem renum_range {l : List E} {m : Nat} (h : Named l m) : renum l (rangeZ m) = l := by
  unfold renum
  conv => rhs; rw [← List.map_id l]
  apply List.map_congr_left
  intro e he
  obtain ⟨_, h0, h1⟩ := h.1 e he
  rw [idx_range h0 h1]
  rfl
/-- A right disk is in order. -/
theorem ordered_id {d : D} (h : RightD d) : orderedD d = d := by
  obtain ⟨_, ⟨h1, h2, _⟩, hc⟩ := h
  obtain ⟨fs, now, kept⟩ := d
  unfold orderedD
  rw [hc]
  have e1 : (rangeZ fs.length).map (fileAt ⟨fs, now, kept⟩) = fs := by
    apply List.ext_getElem
    · simp [rangeZ]
    · intro i k1 k2
      simp only [rangeZ, List.getElem_map, List.getElem_range, fileAt, List.getD_eq_getElem?_getD, Int.toNat_natCast, List.getElem?_eq_getElem k2, Option.getD_some]
  show D.mk ((rangeZ fs.length).map (fileAt ⟨fs, now, kept⟩)) (renum now (rangeZ fs.length)) (renum kept (rangeZ fs.length)) = _
  rw [e1, renum_range h1, renum_range h2]
theorem find_renum {c : List Int} : ∀ {l : List E} {n : N}, findE (renum l c) n = (findE l n).map (idx c)
  | [], _ => rfl
  | e :: l, n => by
    show findE ((e.1, idx c e.2) :: renum l c) n = _
    rw [findE, findE]
    by_cases h : e.1 = n
    · rw [if_pos h, if_pos h]; rfl
    · rw [if_neg h, if_neg h]; exact find_renum
theorem fileAt_ordered {d : D} {f : Int} (h : f ∈ cameD d) : fileAt (orderedD d) (idx (cameD d) f) = fileAt d f := by
  have hl := List.idxOf_lt_length_of_mem h
  show ((cameD d).map (fileAt d)).getD (idx (cameD d) f).toNat ⟨[], 0⟩ = _
  rw [show (idx (cameD d) f).toNat = (cameD d).idxOf f by unfold idx; omega, List.getD_eq_getElem?_getD, List.getElem?_eq_getElem (by rw [List.length_map]; exact hl), List.getElem_map, get_idx h]
  rfl

/-! ### What is done to a disk -/
def getK (d : D) (n : N) : List UInt8 × Int := match findE (goodD d).now n with
  | none => ([], 5)
  | some f => ((fileAt (goodD d) f).d, 0)
def setD (d : D) (f : Int) (x : F) : D := { d with fs := d.fs.set f.toNat x }
def newD (d : D) (n : N) (b : List UInt8) : D := ⟨d.fs ++ [⟨b, 0⟩], withE d.now n d.fs.length, d.kept⟩
def appendG (d : D) (n : N) (b : List UInt8) : D × Int :=
  if FairN n then match findE d.now n with
    | none => if 20 ≤ d.fs.length ∨ 20000 < b.length then (d, 3) else (orderedD (newD d n b), 0)
    | some f => if 20000 < (fileAt d f).d.length + b.length then (d, 3) else (setD d f ⟨(fileAt d f).d ++ b, (fileAt d f).s⟩, 0)
  else (d, 1)
def syncG (d : D) (n : N) : D × Int := match findE d.now n with
  | none => (d, 5)
  | some f => (setD d f ⟨(fileAt d f).d, (fileAt d f).d.length⟩, 0)
def cutG (d : D) (n : N) (k : Int) : D × Int := match findE d.now n with
  | none => (d, 5)
  | some f => if k < 0 ∨ (fileAt d f).d.length < k then (d, 1) else (setD d f ⟨(fileAt d f).d.take k.toNat, k⟩, 0)
def moved (d : D) (n t : N) (f : Int) : D := { d with now := withE (withoutE (withoutE d.now n) t) t f }
def renameG (d : D) (n t : N) : D × Int := match findE d.now n with
  | none => (d, 5)
  | some f => if FairN t then (orderedD (moved d n t f), 0) else (d, 1)
def removeG (d : D) (n : N) : D × Int := match findE d.now n with
  | none => (d, 5)
  | some _ => (orderedD { d with now := withoutE d.now n }, 0)
def syncDirG (d : D) : D := orderedD { d with kept := d.now }
/-- How many bytes are there behind a crash. -/
def leftN (f : F) (k : Option Int) : Nat := match k with
  | none => f.s.toNat
  | some x => if 0 < x then (if (f.d.length : Int) - f.s < x then f.d.length else (f.s + x).toNat) else f.s.toNat
def crashF (f : F) (k : Option Int) : F := ⟨f.d.take (leftN f k), leftN f k⟩
def dirOf (d : D) (dir : Bool) : List E := if dir then d.now else d.kept
def crashFs (d : D) (keep : List Int) : Nat → List E → List F
  | _, [] => []
  | i, e :: l => crashF (fileAt d e.2) keep[i]? :: crashFs d keep (i + 1) l
def crashEs : Nat → List E → List E
  | _, [] => []
  | i, e :: l => (e.1, (i : Int)) :: crashEs (i + 1) l
def crashG (d : D) (keep : List Int) (dir : Bool) : D := ⟨crashFs d keep 0 (dirOf d dir), crashEs 0 (dirOf d dir), crashEs 0 (dirOf d dir)⟩

/-! ### Each disk that is told is right -/
theorem find_range {d : D} (h : RightD d) {n : N} {f : Int} (hf : findE d.now n = some f) : 0 ≤ f ∧ f < (d.fs.length : Int) := (h.2.1.1.1 _ (find_mem hf)).2
theorem set_right {d : D} (h : RightD d) {f : Int} {x : F} (hx : FileOk x) : RightD (setD d f x) := by
  obtain ⟨h1, ⟨h2, h3, h4⟩, h5⟩ := h
  have e : (setD d f x).fs.length = d.fs.length := List.length_set ..
  refine ⟨by rw [e]; exact h1, ⟨by rw [e]; exact h2, by rw [e]; exact h3, fun g hg => ?_⟩, by rw [e]; exact h5⟩
  rcases List.mem_or_eq_of_mem_set hg with k | k
  · exact h4 g k
  · exact k ▸ hx
theorem file_ok {d : D} (h : RightD d) {n : N} {f : Int} (hf : findE d.now n = some f) : FileOk (fileAt d f) := by
  obtain ⟨a, b⟩ := find_range h hf
  exact h.2.1.2.2 _ (fileAt_mem a b)
theorem new_loose {d : D} (h : RightD d) {n : N} {b : List UInt8} (hn : FairN n) (hno : findE d.now n = none) (hb : b.length ≤ 20000) : Loose (newD d n b) := by
  obtain ⟨_, ⟨h2, h3, h4⟩, _⟩ := h
  have e : (newD d n b).fs.length = d.fs.length + 1 := by simp [newD]
  refine ⟨?_, ?_, ?_⟩
  · rw [e]
    refine named_with (named_more h2 (Nat.le_succ _)) hn (find_none.1 hno) (fun a ha k => ?_) (by omega) (by omega)
    have := (h2.1 a ha).2.2
    omega
  · rw [e]; exact named_more h3 (Nat.le_succ _)
  · intro f hf
    rcases List.mem_append.1 hf with k | k
    · exact h4 f k
    · simp at k
      subst k
      exact ⟨hb, Int.le_refl _, by show (0 : Int) ≤ _; omega⟩
theorem new_right {d : D} (h : RightD d) {n : N} {b : List UInt8} (hn : FairN n) (hno : findE d.now n = none) (hl : d.fs.length < 20) (hb : b.length ≤ 20000) : RightD (orderedD (newD d n b)) := by
  have hL := new_loose h hn hno hb
  refine ordered_right hL ?_
  have := came_few hL
  have e : (newD d n b).fs.length = d.fs.length + 1 := by simp [newD]
  omega
theorem append_right {d : D} (h : RightD d) (n : N) (b : List UInt8) : RightD (appendG d n b).1 := by
  unfold appendG
  split
  · next hn =>
    split
    · next hf =>
      split
      · exact h
      · next k => exact new_right h hn hf (by omega) (by omega)
    · next f hf =>
      split
      · exact h
      · next k =>
        obtain ⟨k1, k2, k3⟩ := file_ok h hf
        exact set_right h ⟨by show ((fileAt d f).d ++ b).length ≤ 20000; rw [List.length_append]; omega, k2, by show (fileAt d f).s ≤ ((((fileAt d f).d ++ b).length : Nat) : Int); rw [List.length_append]; omega⟩
  · exact h
theorem sync_right {d : D} (h : RightD d) (n : N) : RightD (syncG d n).1 := by
  unfold syncG
  split
  · exact h
  · next f hf =>
    obtain ⟨k1, _, _⟩ := file_ok h hf
    exact set_right h ⟨k1, by show (0 : Int) ≤ ((_ : Nat) : Int); omega, Int.le_refl _⟩
theorem cut_right {d : D} (h : RightD d) (n : N) (k : Int) : RightD (cutG d n k).1 := by
  unfold cutG
  split
  · exact h
  · next f hf =>
    split
    · exact h
    · next hk =>
      obtain ⟨k1, _, _⟩ := file_ok h hf
      refine set_right h ⟨?_, by show 0 ≤ k; omega, ?_⟩
      · show (List.take _ _).length ≤ _
        rw [List.length_take]
        omega
      · show k ≤ (((List.take _ _).length : Nat) : Int)
        rw [List.length_take]
        omega
theorem sub_right {d : D} (h : RightD d) {l : List E} (hl : Named l d.fs.length) : RightD (orderedD { d with now := l }) := by
  have hL : Loose { d with now := l } := ⟨hl, h.2.1.2.1, h.2.1.2.2⟩
  exact ordered_right hL (Nat.le_trans (came_few hL) h.1)
theorem moved_named {d : D} (h : RightD d) {n t : N} {f : Int} (hf : findE d.now n = some f) (ht : FairN t) : Named (moved d n t f).now d.fs.length := by
  have hN := h.2.1.1
  obtain ⟨a, b⟩ := find_range h hf
  refine named_with (named_without (named_without hN)) ht (fun e he => (mem_without.1 he).2) (fun e he k => ?_) a b
  obtain ⟨he1, _⟩ := mem_without.1 he
  obtain ⟨he2, he3⟩ := mem_without.1 he1
  have := ord_file hN.2 he2 (find_mem hf) k
  exact he3 (by rw [this])
theorem rename_right {d : D} (h : RightD d) (n t : N) : RightD (renameG d n t).1 := by
  unfold renameG
  split
  · exact h
  · next f hf =>
    split
    · next ht => exact sub_right h (moved_named h hf ht)
    · exact h
theorem remove_right {d : D} (h : RightD d) (n : N) : RightD (removeG d n).1 := by
  unfold removeG
  split
  · exact h
  · exact sub_right h (named_without h.2.1.1)
theorem syncDir_right {d : D} (h : RightD d) : RightD (syncDirG d) := by
  have hL : Loose { d with kept := d.now } := ⟨h.2.1.1, h.2.1.1, h.2.1.2.2⟩
  exact ordered_right hL (Nat.le_trans (came_few hL) h.1)
theorem left_le {f : F} (h : FileOk f) (k : Option Int) : f.s.toNat ≤ leftN f k ∧ leftN f k ≤ f.d.length := by
  obtain ⟨_, h1, h2⟩ := h
  unfold leftN
  split
  · omega
  · split
    · split <;> omega
    · omega
theorem crashF_ok {f : F} (h : FileOk f) (k : Option Int) : FileOk (crashF f k) := by
  have := left_le h k
  obtain ⟨h0, h1, h2⟩ := h
  refine ⟨?_, by show (0 : Int) ≤ ((_ : Nat) : Int); omega, ?_⟩
  · show (List.take _ _).length ≤ _
    rw [List.length_take]
    omega
  · show ((leftN f k : Nat) : Int) ≤ (((List.take _ _).length : Nat) : Int)
    rw [List.length_take]
    omega
theorem crashFs_len (d : D) (keep : List Int) : ∀ (l : List E) (i : Nat), (crashFs d keep i l).length = l.length
  | [], _ => rfl
  | _ :: l, i => by rw [crashFs, List.length_cons, List.length_cons, crashFs_len d keep l]
theorem crashEs_files : ∀ (l : List E) (i : Nat), filesOf (crashEs i l) = (List.range' i l.length).map fun j : Nat => (j : Int)
  | [], _ => rfl
  | _ :: l, i => by
    rw [crashEs, List.length_cons, List.range'_succ, List.map_cons]
    show (i : Int) :: filesOf (crashEs (i + 1) l) = _
    rw [crashEs_files l]
theorem crashEs_mem : ∀ {l : List E} {i : Nat} {e : E}, e ∈ crashEs i l → (∃ a ∈ l, a.1 = e.1) ∧ (i : Int) ≤ e.2 ∧ e.2 < ((i + l.length : Nat) : Int)
  | [], _, _, h => by cases h
  | a :: l, i, e, h => by
    rw [crashEs] at h
    rcases List.mem_cons.1 h with rfl | h
    · exact ⟨⟨a, .head _, rfl⟩, Int.le_refl _, by show (i : Int) < _; rw [List.length_cons]; omega⟩
    · obtain ⟨⟨b, hb, e1⟩, h1, h2⟩ := crashEs_mem h
      exact ⟨⟨b, .tail _ hb, e1⟩, by omega, by rw [List.length_cons]; omega⟩
theorem crashEs_ord : ∀ {l : List E} {i : Nat}, Ord l → Ord (crashEs i l)
  | [], _, h => h
  | a :: l, i, h => by
    obtain ⟨h1, h2⟩ := List.pairwise_cons.1 h
    rw [crashEs]
    refine List.pairwise_cons.2 ⟨fun e he => ?_, crashEs_ord h2⟩
    obtain ⟨⟨b, hb, e1⟩, h3, _⟩ := crashEs_mem he
    exact ⟨by show a.1 < e.1; rw [← e1]; exact (h1 b hb).1, by show (i : Int) ≠ e.2; omega⟩
theorem dir_named {d : D} (h : RightD d) (dir : Bool) : Named (dirOf d dir) d.fs.length := by
  unfold dirOf
  split
  · exact h.2.1.1
  · exact h.2.1.2.1
theorem crash_right {d : D} (h : RightD d) (keep : List Int) (dir : Bool) : RightD (crashG d keep dir) := by
  have hN := dir_named h dir
  generalize hl : dirOf d dir = l at hN
  have hfl : (filesOf l).length ≤ d.fs.length := by
    refine nodup_sub ?_ fun f hf => ?_
    · have ho := hN.2
      unfold Ord at ho
      unfold filesOf
      exact List.pairwise_map.2 (ho.imp fun hab => hab.2)
    · obtain ⟨e, he, rfl⟩ := List.mem_map.1 hf
      exact (hN.1 e he).2
  have hll : l.length ≤ 20 := by
    have e : (filesOf l).length = l.length := List.length_map ..
    have := h.1
    omega
  have hes : Named (crashEs 0 l) l.length := ⟨fun e he => by
    obtain ⟨⟨b, hb, e1⟩, h1, h2⟩ := crashEs_mem he
    exact ⟨e1 ▸ (hN.1 b hb).1, by omega, by omega⟩, crashEs_ord hN.2⟩
  have hfs : ∀ (m : List E) (i : Nat), (∀ e ∈ m, e ∈ l) → ∀ f ∈ crashFs d keep i m, FileOk f := by
    intro m
    induction m with
    | nil => intro i _ f hf; cases hf
    | cons e m ih =>
      intro i hm f hf
      rw [crashFs] at hf
      rcases List.mem_cons.1 hf with rfl | hf
      · obtain ⟨_, a, b⟩ := hN.1 e (hm e (.head _))
        exact crashF_ok (h.2.1.2.2 _ (fileAt_mem a b)) _
      · exact ih (i + 1) (fun e he => hm e (.tail _ he)) f hf
  unfold crashG
  rw [hl]
  have e0 : (crashFs d keep 0 l).length = l.length := crashFs_len d keep l 0
  refine ⟨by show (crashFs d keep 0 l).length ≤ 20; rw [e0]; exact hll, ⟨by show Named (crashEs 0 l) (crashFs d keep 0 l).length; rw [e0]; exact hes, by show Named (crashEs 0 l) (crashFs d keep 0 l).length; rw [e0]; exact hes, hfs l 0 fun _ he => he⟩, ?_⟩
  show firsts (filesOf (crashEs 0 l ++ crashEs 0 l)) = rangeZ (crashFs d keep 0 l).length
  rw [e0]
  have e1 : filesOf (crashEs 0 l) = rangeZ l.length := by rw [crashEs_files, ← List.range_eq_range']; rfl
  rw [show filesOf (crashEs 0 l ++ crashEs 0 l) = rangeZ l.length ++ rangeZ l.length by rw [filesOf, List.map_append]; show filesOf _ ++ filesOf _ = _; rw [e1]]
  unfold firsts
  rw [from_app, from_new (nodup_range _) (fun _ _ => List.not_mem_nil), List.nil_append]
  exact from_old fun _ hf => hf
end Go.Proofs.YtlefpodonkdbeaaGreat.Dk
end
/- The mathematics of layer 8, the end: what is synced lasts (P8.5), a file renamed over another one (P8.6), what is cut, removed and comes anew (P8.2, P8.3). No program. -/
section
namespace Go.Proofs.YtlefpodonkdbeaaGreat.Dk

def appendK (d : D) (n : N) (b : List UInt8) : D × Int := appendG (goodD d) n b
def syncK (d : D) (n : N) : D × Int := syncG (goodD d) n
def cutK (d : D) (n : N) (k : Int) : D × Int := cutG (goodD d) n k
def renameK (d : D) (n t : N) : D × Int := renameG (goodD d) n t
def removeK (d : D) (n : N) : D × Int := removeG (goodD d) n
def syncDirK (d : D) : D := syncDirG (goodD d)
def crashK (d : D) (keep : List Int) (dir : Bool) : D := crashG (goodD d) keep dir
def namesK (d : D) : List N := (goodD d).now.map (·.1)
theorem get_right {d : D} (h : RightD d) {n : N} {f : Int} (hf : findE d.now n = some f) : getK d n = ((fileAt d f).d, 0) := by unfold getK; rw [good_of h, hf]
theorem get_none {d : D} (h : RightD d) {n : N} (hf : findE d.now n = none) : getK d n = ([], 5) := by unfold getK; rw [good_of h, hf]

/-! ### Files of a disk that was changed -/
theorem fileAt_set {d : D} {f : Int} {x : F} (h0 : 0 ≤ f) (h1 : f < (d.fs.length : Int)) : fileAt (setD d f x) f = x := by
  unfold fileAt setD
  have h : f.toNat < d.fs.length := by omega
  rw [List.getD_eq_getElem?_getD, List.getElem?_set_self h]
  rfl
theorem fileAt_other {d : D} {f g : Int} {x : F} (h0 : 0 ≤ f) (h1 : 0 ≤ g) (hne : f ≠ g) : fileAt (setD d f x) g = fileAt d g := by
  unfold fileAt setD
  have h : f.toNat ≠ g.toNat := by omega
  rw [List.getD_eq_getElem?_getD, List.getD_eq_getElem?_getD, List.getElem?_set_ne h]
theorem fileAt_new {d : D} {n : N} {b : List UInt8} {f : Int} (h0 : 0 ≤ f) (h1 : f < (d.fs.length : Int)) : fileAt (newD d n b) f = fileAt d f := by
  unfold fileAt newD
  have h : f.toNat < d.fs.length := by omega
  rw [List.getD_eq_getElem?_getD, List.getD_eq_getElem?_getD, List.getElem?_append_left h]
theorem fileAt_last (d : D) (n : N) (b : List UInt8) : fileAt (newD d n b) (d.fs.length : Int) = ⟨b, 0⟩ := by
  unfold fileAt newD
  rw [List.getD_eq_getElem?_getD, show ((d.fs.length : Nat) : Int).toNat = d.fs.length by omega, List.getElem?_append_right (Nat.le_refl _), Nat.sub_self]
  rfl

/-! ### What was appended is there -/
theorem append_there {d : D} (h : RightD d) {n : N} {b : List UInt8} (h0 : (appendG d n b).2 = 0) :
    ∃ f, findE (appendG d n b).1.now n = some f ∧ ((findE d.now n = none → (fileAt (appendG d n b).1 f).d = b)) := by
  unfold appendG at *
  split at h0
  · next hn =>
    rw [if_pos hn]
    split at h0
    · next hf =>
      rw [hf]
      split at h0
      · cases h0
      · next k =>
        simp only [if_neg k]
        have hL := new_loose h hn hf (b := b) (by omega)
        have hm : ((n, (d.fs.length : Int)) : E) ∈ (newD d n b).now := mem_with.2 (.inl rfl)
        have hfd : findE (newD d n b).now n = some (d.fs.length : Int) := (find_iff hL.1.2).2 hm
        refine ⟨idx (cameD (newD d n b)) (d.fs.length : Int), ?_, fun _ => ?_⟩
        · show findE (renum (newD d n b).now (cameD (newD d n b))) n = _
          rw [find_renum, hfd]
          rfl
        · rw [fileAt_ordered (now_came hm), fileAt_last]
    · next f hf =>
      rw [hf]
      split at h0
      · cases h0
      · next k =>
        simp only [if_neg k]
        exact ⟨f, hf, fun k => by cases k⟩
  · cases h0

/-! ### What lasts -/
def Lasts (d : D) (n : N) (was : List UInt8) : Prop := RightD d ∧ ∃ f, findE d.now n = some f ∧ findE d.kept n = some f ∧ was <+: (fileAt d f).d ∧ (was.length : Int) ≤ (fileAt d f).s
theorem lasts_append {d : D} {n m : N} {was b : List UInt8} (h : Lasts d n was) : Lasts (appendG d m b).1 n was := by
  obtain ⟨hr, f, h1, h2, h3, h4⟩ := h
  refine ⟨append_right hr m b, ?_⟩
  obtain ⟨r0, r1⟩ := find_range hr h1
  unfold appendG
  split
  · next hn =>
    split
    · next hf =>
      split
      · exact ⟨f, h1, h2, h3, h4⟩
      · next k =>
        have hL := new_loose hr hn hf (b := b) (by omega)
        have hm : ((n, f) : E) ∈ (newD d m b).now := mem_with.2 (.inr (find_mem h1))
        refine ⟨idx (cameD (newD d m b)) f, ?_, ?_, ?_, ?_⟩
        · show findE (renum (newD d m b).now _) n = _
          rw [find_renum, (find_iff hL.1.2).2 hm]
          rfl
        · show findE (renum d.kept _) n = _
          rw [find_renum, h2]
          rfl
        · rw [fileAt_ordered (now_came hm), fileAt_new r0 r1]
          exact h3
        · rw [fileAt_ordered (now_came hm), fileAt_new r0 r1]
          exact h4
    · next g hg =>
      split
      · exact ⟨f, h1, h2, h3, h4⟩
      · obtain ⟨g0, g1⟩ := find_range hr hg
        refine ⟨f, h1, h2, ?_, ?_⟩
        · by_cases e : g = f
          · subst e
            rw [fileAt_set g0 g1]
            exact List.IsPrefix.trans h3 (List.prefix_append _ _)
          · rw [fileAt_other g0 r0 e]
            exact h3
        · by_cases e : g = f
          · subst e
            rw [fileAt_set g0 g1]
            exact h4
          · rw [fileAt_other g0 r0 e]
            exact h4
  · exact ⟨f, h1, h2, h3, h4⟩
/-- What is synced, and its name: told, and lasting. -/
theorem sync_lasts {d : D} (h : RightD d) {n : N} {f : Int} (hf : findE d.now n = some f) :
    (syncG d n).2 = 0 ∧ getK (syncDirG (syncG d n).1) n = ((fileAt d f).d, 0) ∧ Lasts (syncDirG (syncG d n).1) n (fileAt d f).d := by
  have hy := sync_right h n
  have e : syncG d n = (setD d f ⟨(fileAt d f).d, (fileAt d f).d.length⟩, 0) := by unfold syncG; rw [hf]
  rw [e] at hy ⊢
  obtain ⟨r0, r1⟩ := find_range h hf
  have hz := syncDir_right hy
  refine ⟨rfl, ?_⟩
  generalize hs : setD d f ⟨(fileAt d f).d, (fileAt d f).d.length⟩ = y at *
  have hyf : findE y.now n = some f := by rw [← hs]; exact hf
  have hyd : fileAt y f = ⟨(fileAt d f).d, (fileAt d f).d.length⟩ := by rw [← hs]; exact fileAt_set r0 r1
  have hm : f ∈ cameD { y with kept := y.now } := now_came (d := { y with kept := y.now }) (e := (n, f)) (find_mem hyf)
  have h1 : findE (syncDirG y).now n = some (idx (cameD { y with kept := y.now }) f) := by
    show findE (renum y.now _) n = _
    rw [find_renum, hyf]
    rfl
  have h2 : findE (syncDirG y).kept n = some (idx (cameD { y with kept := y.now }) f) := h1
  have h3 : fileAt (syncDirG y) (idx (cameD { y with kept := y.now }) f) = ⟨(fileAt d f).d, (fileAt d f).d.length⟩ := by
    show fileAt (orderedD _) _ = _
    rw [fileAt_ordered hm]
    exact hyd
  refine ⟨by rw [get_right hz h1, h3], hz, _, h1, h2, ?_, ?_⟩
  · rw [h3]
    exact List.prefix_refl _
  · rw [h3]
    exact Int.le_refl _

/-! ### Behind a crash -/
theorem crash_find {d : D} {keep : List Int} {n : N} {f : Int} : ∀ {l : List E} {i : Nat}, findE l n = some f →
    ∃ j, findE (crashEs i l) n = some ((i + j : Nat) : Int) ∧ (crashFs d keep i l)[j]? = some (crashF (fileAt d f) keep[i + j]?)
  | [], _, h => by cases h
  | e :: l, i, h => by
    rw [findE] at h
    rw [crashEs, crashFs, findE]
    split at h
    · next he =>
      injection h with h
      subst h
      exact ⟨0, by rw [if_pos he]; rfl, rfl⟩
    · next he =>
      obtain ⟨j, h1, h2⟩ := crash_find (i := i + 1) h
      exact ⟨j + 1, by rw [if_neg he, h1, show i + 1 + j = i + (j + 1) by omega], by rw [List.getElem?_cons_succ, h2, show i + 1 + j = i + (j + 1) by omega]⟩
theorem crash_get {d : D} (h : RightD d) {keep : List Int} {dir : Bool} {n : N} {f : Int} (hf : findE (dirOf d dir) n = some f) :
    ∃ k, getK (crashG d keep dir) n = ((crashF (fileAt d f) k).d, 0) ∧ ∃ j : Nat, k = keep[j]? := by
  obtain ⟨j, h1, h2⟩ := crash_find (d := d) (keep := keep) (i := 0) hf
  refine ⟨keep[0 + j]?, ?_, _, rfl⟩
  rw [get_right (crash_right h keep dir) h1]
  show (((crashFs d keep 0 (dirOf d dir)).getD ((0 + j : Nat) : Int).toNat ⟨[], 0⟩).d, (0 : Int)) = _
  rw [show ((0 + j : Nat) : Int).toNat = j by omega, List.getD_eq_getElem?_getD, h2]
  rfl
/-- P8.5. -/
theorem lasts_crash {d : D} {n : N} {was : List UInt8} (h : Lasts d n was) (keep : List Int) (dir : Bool) : ∃ l, getK (crashG d keep dir) n = (l, 0) ∧ was <+: l := by
  obtain ⟨hr, f, h1, h2, h3, h4⟩ := h
  have hf : findE (dirOf d dir) n = some f := by
    unfold dirOf
    split
    · exact h1
    · exact h2
  obtain ⟨k, hk, _⟩ := crash_get hr (keep := keep) hf
  refine ⟨_, hk, ?_⟩
  have := left_le (file_ok hr h1) k
  show was <+: List.take _ _
  rw [List.prefix_take_iff]
  exact ⟨h3, by omega⟩

/-! ### What is cut, removed, and comes anew -/
theorem cut_ok {d : D} {n : N} {k : Int} (h0 : (cutG d n k).2 = 0) : ∃ f, findE d.now n = some f ∧ 0 ≤ k ∧ k ≤ ((fileAt d f).d.length : Int) ∧ (cutG d n k).1 = setD d f ⟨(fileAt d f).d.take k.toNat, k⟩ := by
  unfold cutG at *
  split at h0
  · cases h0
  · next f hf =>
    split at h0
    · cases h0
    · next hk => exact ⟨f, hf, by omega, by omega, by simp only [if_neg hk]⟩
theorem left_all {f : F} (h : f.s = (f.d.length : Int)) (k : Option Int) : crashF f k = f := by
  have e : leftN f k = f.d.length := by
    unfold leftN
    split
    · omega
    · split
      · split <;> omega
      · omega
  unfold crashF
  rw [e, List.take_length]
  obtain ⟨fd, fs⟩ := f
  simp only at h
  rw [h]
/-- What is cut off is gone, and what is left lasts. -/
theorem cut_lasts {d : D} (h : RightD d) {n : N} {k : Int} (h0 : (cutG d n k).2 = 0) : 0 ≤ k ∧ k ≤ ((getK d n).1.length : Int) ∧ getK (crashG (cutG d n k).1 [] true) n = ((getK d n).1.take k.toNat, 0) := by
  obtain ⟨f, hf, k0, k1, e⟩ := cut_ok h0
  have hr := cut_right h n k
  rw [e] at hr ⊢
  obtain ⟨r0, r1⟩ := find_range h hf
  rw [get_right h hf]
  refine ⟨k0, k1, ?_⟩
  have hf2 : findE (dirOf (setD d f ⟨(fileAt d f).d.take k.toNat, k⟩) true) n = some f := hf
  obtain ⟨x, hx, _⟩ := crash_get hr (keep := []) hf2
  rw [hx, fileAt_set r0 r1, left_all]
  show k = (((List.take k.toNat (fileAt d f).d).length : Nat) : Int)
  rw [List.length_take]
  omega
theorem remove_none {d : D} {n : N} {f : Int} (hf : findE d.now n = some f) : findE (removeG d n).1.now n = none := by
  have e : (removeG d n).1 = orderedD { d with now := withoutE d.now n } := by unfold removeG; rw [hf]
  rw [e]
  show findE (renum (withoutE d.now n) _) n = none
  rw [find_renum, find_none.2 fun a ha => (mem_without.1 ha).2]
  rfl
/-- What is removed is gone, and comes anew as a file of nothing. -/
theorem remove_anew {d : D} (h : RightD d) {n : N} {b : List UInt8} (h0 : (removeG d n).2 = 0) : getK (removeG d n).1 n = ([], 5) ∧ ((appendG (removeG d n).1 n b).2 = 0 → getK (appendG (removeG d n).1 n b).1 n = (b, 0)) := by
  cases hf : findE d.now n with
  | none => unfold removeG at h0; rw [hf] at h0; cases h0
  | some f =>
    have hr := remove_right h n
    have hn := remove_none hf
    refine ⟨get_none hr hn, fun k => ?_⟩
    obtain ⟨g, g1, g2⟩ := append_there hr k
    rw [get_right (append_right hr n b) g1, g2 hn]
theorem remove_fails {d : D} {n : N} {k : Int} (h0 : (removeG d n).2 ≠ 0) : (removeG d n).2 = 5 ∧ (cutG d n k).2 ≠ 0 := by
  unfold removeG cutG at *
  cases hf : findE d.now n with
  | none => exact ⟨rfl, by show (5 : Int) ≠ 0; decide⟩
  | some f => rw [hf] at h0; exact absurd rfl h0

/-! ### A file renamed over another one -/
def nJ : N := [106]
def nK : N := [107]
def full (b : List UInt8) : F := ⟨b, b.length⟩
theorem j1 (b : List UInt8) (h : b.length ≤ 20000) : appendG zeroD nJ b = (⟨[⟨b, 0⟩], [(nJ, 0)], []⟩, 0) := by
  have e : appendG zeroD nJ b = if 20 ≤ 0 ∨ 20000 < b.length then (zeroD, 3) else (orderedD (newD zeroD nJ b), 0) := rfl
  rw [e, if_neg (by omega)]
  rfl
theorem j2 (b : List UInt8) : syncDirG (syncG ⟨[⟨b, 0⟩], [(nJ, 0)], []⟩ nJ).1 = ⟨[full b], [(nJ, 0)], [(nJ, 0)]⟩ := rfl
theorem j3 (a b : List UInt8) (h : b.length ≤ 20000) : appendG ⟨[full a], [(nJ, 0)], [(nJ, 0)]⟩ nK b = (⟨[full a, ⟨b, 0⟩], [(nJ, 0), (nK, 1)], [(nJ, 0)]⟩, 0) := by
  have e : appendG ⟨[full a], [(nJ, 0)], [(nJ, 0)]⟩ nK b = if 20 ≤ 1 ∨ 20000 < b.length then (⟨[full a], [(nJ, 0)], [(nJ, 0)]⟩, 3) else (orderedD (newD ⟨[full a], [(nJ, 0)], [(nJ, 0)]⟩ nK b), 0) := rfl
  rw [e, if_neg (by omega)]
  rfl
theorem j4 (a b : List UInt8) : (syncG ⟨[full a, ⟨b, 0⟩], [(nJ, 0), (nK, 1)], [(nJ, 0)]⟩ nK).1 = ⟨[full a, full b], [(nJ, 0), (nK, 1)], [(nJ, 0)]⟩ := rfl
theorem j5 (a b : List UInt8) : renameG ⟨[full a, full b], [(nJ, 0), (nK, 1)], [(nJ, 0)]⟩ nK nJ = (⟨[full b, full a], [(nJ, 0)], [(nJ, 1)]⟩, 0) := rfl
theorem j6 (a b : List UInt8) : syncDirG ⟨[full b, full a], [(nJ, 0)], [(nJ, 1)]⟩ = ⟨[full b], [(nJ, 0)], [(nJ, 0)]⟩ := rfl
theorem renamed_right (a b : List UInt8) (ha : a.length ≤ 20000) (hb : b.length ≤ 20000) : RightD ⟨[full a], [(nJ, 0)], [(nJ, 0)]⟩ ∧ RightD ⟨[full a, full b], [(nJ, 0), (nK, 1)], [(nJ, 0)]⟩ ∧ RightD ⟨[full b, full a], [(nJ, 0)], [(nJ, 1)]⟩ ∧ RightD ⟨[full b], [(nJ, 0)], [(nJ, 0)]⟩ := by
  have r1 := append_right zero_right nJ a
  rw [j1 a ha] at r1
  have r2 := syncDir_right (sync_right r1 nJ)
  rw [j2] at r2
  have r3 := append_right r2 nK b
  rw [j3 a b hb] at r3
  have r4 := sync_right r3 nK
  rw [j4] at r4
  have r5 := rename_right r4 nK nJ
  rw [j5] at r5
  have r6 := syncDir_right r5
  rw [j6] at r6
  exact ⟨r2, r4, r5, r6⟩
theorem renamed_crash (a b : List UInt8) (ha : a.length ≤ 20000) (hb : b.length ≤ 20000) (keep : List Int) (dir : Bool) :
    getK (crashG ⟨[full b, full a], [(nJ, 0)], [(nJ, 1)]⟩ keep dir) nJ = (if dir then b else a, 0) ∧ getK (crashG ⟨[full b], [(nJ, 0)], [(nJ, 0)]⟩ keep dir) nJ = (b, 0) := by
  obtain ⟨_, _, r5, r6⟩ := renamed_right a b ha hb
  constructor
  · cases dir with
    | true =>
      obtain ⟨k, hk, _⟩ := crash_get r5 (keep := keep) (dir := true) (n := nJ) (f := 0) rfl
      rw [hk, left_all rfl]
      rfl
    | false =>
      obtain ⟨k, hk, _⟩ := crash_get r5 (keep := keep) (dir := false) (n := nJ) (f := 1) rfl
      rw [hk, left_all rfl]
      rfl
  · obtain ⟨k, hk, _⟩ := crash_get r6 (keep := keep) (dir := dir) (n := nJ) (f := 0) (by cases dir <;> rfl)
    rw [hk, left_all rfl]
    rfl
end Go.Proofs.YtlefpodonkdbeaaGreat.Dk
end
/- The mathematics of layer 8, what the program's own way asks: names entry by entry, numbers given one by one. No program. -/
section
namespace Go.Proofs.YtlefpodonkdbeaaGreat.Dk

/-! ### Names, entry by entry -/
theorem ord_take {l : List E} (h : Ord l) (k : Nat) : Ord (l.take k) := List.Pairwise.sublist (List.take_sublist k l) h
theorem named_take {l : List E} {m : Nat} (h : Named l m) (k : Nat) : Named (l.take k) m := ⟨fun e he => h.1 e (List.mem_of_mem_take he), ord_take h.2 k⟩
theorem take_next {α : Type} {l : List α} {k : Nat} {x : α} (h : l[k]? = some x) : l.take (k + 1) = l.take k ++ [x] := by rw [List.take_add_one, h]; rfl
theorem last_take {α : Type} {l : List α} {k : Nat} {x : α} (h : l[k]? = some x) : x ∈ l.take (k + 1) := by rw [take_next h]; simp
/-- One more entry. -/
theorem named_snoc {a : List E} {m : Nat} {s : N} {f : Int} (h : Named a m) (hs : FairN s) (h0 : 0 ≤ f) (h1 : f < (m : Int)) (hl : ∀ x ∈ a, x.1 < s) (hf : ∀ x ∈ a, x.2 ≠ f) : Named (a ++ [(s, f)]) m := by
  refine ⟨fun e he => ?_, ?_⟩
  · rcases List.mem_append.1 he with he | he
    · exact h.1 e he
    · simp at he
      subst he
      exact ⟨hs, h0, h1⟩
  · refine List.pairwise_append.2 ⟨h.2, List.pairwise_singleton _ _, fun x hx y hy => ?_⟩
    simp at hy
    subst hy
    exact ⟨hl x hx, hf x hx⟩
/-- What is below the last one of names in order is below all. -/
theorem all_below {l : List E} {k : Nat} {s t : N} {f : Int} (h : Ord (l.take (k + 1))) (hk : l[k]? = some (t, f)) (hlt : t < s) : ∀ x ∈ l.take (k + 1), x.1 < s := by
  intro x hx
  rw [take_next hk] at h hx
  rcases List.mem_append.1 hx with hx | hx
  · exact lt_tr ((List.pairwise_append.1 h).2.2 x hx (t, f) (by simp)).1 hlt
  · simp at hx
    subst hx
    exact hlt
theorem named_no {l : List E} {m k : Nat} {s : N} {f : Int} (hk : l[k]? = some (s, f)) (h : ¬ (FairN s ∧ 0 ≤ f ∧ f < (m : Int))) : ¬ Named l m := fun hn => h (hn.1 _ (List.mem_of_getElem? hk))
theorem named_no_lt {l : List E} {m k : Nat} {s t : N} {f g : Int} (hk : l[k]? = some (t, g)) (hk1 : l[k + 1]? = some (s, f)) (h : ¬ t < s) : ¬ Named l m := fun hn => by
  have := ord_take hn.2 (k + 2)
  rw [take_next hk1] at this
  exact h ((List.pairwise_append.1 this).2.2 (t, g) (last_take hk) (s, f) (by simp)).1
theorem named_no_file {l : List E} {m k j : Nat} {s t : N} {f : Int} (hk : l[k]? = some (s, f)) (hj : j < k) (hjt : l[j]? = some (t, f)) : ¬ Named l m := fun hn => by
  have h := ord_take hn.2 (k + 1)
  rw [take_next hk] at h
  refine ((List.pairwise_append.1 h).2.2 (t, f) ?_ (s, f) (by simp)).2 rfl
  have hj' : j < (l.take k).length := by
    have := (List.getElem?_eq_some_iff.1 hk).1
    rw [List.length_take]
    omega
  rw [List.mem_iff_getElem?]
  exact ⟨j, by rw [List.getElem?_take, if_pos hj, hjt]⟩

/-! ### Numbers, one by one -/
theorem idx_in {l : List Int} {f : Int} (h : f ∈ l) : idx l f = ((l.idxOf f : Nat) : Int) ∧ l.idxOf f < l.length := ⟨rfl, List.idxOf_lt_length_of_mem h⟩
theorem idx_out {l : List Int} {f : Int} (h : f ∉ l) : idx l f = (l.length : Int) := by unfold idx; rw [List.idxOf_eq_length h]
theorem add_in {l : List Int} {f : Int} (h : f ∈ l) : addF l f = l := if_pos h
theorem add_out {l : List Int} {f : Int} (h : f ∉ l) : addF l f = l ++ [f] := if_neg h
def accAt (acc : List Int) (l : List E) (k : Nat) : List Int := firstsFrom acc (filesOf (l.take k))
theorem acc_zero (acc : List Int) (l : List E) : accAt acc l 0 = acc := rfl
theorem acc_next {acc : List Int} {l : List E} {k : Nat} {s : N} {f : Int} (h : l[k]? = some (s, f)) : accAt acc l (k + 1) = addF (accAt acc l k) f := by
  unfold accAt
  rw [take_next h, filesOf, List.map_append, from_app]
  rfl
theorem acc_end {acc : List Int} {l : List E} {k : Nat} (h : l.length ≤ k) : accAt acc l k = firstsFrom acc (filesOf l) := by unfold accAt; rw [List.take_of_length_le h]
theorem prefix_add (acc : List Int) (f : Int) : acc <+: addF acc f := by
  unfold addF
  split
  · exact List.prefix_refl _
  · exact List.prefix_append _ _
theorem prefix_from : ∀ (l acc : List Int), acc <+: firstsFrom acc l
  | [], acc => List.prefix_refl _
  | f :: l, acc => by rw [from_cons]; exact List.IsPrefix.trans (prefix_add acc f) (prefix_from l _)
theorem idx_prefix {a b : List Int} {f : Int} (h : a <+: b) (hf : f ∈ a) : idx b f = idx a f := by
  obtain ⟨t, rfl⟩ := h
  unfold idx
  rw [List.idxOf_append, if_pos hf]
theorem add_len (acc : List Int) (f : Int) : (addF acc f).length ≤ acc.length + 1 := by
  unfold addF
  split
  · omega
  · simp
theorem from_len : ∀ (l acc : List Int), (firstsFrom acc l).length ≤ acc.length + l.length
  | [], acc => by show acc.length ≤ _; omega
  | f :: l, acc => by
    rw [from_cons, List.length_cons]
    have h1 := from_len l (addF acc f)
    have h2 := add_len acc f
    omega
theorem acc_len (acc : List Int) (l : List E) (k : Nat) : (accAt acc l k).length ≤ acc.length + l.length := by
  have h1 := from_len (filesOf (l.take k)) acc
  have h2 : (filesOf (l.take k)).length = (l.take k).length := List.length_map ..
  have h3 := List.length_take_le k l
  have h4 : (l.take k).length ≤ l.length := by rw [List.length_take]; omega
  unfold accAt
  omega
/-- A file's new number, when its turn comes, is the one in the end. -/
theorem renum_at {acc : List Int} {l : List E} {k : Nat} {s : N} {f : Int} (h : l[k]? = some (s, f)) (c : List Int) (hc : firstsFrom acc (filesOf l) <+: c) : idx (accAt acc l k) f = idx c f := by
  have h1 : accAt acc l (k + 1) <+: firstsFrom acc (filesOf l) := by
    have e : firstsFrom acc (filesOf l) = firstsFrom (accAt acc l (k + 1)) (filesOf (l.drop (k + 1))) := by
      unfold accAt
      rw [← from_app]
      unfold filesOf
      rw [← List.map_append, List.take_append_drop]
    rw [e]
    exact prefix_from _ _
  have h2 : f ∈ accAt acc l (k + 1) := by rw [acc_next h]; exact mem_add.2 (.inr rfl)
  rw [idx_prefix (List.IsPrefix.trans h1 hc) h2, acc_next h]
  by_cases hm : f ∈ accAt acc l k
  · rw [add_in hm]
  · rw [add_out hm, idx_out hm]
    unfold idx
    rw [List.idxOf_append, if_neg hm]
    simp
def renumK (acc : List Int) (l : List E) (k : Nat) : List E := (l.take k).map fun e => (e.1, idx (firstsFrom acc (filesOf l)) e.2)
theorem renumK_next {acc : List Int} {l : List E} {k : Nat} {s : N} {f : Int} (h : l[k]? = some (s, f)) : renumK acc l (k + 1) = renumK acc l k ++ [(s, idx (accAt acc l k) f)] := by
  unfold renumK
  rw [take_next h, List.map_append, renum_at h _ (List.prefix_refl _)]
  rfl
theorem renumK_end {acc : List Int} {l : List E} {k : Nat} (h : l.length ≤ k) : renumK acc l k = renum l (firstsFrom acc (filesOf l)) := by unfold renumK renum; rw [List.take_of_length_le h]
theorem came_two (d : D) : cameD d = firstsFrom (firsts (filesOf d.now)) (filesOf d.kept) := by
  unfold cameD firsts
  rw [← from_app]
  unfold filesOf
  rw [List.map_append]
theorem renum_two (d : D) : renum d.now (firsts (filesOf d.now)) = renum d.now (cameD d) := by
  unfold renum
  apply List.map_congr_left
  intro e he
  rw [came_two, idx_prefix (prefix_from _ _)]
  exact mem_firsts.2 (List.mem_map.2 ⟨e, he, rfl⟩)

/-! ### Do numbers stay? -/
theorem range_snoc (m : Nat) : rangeZ (m + 1) = rangeZ m ++ [(m : Int)] := by unfold rangeZ; rw [List.range_succ, List.map_append]; rfl
theorem range_len (m : Nat) : (rangeZ m).length = m := by simp [rangeZ]
theorem prefix_range {a : List Int} {m : Nat} (h : a <+: rangeZ m) : a = rangeZ a.length := by
  have e := List.prefix_iff_eq_take.1 h
  have hl : a.length ≤ m := by have := h.length_le; rw [range_len] at this; exact this
  rw [e]
  unfold rangeZ
  rw [← List.map_take, List.take_range, List.length_map, List.length_range]
/-- Numbers that stay: what has come up is a row from nought on. -/
theorem stay_step {acc : List Int} {m : Nat} {f : Int} (h : acc = rangeZ m) (hs : idx acc f = f) (_ : 0 ≤ f) : ∃ m', addF acc f = rangeZ m' := by
  by_cases hm : f ∈ acc
  · exact ⟨m, by rw [add_in hm, h]⟩
  · refine ⟨m + 1, ?_⟩
    rw [add_out hm, range_snoc, h]
    rw [idx_out hm, h, range_len] at hs
    rw [← hs]
theorem stays_rows {acc : List Int} {l : List E} (h : ∃ m, acc = rangeZ m) (h0 : ∀ e ∈ l, 0 ≤ e.2) (hs : ∀ i, i < l.length → ∀ s f, l[i]? = some (s, f) → idx (accAt acc l i) f = f) : ∀ k, k ≤ l.length → ∃ m, accAt acc l k = rangeZ m
  | 0, _ => h
  | k + 1, hk => by
    obtain ⟨m, hm⟩ := stays_rows h h0 hs k (by omega)
    have hg : l[k]? = some (l[k].1, l[k].2) := List.getElem?_eq_getElem (by omega)
    rw [acc_next hg]
    exact stay_step hm (hs k (by omega) _ _ hg) (h0 _ (List.getElem_mem _))
/-- A number that does not stay: what comes up in the end is no row from nought on. -/
theorem stray {acc : List Int} {l : List E} {k : Nat} {s : N} {f : Int} (h : l[k]? = some (s, f)) (hne : idx (accAt acc l k) f ≠ f) (more : List Int) (m : Nat) : firstsFrom (firstsFrom acc (filesOf l)) more ≠ rangeZ m := by
  intro he
  have hp : firstsFrom acc (filesOf l) <+: rangeZ m := he ▸ prefix_from _ _
  rw [renum_at h _ hp] at hne
  have hmem : f ∈ rangeZ m := hp.subset (mem_from.2 (.inr (List.mem_map.2 ⟨(s, f), List.mem_of_getElem? h, rfl⟩)))
  obtain ⟨h0, h1⟩ := mem_range.1 hmem
  exact hne (idx_range h0 h1)
end Go.Proofs.YtlefpodonkdbeaaGreat.Dk
end
/- The mathematics of layer 10 (journal): what a journal's bytes are read as, frame by frame; what is read of frames one behind the other; what is read of the intact part. No program. -/
section
namespace Go.Proofs.YtlefpodonkdbeaaGreat.Jn
open Co Rc Dk

/-- What a reading of a journal tells: the leases, how many bytes are whole, the error. -/
abbrev RJ := List L × Nat × Int
def badJ : RJ := ([], 0, 2)
/-- What was read ahead, and what is read behind it. -/
def putJ (out : List L) (n : Nat) (r : RJ) : RJ := if r.2.2 = 2 then badJ else (out ++ r.1, n + r.2.1, r.2.2)
def scanJ (b : List UInt8) : RJ :=
  if h : b = [] then ([], 0, 0)
  else if openE b = 4 then ([], 0, 4)
  else if openE b ≠ 0 then badJ
  else if (readR (heldL b)).2 ≠ 0 then badJ
  else putJ [(readR (heldL b)).1] (6 + (heldL b).length) (scanJ (b.drop (6 + (heldL b).length)))
termination_by b.length
decreasing_by
  rw [List.length_drop]
  have : 0 < b.length := List.length_pos_iff.2 h
  omega
theorem scan_nil : scanJ [] = ([], 0, 0) := by rw [scanJ, dif_pos rfl]
theorem scan_more {b : List UInt8} (h : b ≠ []) (ho : openE b = 4) : scanJ b = ([], 0, 4) := by rw [scanJ, dif_neg h, if_pos ho]
theorem scan_bad {b : List UInt8} (h : b ≠ []) (h4 : openE b ≠ 4) (h0 : openE b ≠ 0) : scanJ b = badJ := by rw [scanJ, dif_neg h, if_neg h4, if_pos h0]
theorem scan_none {b : List UInt8} (h : b ≠ []) (h0 : openE b = 0) (hr : (readR (heldL b)).2 ≠ 0) : scanJ b = badJ := by
  rw [scanJ, dif_neg h, if_neg (by rw [h0]; decide), if_neg (by rw [h0]; decide), if_pos hr]
theorem scan_one {b : List UInt8} (h : b ≠ []) (h0 : openE b = 0) (hr : (readR (heldL b)).2 = 0) : scanJ b = putJ [(readR (heldL b)).1] (6 + (heldL b).length) (scanJ (b.drop (6 + (heldL b).length))) := by
  rw [scanJ, dif_neg h, if_neg (by rw [h0]; decide), if_neg (by rw [h0]; decide), if_neg (by rw [hr]; decide)]
theorem put_nil (r : RJ) (h : r.2.2 = 2 → r = badJ) : putJ [] 0 r = r := by
  unfold putJ
  split
  · next q => exact (h q).symm
  · rw [List.nil_append, Nat.zero_add]
theorem put_put (a b : List L) (n m : Nat) (r : RJ) : putJ a n (putJ b m r) = putJ (a ++ b) (n + m) r := by
  unfold putJ
  by_cases h : r.2.2 = 2
  · rw [if_pos h, if_pos h]; exact if_pos rfl
  · rw [if_neg h, if_neg h, if_neg (show (b ++ r.1, m + r.2.1, r.2.2).2.2 ≠ 2 from h)]
    show (a ++ (b ++ r.1), n + (m + r.2.1), r.2.2) = _
    rw [List.append_assoc, Nat.add_assoc]
/-- An error but 'more' tells nothing else. -/
theorem scan_two (b : List UInt8) : (scanJ b).2.2 = 2 → scanJ b = badJ := by
  intro h
  by_cases hb : b = []
  · subst hb; rw [scan_nil] at h; cases h
  by_cases h4 : openE b = 4
  · rw [scan_more hb h4] at h; cases h
  by_cases h0 : openE b = 0
  rotate_left
  · exact scan_bad hb h4 h0
  by_cases hr : (readR (heldL b)).2 = 0
  rotate_left
  · exact scan_none hb h0 hr
  rw [scan_one hb h0 hr] at h ⊢
  unfold putJ at h ⊢
  split
  · rfl
  · next q => rw [if_neg q] at h; exact absurd h q
theorem scan_errs (b : List UInt8) : (scanJ b).2.2 = 0 ∨ (scanJ b).2.2 = 4 ∨ (scanJ b).2.2 = 2 := by
  by_cases hb : b = []
  · subst hb; rw [scan_nil]; exact .inl rfl
  by_cases h4 : openE b = 4
  · rw [scan_more hb h4]; exact .inr (.inl rfl)
  by_cases h0 : openE b = 0
  rotate_left
  · rw [scan_bad hb h4 h0]; exact .inr (.inr rfl)
  by_cases hr : (readR (heldL b)).2 = 0
  rotate_left
  · rw [scan_none hb h0 hr]; exact .inr (.inr rfl)
  rw [scan_one hb h0 hr]
  unfold putJ
  split
  · exact .inr (.inr rfl)
  · exact scan_errs (b.drop (6 + (heldL b).length))
termination_by b.length
decreasing_by
  rw [List.length_drop]
  have : 0 < b.length := List.length_pos_iff.2 hb
  omega
/-- What Open asks of the bytes: the frame is all there. -/
theorem open_zero {b : List UInt8} (h : openE b = 0) : 6 + (heldL b).length ≤ b.length ∧ (heldL b).length ≤ 2000 ∧ frameL (heldL b) = b.take (6 + (heldL b).length) := by
  unfold openE at h
  split at h
  · cases h
  · next h6 =>
    split at h
    · cases h
    · next h2 =>
      split at h
      · cases h
      · next h3 =>
        split at h
        · next h4 =>
          have hl : (heldL b).length = valL (b.take 2) := by unfold heldL; rw [List.length_take, List.length_drop]; omega
          refine ⟨by omega, by omega, ?_⟩
          rw [hl]
          exact (frame_test b (valL (b.take 2)) rfl (by omega) (by omega)).2 h4
        · cases h
theorem scan_len (b : List UInt8) : (scanJ b).2.1 ≤ b.length := by
  by_cases hb : b = []
  · subst hb; rw [scan_nil]; exact Nat.le_refl _
  by_cases h4 : openE b = 4
  · rw [scan_more hb h4]; exact Nat.zero_le _
  by_cases h0 : openE b = 0
  rotate_left
  · rw [scan_bad hb h4 h0]; exact Nat.zero_le _
  by_cases hr : (readR (heldL b)).2 = 0
  rotate_left
  · rw [scan_none hb h0 hr]; exact Nat.zero_le _
  rw [scan_one hb h0 hr]
  unfold putJ
  split
  · exact Nat.zero_le _
  · have h1 := scan_len (b.drop (6 + (heldL b).length))
    rw [List.length_drop] at h1
    have h2 := (open_zero h0).1
    show 6 + (heldL b).length + _ ≤ _
    omega
termination_by b.length
decreasing_by
  rw [List.length_drop]
  have : 0 < b.length := List.length_pos_iff.2 hb
  omega
/-- A frame ahead. -/
theorem scan_frame {x r : List UInt8} (hx : x.length ≤ 2000) (hr : (readR x).2 = 0) : scanJ (frameL x ++ r) = putJ [(readR x).1] (6 + x.length) (scanJ r) := by
  obtain ⟨h1, h2⟩ := open_frame x r hx
  have hne : frameL x ++ r ≠ [] := by
    intro q
    have := congrArg List.length q
    rw [List.length_append, frameL_length] at this
    simp at this
  rw [scan_one hne h1 (by rw [h2]; exact hr), h2]
  congr 1
  rw [List.drop_append_of_le_length (by rw [frameL_length]; omega), List.drop_eq_nil_of_le (by rw [frameL_length]; omega), List.nil_append]
/-- Leases, frame by frame. -/
def framesJ (ls : List L) : List UInt8 := ls.flatMap fun l => frameL (encR l)
theorem frames_snoc (ls : List L) (l : L) : framesJ (ls ++ [l]) = framesJ ls ++ frameL (encR l) := by simp [framesJ]
def sizeJ (ls : List L) : Nat := (framesJ ls).length
theorem key_len {l : L} (h : RightR l) : (encR l).length ≤ 268 ∧ 12 ≤ (encR l).length := by
  have := (Ky.text_len h.2.2.2).2.2
  rw [enc_len]
  omega
theorem scan_frames : ∀ {ls : List L} (r : List UInt8), (∀ l ∈ ls, RightR l) → scanJ (framesJ ls ++ r) = putJ ls (sizeJ ls) (scanJ r)
  | [], r, _ => by
    rw [show framesJ [] ++ r = r from rfl, show sizeJ [] = 0 from rfl, put_nil _ (scan_two r)]
  | l :: ls, r, h => by
    have hl := h l (.head _)
    have e : framesJ (l :: ls) ++ r = frameL (encR l) ++ (framesJ ls ++ r) := by simp [framesJ]
    have hs : sizeJ (l :: ls) = 6 + (encR l).length + sizeJ ls := by
      show (framesJ (l :: ls)).length = _
      rw [show framesJ (l :: ls) = frameL (encR l) ++ framesJ ls from rfl, List.length_append, frameL_length]
      show _ + (framesJ ls).length = _ + (framesJ ls).length
      omega
    rw [e, scan_frame (by have := key_len hl; omega) (by rw [read_write hl]), read_write hl, scan_frames r fun a ha => h a (.tail _ ha), put_put, hs]
    rfl
theorem scan_all {ls : List L} (h : ∀ l ∈ ls, RightR l) : scanJ (framesJ ls) = (ls, sizeJ ls, 0) := by
  have := scan_frames [] h
  rw [List.append_nil, scan_nil] at this
  rw [this]
  show (ls ++ [], sizeJ ls + 0, (0 : Int)) = _
  rw [List.append_nil, Nat.add_zero]
/-- A beginning of one frame more, but not the whole of it. -/
theorem scan_torn {ls : List L} {l : L} {k : Nat} (h : ∀ a ∈ ls, RightR a) (hl : RightR l) (h0 : 0 < k) (hk : k < (frameL (encR l)).length) : scanJ (framesJ ls ++ (frameL (encR l)).take k) = (ls, sizeJ ls, 4) := by
  have hlen := key_len hl
  rw [frameL_length] at hk
  have hne : (frameL (encR l)).take k ≠ [] := by
    intro q
    have := congrArg List.length q
    rw [List.length_take, frameL_length] at this
    simp at this
    omega
  rw [scan_frames _ h, scan_more hne (open_part _ _ (by omega) hk)]
  show (ls ++ [], sizeJ ls + 0, (4 : Int)) = _
  rw [List.append_nil, Nat.add_zero]
/-- The intact part, read alone. -/
theorem scan_take (b : List UInt8) (h : (scanJ b).2.2 ≠ 2) : scanJ (b.take (scanJ b).2.1) = ((scanJ b).1, (scanJ b).2.1, 0) := by
  by_cases hb : b = []
  · subst hb; rw [scan_nil]; rw [List.take_nil, scan_nil]
  by_cases h4 : openE b = 4
  · rw [scan_more hb h4]; rw [List.take_zero, scan_nil]
  by_cases h0 : openE b = 0
  rotate_left
  · rw [scan_bad hb h4 h0] at h; exact absurd rfl h
  by_cases hr : (readR (heldL b)).2 = 0
  rotate_left
  · rw [scan_none hb h0 hr] at h; exact absurd rfl h
  obtain ⟨hz1, hz2, hz3⟩ := open_zero h0
  have hs := scan_one hb h0 hr
  have ht : (scanJ (b.drop (6 + (heldL b).length))).2.2 ≠ 2 := by
    intro q
    rw [hs] at h
    unfold putJ at h
    rw [if_pos q] at h
    exact h rfl
  have ih := scan_take (b.drop (6 + (heldL b).length)) ht
  rw [hs]
  generalize scanJ (b.drop (6 + (heldL b).length)) = T at ih ht
  unfold putJ
  rw [if_neg ht]
  show scanJ (b.take (6 + (heldL b).length + T.2.1)) = ([(readR (heldL b)).1] ++ T.1, 6 + (heldL b).length + T.2.1, 0)
  rw [List.take_add, ← hz3, scan_frame hz2 hr, ih]
  rfl
termination_by b.length
decreasing_by
  rw [List.length_drop]
  have : 0 < b.length := List.length_pos_iff.2 hb
  omega
end Go.Proofs.YtlefpodonkdbeaaGreat.Jn
end
/- The mathematics of layer 10, continued: a journal on a disk: changes, Read, Open, Add; behind any cut the journal is whole (P10.5, P10.6). No program. -/
section
namespace Go.Proofs.YtlefpodonkdbeaaGreat.Jn
open Co Rc Dk

/-! ### What the calls answer -/
structure Ch where
  kind : Int
  name : N
  tn : N
  b : List UInt8
def oneC (d : D) (c : Ch) : D × Int :=
  if c.kind = 1 then appendK d c.name c.b else if c.kind = 2 then syncK d c.name else if c.kind = 3 then renameK d c.name c.tn else if c.kind = 4 then removeK d c.name else if c.kind = 5 then (syncDirK d, 0) else (d, 1)
def goC (fuel : Int) : Nat → D → List Ch → D × Nat
  | i, d, [] => (d, i)
  | i, d, c :: l => if fuel ≤ (i : Int) then (d, i) else if (oneC d c).2 ≠ 0 then (d, i) else goC fuel (i + 1) (oneC d c).1 l
def doC (d : D) (l : List Ch) (fuel : Int) : D × Nat := goC fuel 0 (goodD d) l
def readD (d : D) : RJ := scanJ (getK d nJ).1
def cutD (d : D) : D := if (readD d).2.2 = 4 then (cutG (goodD d) nJ ((readD d).2.1 : Nat)).1 else goodD d
def syncedD (d : D) : D := if (findE d.now nJ).isSome then (syncG d nJ).1 else d
def noK (d : D) : D := if (findE d.now nK).isSome then (removeG d nK).1 else d
def openJ (d : D) : D × Int := if (readD d).2.2 = 2 then (zeroD, 2) else (syncDirG (noK (syncedD (cutD d))), 0)
def frameC (l : L) : Ch := ⟨1, nJ, [], frameL (encR l)⟩
def syncC : Ch := ⟨2, nJ, [], []⟩
def dirC : Ch := ⟨5, [], [], []⟩
def lastsJ (d : D) : Prop := ∃ f, findE d.now nJ = some f ∧ findE d.kept nJ = some f
/-- Is the directory to be synced, too? -/
def loseJ (d : D) : Bool := match findE d.kept nJ with
  | none => true
  | some g => decide (findE d.now nJ ≠ some g)
def addJ (d : D) (l : L) : List Ch × Int :=
  if RightR l then (if (readD d).2.2 = 4 then ([], 7) else if (readD d).2.2 ≠ 0 then ([], (readD d).2.2) else ([frameC l, syncC] ++ (if loseJ (goodD d) then [dirC] else []), 0)) else ([], 1)

/-! ### A disk with a journal alone -/
def oneJ (b : List UInt8) (s : Int) (k : Bool) : D := ⟨[⟨b, s⟩], [(nJ, 0)], if k then [(nJ, 0)] else []⟩
theorem one_right {b : List UInt8} {s : Int} (k : Bool) (hb : b.length ≤ 20000) (h0 : 0 ≤ s) (h1 : s ≤ (b.length : Int)) : RightD (oneJ b s k) := by
  have hN : Named [((nJ, 0) : E)] 1 := by decide
  refine ⟨show (1 : Nat) ≤ 20 by decide, ⟨hN, ?_, fun f hf => ?_⟩, ?_⟩
  · cases k
    · exact ⟨(fun e he => by cases he), List.Pairwise.nil⟩
    · exact hN
  · rw [List.mem_singleton.1 hf]
    exact ⟨hb, h0, h1⟩
  · cases k <;> rfl
theorem get_one {b : List UInt8} {s : Int} (k : Bool) (hb : b.length ≤ 20000) (h0 : 0 ≤ s) (h1 : s ≤ (b.length : Int)) : getK (oneJ b s k) nJ = (b, 0) := by
  rw [get_right (one_right k hb h0 h1) (f := 0) rfl]
  rfl
theorem read_oneJ {b : List UInt8} {s : Int} (k : Bool) (hb : b.length ≤ 20000) (h0 : 0 ≤ s) (h1 : s ≤ (b.length : Int)) : readD (oneJ b s k) = scanJ b := by
  unfold readD
  rw [get_one k hb h0 h1]
theorem get_zero (n : N) : getK zeroD n = ([], 5) := rfl
theorem read_zeroD : readD zeroD = ([], 0, 0) := scan_nil
theorem open_zeroD : openJ zeroD = (zeroD, 0) := by
  unfold openJ
  rw [read_zeroD, if_neg (by decide)]
  unfold cutD
  rw [read_zeroD, if_neg (by decide)]
  rfl
/-- Opened, a journal that is not corrupt is its intact part, and lasts. -/
theorem open_oneJ {b : List UInt8} (hb : b.length ≤ 20000) (h2 : (scanJ b).2.2 ≠ 2) (hw : (scanJ b).2.2 = 0 → (scanJ b).2.1 = b.length) :
    openJ (oneJ b b.length true) = (oneJ (b.take (scanJ b).2.1) (b.take (scanJ b).2.1).length true, 0) := by
  have hR := one_right true hb (show (0 : Int) ≤ (b.length : Int) by omega) (Int.le_refl _)
  have hrd := read_oneJ true hb (show (0 : Int) ≤ (b.length : Int) by omega) (Int.le_refl _)
  have hle := scan_len b
  have hcut : cutD (oneJ b b.length true) = oneJ (b.take (scanJ b).2.1) (b.take (scanJ b).2.1).length true := by
    have hl : (b.take (scanJ b).2.1).length = (scanJ b).2.1 := by rw [List.length_take]; omega
    unfold cutD
    rw [hrd, good_of hR]
    rcases scan_errs b with h | h | h
    · rw [if_neg (by rw [h]; decide), hw h, List.take_of_length_le (Nat.le_refl _)]
    · rw [if_pos h, hl]
      unfold cutG
      rw [show findE (oneJ b b.length true).now nJ = some 0 from rfl]
      show (if (((scanJ b).2.1 : Nat) : Int) < 0 ∨ ((b.length : Nat) : Int) < (((scanJ b).2.1 : Nat) : Int) then ((oneJ b b.length true, 1) : D × Int) else (setD (oneJ b b.length true) 0 ⟨b.take (((scanJ b).2.1 : Nat) : Int).toNat, ((scanJ b).2.1 : Nat)⟩, 0)).1 = _
      rw [if_neg (by omega), Int.toNat_natCast]
      rfl
    · exact absurd h h2
  unfold openJ
  rw [hrd, if_neg h2, hcut]
  rfl
theorem scan_whole (b : List UInt8) : (scanJ b).2.2 = 0 → (scanJ b).2.1 = b.length := by
  intro h
  by_cases hb : b = []
  · subst hb; rw [scan_nil]; rfl
  by_cases h4 : openE b = 4
  · rw [scan_more hb h4] at h; cases h
  by_cases h0 : openE b = 0
  rotate_left
  · rw [scan_bad hb h4 h0] at h; cases h
  by_cases hr : (readR (heldL b)).2 = 0
  rotate_left
  · rw [scan_none hb h0 hr] at h; cases h
  obtain ⟨hz1, _, _⟩ := open_zero h0
  rw [scan_one hb h0 hr] at h ⊢
  unfold putJ at h ⊢
  split
  · next q => rw [if_pos q] at h; cases h
  · next q =>
    rw [if_neg q] at h
    have ih := scan_whole (b.drop (6 + (heldL b).length)) h
    rw [List.length_drop] at ih
    show 6 + (heldL b).length + _ = _
    omega
termination_by b.length
decreasing_by
  rw [List.length_drop]
  have : 0 < b.length := List.length_pos_iff.2 hb
  omega
/-- What is read of an opened journal is what was read, without an error. -/
theorem read_opened {b : List UInt8} (hb : b.length ≤ 20000) (h2 : (scanJ b).2.2 ≠ 2) : readD (openJ (oneJ b b.length true)).1 = ((scanJ b).1, (scanJ b).2.1, 0) := by
  have hle := scan_len b
  rw [open_oneJ hb h2 (scan_whole b)]
  show readD (oneJ _ _ true) = _
  rw [read_oneJ true (by rw [List.length_take]; omega) (by omega) (Int.le_refl _), scan_take b h2]

/-! ### A crash of such a disk -/
theorem crash_oneJ {b : List UInt8} {s : Int} {k : Bool} (h0 : 0 ≤ s) (h1 : s ≤ (b.length : Int)) (hb : b.length ≤ 20000) (keep : List Int) (dir : Bool) :
    (crashG (oneJ b s k) keep dir = zeroD ∧ k = false) ∨ ∃ n, s.toNat ≤ n ∧ n ≤ b.length ∧ crashG (oneJ b s k) keep dir = oneJ (b.take n) (b.take n).length true := by
  have hl := left_le (f := ⟨b, s⟩) ⟨hb, h0, h1⟩ keep[0]?
  have hle : leftN ⟨b, s⟩ keep[0]? ≤ b.length := hl.2
  have yes : ∀ d : D, d.fs = [⟨b, s⟩] → dirOf d dir = [(nJ, 0)] → crashG d keep dir = oneJ (b.take (leftN ⟨b, s⟩ keep[0]?)) (b.take (leftN ⟨b, s⟩ keep[0]?)).length true := by
    intro d hf hd
    unfold crashG
    rw [hd]
    have hfa : fileAt d 0 = ⟨b, s⟩ := by unfold fileAt; rw [hf]; rfl
    show D.mk [crashF (fileAt d 0) keep[0]?] [(nJ, (0 : Nat))] [(nJ, (0 : Nat))] = _
    rw [hfa]
    unfold crashF oneJ
    show D.mk [⟨b.take _, ((leftN ⟨b, s⟩ keep[0]? : Nat) : Int)⟩] _ _ = D.mk [⟨b.take _, (((b.take (leftN ⟨b, s⟩ keep[0]?)).length : Nat) : Int)⟩] _ _
    rw [List.length_take, Nat.min_eq_left hle]
    rfl
  cases dir with
  | true => exact .inr ⟨_, hl.1, hle, yes _ rfl rfl⟩
  | false =>
    cases k with
    | true => exact .inr ⟨_, hl.1, hle, yes _ rfl rfl⟩
    | false => exact .inl ⟨rfl, rfl⟩
theorem crash_zeroD (keep : List Int) (dir : Bool) : crashG zeroD keep dir = zeroD := by cases dir <;> rfl
end Go.Proofs.YtlefpodonkdbeaaGreat.Jn
end
/- The mathematics of layer 10, continued: any disk opened; opened again it is the same, and what is read of it is what was read (P10.3). No program. -/
section
namespace Go.Proofs.YtlefpodonkdbeaaGreat.Jn
open Co Rc Dk

def lookD (d : D) (n : N) : List UInt8 × Int := match findE d.now n with
  | none => ([], 5)
  | some f => ((fileAt d f).d, 0)
theorem look_some {d : D} {n : N} {f : Int} (h : findE d.now n = some f) : lookD d n = ((fileAt d f).d, 0) := by unfold lookD; rw [h]
theorem look_none {d : D} {n : N} (h : findE d.now n = none) : lookD d n = ([], 5) := by unfold lookD; rw [h]
theorem get_look {d : D} (h : RightD d) (n : N) : getK d n = lookD d n := by unfold getK lookD; rw [good_of h] <;> rfl
theorem look_ordered (d : D) (n : N) : lookD (orderedD d) n = lookD d n := by
  have e : findE (orderedD d).now n = (findE d.now n).map (idx (cameD d)) := find_renum
  cases h : findE d.now n with
  | none => rw [h] at e; rw [look_none h, look_none e]
  | some f =>
    rw [h] at e
    rw [look_some h, look_some e, fileAt_ordered (now_came (find_mem h))]
/-- The journal is safe, if there is one. -/
def SafeJ (d : D) : Prop := ∀ f, findE d.now nJ = some f → (fileAt d f).s = ((fileAt d f).d.length : Nat)
theorem safe_ordered {d : D} (h : SafeJ d) : SafeJ (orderedD d) := by
  intro g hg
  have e : findE (orderedD d).now nJ = (findE d.now nJ).map (idx (cameD d)) := find_renum
  rw [e] at hg
  cases hf : findE d.now nJ with
  | none => rw [hf] at hg; cases hg
  | some f =>
    rw [hf] at hg
    have q : idx (cameD d) f = g := Option.some.inj hg
    rw [← q, fileAt_ordered (now_came (find_mem hf))]
    exact h f hf
theorem find_without {n m : N} (h : n ≠ m) : ∀ l : List E, findE (withoutE l m) n = findE l n
  | [] => rfl
  | e :: l => by
    have ih := find_without h l
    unfold withoutE at ih ⊢
    rw [List.filter_cons]
    by_cases he : e.1 = m
    · rw [if_neg (by simpa using he), ih, findE, if_neg (fun k => h (k.symm.trans he))]
    · rw [if_pos (by simpa using he), findE, findE, ih]
theorem find_gone (l : List E) (n : N) : findE (withoutE l n) n = none := find_none.2 fun _ he => (mem_without.1 he).2
theorem set_look {d : D} {f : Int} {x : F} {n : N} (h : RightD d) (hf : findE d.now n = some f) : lookD (setD d f x) n = (x.d, 0) := by
  obtain ⟨a, b⟩ := find_range h hf
  rw [look_some (show findE (setD d f x).now n = some f from hf), fileAt_set a b]
theorem set_same (d : D) (f : Int) (hf : f.toNat < d.fs.length) : setD d f (fileAt d f) = d := by
  unfold setD fileAt
  rw [List.getD_eq_getElem?_getD, List.getElem?_eq_getElem hf, Option.getD_some, List.set_getElem_self]
theorem read_of {d : D} (h : RightD d) : readD d = scanJ (lookD d nJ).1 := by unfold readD; rw [get_look h]
theorem read_good (d : D) : readD (goodD d) = readD d := by unfold readD getK; rw [good_of (good_right d)]

/-! ### Step by step -/
theorem cut_read {d : D} (h2 : (readD d).2.2 ≠ 2) : RightD (cutD d) ∧ readD (cutD d) = ((readD d).1, (readD d).2.1, 0) := by
  have hg := good_right d
  have hr : readD d = scanJ (lookD (goodD d) nJ).1 := by rw [← read_good, read_of hg]
  rcases scan_errs (lookD (goodD d) nJ).1 with h | h | h
  · have e0 : (readD d).2.2 = 0 := by rw [hr]; exact h
    unfold cutD
    rw [if_neg (by rw [e0]; decide)]
    refine ⟨hg, ?_⟩
    rw [read_good]
    exact Prod.ext rfl (Prod.ext rfl e0)
  · have e4 : (readD d).2.2 = 4 := by rw [hr]; exact h
    have hR := cut_right hg nJ (((readD d).2.1 : Nat) : Int)
    unfold cutD
    rw [if_pos e4]
    refine ⟨hR, ?_⟩
    rw [read_of hR]
    cases hf : findE (goodD d).now nJ with
    | none =>
      rw [look_none hf, scan_nil] at h
      cases h
    | some f =>
      rw [look_some hf] at hr h
      have hle : (readD d).2.1 ≤ (fileAt (goodD d) f).d.length := by rw [hr]; exact scan_len _
      have hc : cutG (goodD d) nJ (((readD d).2.1 : Nat) : Int) = (setD (goodD d) f ⟨(fileAt (goodD d) f).d.take (readD d).2.1, ((readD d).2.1 : Nat)⟩, 0) := by
        unfold cutG
        rw [hf]
        show (if (((readD d).2.1 : Nat) : Int) < 0 ∨ (((fileAt (goodD d) f).d.length : Nat) : Int) < (((readD d).2.1 : Nat) : Int) then ((goodD d, 1) : D × Int) else (setD (goodD d) f ⟨(fileAt (goodD d) f).d.take (((readD d).2.1 : Nat) : Int).toNat, ((readD d).2.1 : Nat)⟩, 0)) = _
        rw [if_neg (by omega), Int.toNat_natCast]
      rw [hc, set_look hg hf]
      show scanJ ((fileAt (goodD d) f).d.take (readD d).2.1) = _
      rw [hr]
      exact scan_take _ (by rw [h]; decide)
  · exact absurd (by rw [hr]; exact h) h2
theorem synced_read {d : D} (h : RightD d) : RightD (syncedD d) ∧ readD (syncedD d) = readD d ∧ SafeJ (syncedD d) := by
  cases hf : findE d.now nJ with
  | none =>
    have e : syncedD d = d := by unfold syncedD; rw [hf]; rfl
    rw [e]
    exact ⟨h, rfl, fun f k => by rw [hf] at k; cases k⟩
  | some f =>
    have e : syncedD d = setD d f ⟨(fileAt d f).d, (fileAt d f).d.length⟩ := by unfold syncedD syncG; rw [hf]; rfl
    have hR : RightD (syncedD d) := by
      have := sync_right h nJ
      unfold syncedD
      split
      · exact this
      · exact h
    obtain ⟨a, b⟩ := find_range h hf
    refine ⟨hR, ?_, ?_⟩
    · rw [read_of hR, read_of h, e, set_look h hf, look_some hf]
    · rw [e]
      intro g hg
      have q : f = g := Option.some.inj (hf.symm.trans hg)
      rw [← q, fileAt_set a b]
theorem no_read {d : D} (h : RightD d) (hs : SafeJ d) : RightD (noK d) ∧ readD (noK d) = readD d ∧ SafeJ (noK d) ∧ findE (noK d).now nK = none := by
  cases hf : findE d.now nK with
  | none =>
    have e : noK d = d := by unfold noK; rw [hf]; rfl
    rw [e]
    exact ⟨h, rfl, hs, hf⟩
  | some f =>
    have e : noK d = orderedD { d with now := withoutE d.now nK } := by unfold noK removeG; rw [hf]; rfl
    have hR : RightD (noK d) := by
      have := remove_right h nK
      unfold noK
      split
      · exact this
      · exact h
    have hj : findE (withoutE d.now nK) nJ = findE d.now nJ := find_without (by decide) _
    refine ⟨hR, ?_, ?_, ?_⟩
    · rw [read_of hR, read_of h, e, look_ordered]
      unfold lookD
      show scanJ (match findE (withoutE d.now nK) nJ with | none => (([], 5) : List UInt8 × Int) | some f => ((fileAt d f).d, 0)).1 = _
      rw [hj]
    · rw [e]
      exact safe_ordered fun f k => hs f (hj.symm.trans k)
    · rw [e]
      show findE (renum (withoutE d.now nK) _) nK = none
      rw [find_renum, find_gone]
      rfl
theorem dir_read {d : D} (h : RightD d) (hs : SafeJ d) (hk : findE d.now nK = none) :
    RightD (syncDirG d) ∧ readD (syncDirG d) = readD d ∧ SafeJ (syncDirG d) ∧ findE (syncDirG d).now nK = none ∧ (syncDirG d).kept = (syncDirG d).now := by
  have hR := syncDir_right h
  refine ⟨hR, ?_, safe_ordered (d := { d with kept := d.now }) hs, ?_, rfl⟩
  · rw [read_of hR, read_of h]
    unfold syncDirG
    rw [look_ordered]
    rfl
  · unfold syncDirG
    show findE (renum d.now _) nK = none
    rw [find_renum, hk]
    rfl
/-- A disk whose journal is whole and safe, without k, whose names last, is as it is when opened. -/
theorem open_same {d : D} (h : RightD d) (hr : (readD d).2.2 = 0) (hs : SafeJ d) (hk : findE d.now nK = none) (he : d.kept = d.now) : openJ d = (d, 0) := by
  have e1 : cutD d = d := by
    unfold cutD
    rw [if_neg (by rw [hr]; decide), good_of h]
  have e2 : syncedD d = d := by
    cases hf : findE d.now nJ with
    | none => unfold syncedD; rw [hf]; rfl
    | some f =>
      have e : syncedD d = setD d f ⟨(fileAt d f).d, (fileAt d f).d.length⟩ := by unfold syncedD syncG; rw [hf]; rfl
      obtain ⟨a, b⟩ := find_range h hf
      rw [e, ← hs f hf]
      exact set_same d f (by omega)
  have e3 : noK d = d := by unfold noK; rw [hk]; rfl
  have e4 : syncDirG d = d := by
    have q : ∀ y : D, y.kept = y.now → ({ y with kept := y.now } : D) = y := fun ⟨a, b, c⟩ k => by
      have k' : c = b := k
      rw [k']
    unfold syncDirG
    rw [q d he]
    exact ordered_id h
  unfold openJ
  rw [if_neg (by rw [hr]; decide), e1, e2, e3, e4]
/-- P10.3: what an opened disk is. -/
theorem open_any (d : D) : ((readD d).2.2 = 2 ∧ openJ d = (zeroD, 2)) ∨ ((readD d).2.2 ≠ 2 ∧ (openJ d).2 = 0 ∧ RightD (openJ d).1 ∧ readD (openJ d).1 = ((readD d).1, (readD d).2.1, 0) ∧ openJ (openJ d).1 = ((openJ d).1, 0)) := by
  by_cases h2 : (readD d).2.2 = 2
  · exact .inl ⟨h2, by unfold openJ; rw [if_pos h2]⟩
  refine .inr ⟨h2, ?_⟩
  have e : openJ d = (syncDirG (noK (syncedD (cutD d))), 0) := by unfold openJ; rw [if_neg h2]
  obtain ⟨a1, a2⟩ := cut_read h2
  obtain ⟨b1, b2, b3⟩ := synced_read a1
  obtain ⟨c1, c2, c3, c4⟩ := no_read b1 b3
  obtain ⟨d1, d2, d3, d4, d5⟩ := dir_read c1 c3 c4
  have hr := d2.trans (c2.trans (b2.trans a2))
  rw [e]
  exact ⟨rfl, d1, hr, open_same d1 (by rw [hr]) d3 d4 d5⟩
end Go.Proofs.YtlefpodonkdbeaaGreat.Jn
end
/- The mathematics of layer 10, continued: the disk of leases that were added one by one; behind any cut and any crash its journal is whole (P10.5, P10.6). No program. -/
section
namespace Go.Proofs.YtlefpodonkdbeaaGreat.Jn
open Co Rc Dk

/-- The disk to which leases were added, one by one. -/
def diskJ (ls : List L) : D := if ls = [] then zeroD else oneJ (framesJ ls) (sizeJ ls : Nat) true
theorem disk_nil : diskJ [] = zeroD := rfl
theorem disk_some {ls : List L} (h : ls ≠ []) : diskJ ls = oneJ (framesJ ls) (sizeJ ls : Nat) true := if_neg h
theorem frames_small : ∀ {ls : List L}, (∀ l ∈ ls, RightR l) → (framesJ ls).length ≤ 274 * ls.length
  | [], _ => Nat.le_refl _
  | l :: ls, h => by
    have h1 := frames_small fun a ha => h a (.tail _ ha)
    have h2 := key_len (h l (.head _))
    rw [show framesJ (l :: ls) = frameL (encR l) ++ framesJ ls from rfl, List.length_append, frameL_length, List.length_cons]
    omega
theorem disk_right {ls : List L} (h : (framesJ ls).length ≤ 20000) : RightD (diskJ ls) := by
  by_cases hn : ls = []
  · rw [hn]; exact zero_right
  · rw [disk_some hn]; exact one_right true h (by omega) (Int.le_refl _)
theorem read_disk {ls : List L} (hr : ∀ l ∈ ls, RightR l) (h : (framesJ ls).length ≤ 20000) : readD (diskJ ls) = (ls, sizeJ ls, 0) := by
  by_cases hn : ls = []
  · subst hn; exact read_zeroD
  · rw [disk_some hn]
    show readD (oneJ (framesJ ls) ((framesJ ls).length : Nat) true) = _
    rw [read_oneJ true h (by omega) (Int.le_refl _), scan_all hr]
theorem lose_disk {ls : List L} (h : (framesJ ls).length ≤ 20000) : loseJ (goodD (diskJ ls)) = decide (ls = []) := by
  rw [good_of (disk_right h)]
  by_cases hn : ls = []
  · subst hn; rfl
  · rw [disk_some hn, decide_eq_false hn]; rfl
/-- The changes by which one lease more is kept. -/
def changesJ (ls : List L) (l : L) : List Ch := [frameC l, syncC] ++ (if ls = [] then [dirC] else [])
theorem add_disk {ls : List L} {l : L} (hr : ∀ a ∈ ls, RightR a) (hl : RightR l) (h : (framesJ ls).length ≤ 20000) : addJ (diskJ ls) l = (changesJ ls l, 0) := by
  unfold addJ
  rw [if_pos hl, read_disk hr h, if_neg (show ¬ (0 : Int) = 4 by decide), if_neg (show ¬ (0 : Int) ≠ 0 by decide), lose_disk h]
  unfold changesJ
  by_cases hn : ls = []
  · rw [if_pos (by simpa using hn), if_pos hn]
  · rw [if_neg (by simpa using hn), if_neg hn]
theorem new_one {b : List UInt8} (hb : b.length ≤ 20000) : appendK zeroD nJ b = (oneJ b 0 false, 0) := by
  unfold appendK
  rw [good_of zero_right, j1 b hb]
  rfl
theorem app_one {a b : List UInt8} {s : Int} {k : Bool} (hb : a.length + b.length ≤ 20000) (h0 : 0 ≤ s) (h1 : s ≤ (a.length : Int)) : appendK (oneJ a s k) nJ b = (oneJ (a ++ b) s k, 0) := by
  unfold appendK
  rw [good_of (one_right k (by omega) h0 h1)]
  unfold appendG
  rw [if_pos (by decide), show findE (oneJ a s k).now nJ = some 0 from rfl]
  show (if 20000 < a.length + b.length then ((oneJ a s k, 3) : D × Int) else (setD (oneJ a s k) 0 ⟨a ++ b, s⟩, 0)) = _
  rw [if_neg (by omega)]
  rfl
theorem sync_one {b : List UInt8} {s : Int} {k : Bool} (hb : b.length ≤ 20000) (h0 : 0 ≤ s) (h1 : s ≤ (b.length : Int)) : syncK (oneJ b s k) nJ = (oneJ b b.length k, 0) := by
  unfold syncK
  rw [good_of (one_right k hb h0 h1)]
  rfl
theorem dir_one {b : List UInt8} {s : Int} {k : Bool} (hb : b.length ≤ 20000) (h0 : 0 ≤ s) (h1 : s ≤ (b.length : Int)) : syncDirK (oneJ b s k) = oneJ b s true := by
  unfold syncDirK
  rw [good_of (one_right k hb h0 h1)]
  rfl
theorem one_app (d : D) (l : L) : oneC d (frameC l) = appendK d nJ (frameL (encR l)) := rfl
theorem one_sync (d : D) : oneC d syncC = syncK d nJ := rfl
theorem one_dir (d : D) : oneC d dirC = (syncDirK d, 0) := rfl
/-- So far as changes were done: nothing; or all bytes are there, so many of them safe, the name lasting or not. -/
def Half (ls : List L) (l : L) (x : D) (n : Nat) : Prop :=
  (x = diskJ ls ∧ n = 0) ∨ ∃ (s : Nat) (k : Bool), x = oneJ (framesJ (ls ++ [l])) (s : Nat) k ∧ sizeJ ls ≤ s ∧ s ≤ (framesJ (ls ++ [l])).length ∧ (k = false → ls = []) ∧ (n < (changesJ ls l).length ∨ (s = (framesJ (ls ++ [l])).length ∧ k = true))
theorem goC_stop {fuel : Int} {i : Nat} {d : D} {l : List Ch} (h : fuel ≤ (i : Int)) : goC fuel i d l = (d, i) := by
  cases l with
  | nil => rfl
  | cons c l => rw [goC, if_pos h]
theorem goC_step {fuel : Int} {i : Nat} {d d' : D} {c : Ch} {l : List Ch} (h : ¬ fuel ≤ (i : Int)) (hd : oneC d c = (d', 0)) : goC fuel i d (c :: l) = goC fuel (i + 1) d' l := by
  rw [goC, if_neg h, hd, if_neg (by simp)]
theorem do_half {ls : List L} {l : L} (hr : ∀ a ∈ ls, RightR a) (h : (framesJ (ls ++ [l])).length ≤ 20000) (fuel : Int) : Half ls l (doC (diskJ ls) (changesJ ls l) fuel).1 (doC (diskJ ls) (changesJ ls l) fuel).2 := by
  have hf := frames_snoc ls l
  have hfl : (framesJ ls).length ≤ 20000 := by rw [hf, List.length_append] at h; omega
  have hsz : sizeJ ls = (framesJ ls).length := rfl
  have hle : (framesJ ls).length ≤ (framesJ (ls ++ [l])).length := by rw [hf, List.length_append]; omega
  unfold doC
  rw [good_of (disk_right hfl)]
  by_cases hn : ls = []
  · subst hn
    have hfe : framesJ ([] ++ [l]) = frameL (encR l) := by rw [hf]; rfl
    have hc : changesJ [] l = [frameC l, syncC, dirC] := rfl
    rw [hfe] at h
    rw [hc]
    by_cases h0 : fuel ≤ ((0 : Nat) : Int)
    · rw [goC_stop h0]; exact .inl ⟨rfl, rfl⟩
    rw [goC_step (d' := oneJ (frameL (encR l)) 0 false) h0 (by rw [one_app, disk_nil, new_one h])]
    by_cases h1 : fuel ≤ ((0 + 1 : Nat) : Int)
    · rw [goC_stop h1]
      exact .inr ⟨0, false, by rw [hfe]; rfl, Nat.le_refl _, Nat.zero_le _, fun _ => rfl, .inl (by rw [hc]; show 1 < 3; decide)⟩
    rw [goC_step (d' := oneJ (frameL (encR l)) (frameL (encR l)).length false) h1 (by rw [one_sync, sync_one h (Int.le_refl _) (by omega)])]
    by_cases h2 : fuel ≤ ((0 + 1 + 1 : Nat) : Int)
    · rw [goC_stop h2]
      exact .inr ⟨(frameL (encR l)).length, false, by rw [hfe], Nat.zero_le _, by rw [hfe]; exact Nat.le_refl _, fun _ => rfl, .inl (by rw [hc]; show 2 < 3; decide)⟩
    rw [goC_step (d' := oneJ (frameL (encR l)) (frameL (encR l)).length true) h2 (by rw [one_dir, dir_one h (by omega) (Int.le_refl _)])]
    exact .inr ⟨(frameL (encR l)).length, true, by rw [hfe]; rfl, Nat.zero_le _, by rw [hfe]; exact Nat.le_refl _, (fun k => by cases k), .inr ⟨by rw [hfe], rfl⟩⟩
  · have hc : changesJ ls l = [frameC l, syncC] := by unfold changesJ; rw [if_neg hn]; rfl
    rw [hc, disk_some hn]
    by_cases h0 : fuel ≤ ((0 : Nat) : Int)
    · rw [goC_stop h0]; exact .inl ⟨(disk_some hn).symm, rfl⟩
    rw [goC_step (d' := oneJ (framesJ (ls ++ [l])) (sizeJ ls : Nat) true) h0 (by rw [one_app, app_one (by rw [hf, List.length_append] at h; omega) (by omega) (show ((sizeJ ls : Nat) : Int) ≤ (((framesJ ls).length : Nat) : Int) from Int.le_refl _), hf])]
    by_cases h1 : fuel ≤ ((0 + 1 : Nat) : Int)
    · rw [goC_stop h1]
      exact .inr ⟨sizeJ ls, true, rfl, Nat.le_refl _, hle, (fun k => by cases k), .inl (by rw [hc]; show 1 < 2; decide)⟩
    rw [goC_step (d' := oneJ (framesJ (ls ++ [l])) (framesJ (ls ++ [l])).length true) h1 (by rw [one_sync, sync_one h (by omega) (by omega)])]
    exact .inr ⟨(framesJ (ls ++ [l])).length, true, rfl, hle, Nat.le_refl _, (fun k => by cases k), .inr ⟨rfl, rfl⟩⟩
/-- All changes done: the one lease more is there, and lasts. -/
theorem do_all {ls : List L} {l : L} (h : (framesJ (ls ++ [l])).length ≤ 20000) {fuel : Int} (hfu : ((changesJ ls l).length : Int) ≤ fuel) : doC (diskJ ls) (changesJ ls l) fuel = (diskJ (ls ++ [l]), (changesJ ls l).length) := by
  have hf := frames_snoc ls l
  have hfl : (framesJ ls).length ≤ 20000 := by rw [hf, List.length_append] at h; omega
  unfold doC
  rw [good_of (disk_right hfl), disk_some (ls := ls ++ [l]) (by simp)]
  by_cases hn : ls = []
  · subst hn
    have hfe : framesJ ([] ++ [l]) = frameL (encR l) := by rw [hf]; rfl
    have hc : changesJ [] l = [frameC l, syncC, dirC] := rfl
    rw [hc] at hfu ⊢
    have hfu' : (3 : Int) ≤ fuel := hfu
    rw [hfe] at h ⊢
    rw [goC_step (d' := oneJ (frameL (encR l)) 0 false) (by omega) (by rw [one_app, disk_nil, new_one h]),
      goC_step (d' := oneJ (frameL (encR l)) (frameL (encR l)).length false) (by omega) (by rw [one_sync, sync_one h (Int.le_refl _) (by omega)]),
      goC_step (d' := oneJ (frameL (encR l)) (frameL (encR l)).length true) (by omega) (by rw [one_dir, dir_one h (by omega) (Int.le_refl _)])]
    show (_, _) = (oneJ _ (((framesJ ([] ++ [l])).length : Nat) : Int) true, _)
    rw [hfe]
    rfl
  · have hc : changesJ ls l = [frameC l, syncC] := by unfold changesJ; rw [if_neg hn]; rfl
    rw [hc] at hfu ⊢
    have hfu' : (2 : Int) ≤ fuel := hfu
    rw [disk_some hn, goC_step (d' := oneJ (framesJ (ls ++ [l])) (sizeJ ls : Nat) true) (by omega) (by rw [one_app, app_one (by rw [hf, List.length_append] at h; omega) (by omega) (show ((sizeJ ls : Nat) : Int) ≤ (((framesJ ls).length : Nat) : Int) from Int.le_refl _), hf]),
      goC_step (d' := oneJ (framesJ (ls ++ [l])) (framesJ (ls ++ [l])).length true) (by omega) (by rw [one_sync, sync_one h (by omega) (by show ((sizeJ ls : Nat) : Int) ≤ _; rw [hf, List.length_append]; show (((framesJ ls).length : Nat) : Int) ≤ _; omega)])]
    rfl
/-- P10.6: behind a crash the journal of what was added is what it was. -/
theorem crash_disk {ls : List L} (hr : ∀ a ∈ ls, RightR a) (h : (framesJ ls).length ≤ 20000) (keep : List Int) (dir : Bool) : crashK (diskJ ls) keep dir = diskJ ls := by
  unfold crashK
  rw [good_of (disk_right h)]
  by_cases hn : ls = []
  · subst hn; exact crash_zeroD keep dir
  · rw [disk_some hn]
    rcases crash_oneJ (k := true) (show (0 : Int) ≤ ((sizeJ ls : Nat) : Int) by omega) (Int.le_refl _) h keep dir with ⟨_, q⟩ | ⟨n, h1, h2, e⟩
    · cases q
    · have hnn : n = (framesJ ls).length := by
        rw [Int.toNat_natCast] at h1
        have : sizeJ ls = (framesJ ls).length := rfl
        omega
      rw [e, hnn, List.take_of_length_le (Nat.le_refl _)]
      rfl
/-- P10.5: behind any cut the journal has the leases that it had, or these and the one more. -/
theorem cuts_math {ls : List L} {l : L} (hr : ∀ a ∈ ls, RightR a) (hl : RightR l) (h : (framesJ (ls ++ [l])).length ≤ 20000) {x : D} {n : Nat} (hx : Half ls l x n) (keep : List Int) (dir : Bool) :
    (openJ (crashK x keep dir)).2 = 0 ∧ (readD (openJ (crashK x keep dir)).1).2.2 = 0 ∧ (((readD (openJ (crashK x keep dir)).1).1 = ls ∧ n < (changesJ ls l).length) ∨ (readD (openJ (crashK x keep dir)).1).1 = ls ++ [l]) := by
  have hf := frames_snoc ls l
  have hfl : (framesJ ls).length ≤ 20000 := by rw [hf, List.length_append] at h; omega
  have hcl : 2 ≤ (changesJ ls l).length := by unfold changesJ; rw [List.length_append]; show 2 ≤ 2 + _; omega
  have whole : ∀ {ms : List L}, (∀ a ∈ ms, RightR a) → (framesJ ms).length ≤ 20000 → (openJ (oneJ (framesJ ms) (framesJ ms).length true)).2 = 0 ∧ readD (openJ (oneJ (framesJ ms) (framesJ ms).length true)).1 = (ms, sizeJ ms, 0) := by
    intro ms hms hle
    have hs := scan_all hms
    have h2 : (scanJ (framesJ ms)).2.2 ≠ 2 := by rw [hs]; show (0 : Int) ≠ 2; decide
    rw [read_opened hle h2, hs, open_oneJ hle h2 (scan_whole _)]
    exact ⟨rfl, rfl⟩
  have none : (openJ zeroD).2 = 0 ∧ readD (openJ zeroD).1 = ([], 0, 0) := by rw [open_zeroD]; exact ⟨rfl, read_zeroD⟩
  rcases hx with ⟨rfl, rfl⟩ | ⟨s, k, rfl, hs1, hs2, hk, hall⟩
  · rw [crash_disk hr hfl]
    by_cases hn : ls = []
    · subst hn
      obtain ⟨a, b⟩ := none
      rw [disk_nil, b]
      exact ⟨a, rfl, .inl ⟨rfl, by omega⟩⟩
    · obtain ⟨a, b⟩ := whole hr hfl
      rw [disk_some hn, show ((sizeJ ls : Nat) : Int) = (((framesJ ls).length : Nat) : Int) from rfl, b]
      exact ⟨a, rfl, .inl ⟨rfl, by omega⟩⟩
  · have hz0 : (0 : Int) ≤ ((s : Nat) : Int) := by omega
    have hz1 : ((s : Nat) : Int) ≤ (((framesJ (ls ++ [l])).length : Nat) : Int) := by omega
    unfold crashK
    rw [good_of (one_right k h hz0 hz1)]
    rcases crash_oneJ (k := k) hz0 hz1 h keep dir with ⟨e, rfl⟩ | ⟨m, h1, h2, e⟩
    · obtain ⟨a, b⟩ := none
      rw [e, b, hk rfl]
      refine ⟨a, rfl, .inl ⟨rfl, ?_⟩⟩
      rcases hall with q | ⟨_, q⟩
      · rw [hk rfl] at q; exact q
      · cases q
    · rw [Int.toNat_natCast] at h1
      rw [e]
      have hsz : sizeJ ls = (framesJ ls).length := rfl
      have htk : (framesJ (ls ++ [l])).take m = framesJ ls ++ (frameL (encR l)).take (m - (framesJ ls).length) := by
        rw [hf, List.take_append, List.take_of_length_le (show (framesJ ls).length ≤ m by omega)]
      have hlen : (framesJ (ls ++ [l])).length = (framesJ ls).length + (frameL (encR l)).length := by rw [hf, List.length_append]
      by_cases hm : m = (framesJ (ls ++ [l])).length
      · rw [hm, List.take_of_length_le (Nat.le_refl _)]
        obtain ⟨a, b⟩ := whole (ms := ls ++ [l]) (fun a ha => by
          rcases List.mem_append.1 ha with q | q
          · exact hr a q
          · rw [List.mem_singleton.1 q]; exact hl) h
        rw [b]
        exact ⟨a, rfl, .inr rfl⟩
      · have hnl : n < (changesJ ls l).length := by
          rcases hall with q | ⟨q, _⟩
          · exact q
          · omega
        by_cases hj : m = (framesJ ls).length
        · rw [htk, hj, Nat.sub_self, List.take_zero, List.append_nil]
          obtain ⟨a, b⟩ := whole hr hfl
          rw [b]
          exact ⟨a, rfl, .inl ⟨rfl, hnl⟩⟩
        · have ht := scan_torn hr hl (k := m - (framesJ ls).length) (by omega) (by omega)
          rw [← htk] at ht
          have hle : ((framesJ (ls ++ [l])).take m).length ≤ 20000 := by rw [List.length_take]; omega
          have h2' : (scanJ ((framesJ (ls ++ [l])).take m)).2.2 ≠ 2 := by rw [ht]; show (4 : Int) ≠ 2; decide
          rw [read_opened hle h2', ht, open_oneJ hle h2' (scan_whole _)]
          exact ⟨rfl, rfl, .inl ⟨rfl, hnl⟩⟩
end Go.Proofs.YtlefpodonkdbeaaGreat.Jn
end
/- The mathematics of layer 11 (clean): the latest leases of a list, one for each address, in rising order; they are their own latest leases, and put behind the list they change nothing. No program. -/
section
namespace Go.Proofs.YtlefpodonkdbeaaGreat.La
open Rc

/-! ### In rising order -/
def Inc (l : List L) : Prop := l.Pairwise fun a b => a.addr < b.addr
def Apart (l : List L) : Prop := l.Pairwise fun a b => a.addr ≠ b.addr
theorem Inc.apart {l : List L} (h : Inc l) : Apart l := List.Pairwise.imp (fun {a b} k => by omega) h
/-- Lists in rising order that have the same leases are one. -/
theorem inc_ext : ∀ {l m : List L}, Inc l → Inc m → (∀ a, a ∈ l ↔ a ∈ m) → l = m
  | [], [], _, _, _ => rfl
  | [], b :: m, _, _, h => by have := (h b).2 (.head _); cases this
  | a :: l, [], _, _, h => by have := (h a).1 (.head _); cases this
  | a :: l, b :: m, hl, hm, h => by
    obtain ⟨l1, l2⟩ := List.pairwise_cons.1 hl
    obtain ⟨m1, m2⟩ := List.pairwise_cons.1 hm
    have hab : a = b := by
      rcases List.mem_cons.1 ((h a).1 (.head _)) with e | ha
      · exact e
      rcases List.mem_cons.1 ((h b).2 (.head _)) with e | hb
      · exact e.symm
      · have := m1 a ha
        have := l1 b hb
        omega
    subst hab
    rw [inc_ext l2 m2 fun c => ?_]
    constructor
    · intro hc
      rcases List.mem_cons.1 ((h c).1 (.tail _ hc)) with e | k
      · have := l1 c hc
        rw [e] at this
        omega
      · exact k
    · intro hc
      rcases List.mem_cons.1 ((h c).2 (.tail _ hc)) with e | k
      · have := m1 c hc
        rw [e] at this
        omega
      · exact k

/-! ### The latest leases -/
/-- a is the last lease of its address. -/
def IsLast (a : L) (l : List L) : Prop := ∃ p q, l = p ++ a :: q ∧ ∀ b ∈ q, b.addr ≠ a.addr
instance (a : L) (l : List L) : Decidable (∀ b ∈ l, b.addr ≠ a.addr) := inferInstance
def uniqL : List L → List L
  | [] => []
  | a :: l => if ∀ b ∈ l, b.addr ≠ a.addr then a :: uniqL l else uniqL l
def insL (a : L) : List L → List L
  | [] => [a]
  | b :: l => if a.addr ≤ b.addr then a :: b :: l else b :: insL a l
def sortL (l : List L) : List L := l.foldr insL []
def lastL (l : List L) : List L := sortL (uniqL l)

theorem last_mem {a : L} {l : List L} (h : IsLast a l) : a ∈ l := by
  obtain ⟨p, q, rfl, _⟩ := h
  exact List.mem_append_right _ (.head _)
theorem last_cons {a b : L} {l : List L} : IsLast a (b :: l) ↔ (a = b ∧ ∀ c ∈ l, c.addr ≠ b.addr) ∨ IsLast a l := by
  constructor
  · rintro ⟨p, q, e, h⟩
    cases p with
    | nil =>
      injection e with e1 e2
      subst e1 e2
      exact .inl ⟨rfl, h⟩
    | cons c p =>
      injection e with _ e2
      exact .inr ⟨p, q, e2, h⟩
  · rintro (⟨rfl, h⟩ | ⟨p, q, rfl, h⟩)
    · exact ⟨[], l, rfl, h⟩
    · exact ⟨b :: p, q, rfl, h⟩
theorem mem_uniq : ∀ {l : List L} {a : L}, a ∈ uniqL l ↔ IsLast a l
  | [], a => ⟨fun h => (by cases h), fun ⟨p, q, e, _⟩ => (by cases p <;> cases e)⟩
  | b :: l, a => by
    rw [last_cons, uniqL]
    split
    · next h =>
      rw [List.mem_cons, mem_uniq]
      constructor
      · rintro (e | k)
        · exact .inl ⟨e, h⟩
        · exact .inr k
      · rintro (⟨e, _⟩ | k)
        · exact .inl e
        · exact .inr k
    · next h =>
      rw [mem_uniq]
      constructor
      · exact .inr
      · rintro (⟨_, k⟩ | k)
        · exact absurd k h
        · exact k
theorem uniq_apart : ∀ l : List L, Apart (uniqL l)
  | [] => List.Pairwise.nil
  | b :: l => by
    rw [uniqL]
    split
    · next h => exact List.pairwise_cons.2 ⟨fun a ha k => h a (last_mem (mem_uniq.1 ha)) k.symm, uniq_apart l⟩
    · exact uniq_apart l
theorem uniq_len : ∀ l : List L, (uniqL l).length ≤ l.length
  | [] => Nat.le_refl _
  | b :: l => by
    have := uniq_len l
    rw [uniqL]
    split
    · rw [List.length_cons, List.length_cons]; omega
    · rw [List.length_cons]; omega
theorem uniq_same : ∀ {l : List L}, Apart l → uniqL l = l
  | [], _ => rfl
  | b :: l, h => by
    obtain ⟨h1, h2⟩ := List.pairwise_cons.1 h
    rw [uniqL, if_pos (fun a ha k => h1 a ha k.symm), uniq_same h2]
theorem uniq_all : ∀ {l : List L}, (uniqL l).length = l.length → Apart l
  | [], _ => List.Pairwise.nil
  | b :: l, h => by
    have h1 := uniq_len l
    rw [uniqL] at h
    split at h
    · next hf =>
      rw [List.length_cons, List.length_cons] at h
      exact List.pairwise_cons.2 ⟨fun a ha k => hf a ha k.symm, uniq_all (by omega)⟩
    · rw [List.length_cons] at h
      omega
theorem mem_ins : ∀ {l : List L} {a b : L}, b ∈ insL a l ↔ b = a ∨ b ∈ l
  | [], a, b => by simp [insL]
  | c :: l, a, b => by
    rw [insL]
    split
    · simp
    · rw [List.mem_cons, mem_ins, List.mem_cons]
      constructor
      · rintro (h | h | h)
        · exact .inr (.inl h)
        · exact .inl h
        · exact .inr (.inr h)
      · rintro (h | h | h)
        · exact .inr (.inl h)
        · exact .inl h
        · exact .inr (.inr h)
theorem ins_len : ∀ (a : L) (l : List L), (insL a l).length = l.length + 1
  | a, [] => rfl
  | a, c :: l => by
    rw [insL]
    split
    · rfl
    · rw [List.length_cons, ins_len, List.length_cons]
theorem ins_inc : ∀ {l : List L} {a : L}, Inc l → (∀ b ∈ l, a.addr ≠ b.addr) → Inc (insL a l)
  | [], a, _, _ => List.pairwise_singleton _ _
  | c :: l, a, h, hn => by
    obtain ⟨h1, h2⟩ := List.pairwise_cons.1 h
    have hc := hn c (.head _)
    rw [insL]
    split
    · next hle =>
      refine List.pairwise_cons.2 ⟨fun b hb => ?_, h⟩
      rcases List.mem_cons.1 hb with rfl | hb
      · omega
      · have := h1 b hb
        omega
    · next hle =>
      refine List.pairwise_cons.2 ⟨fun b hb => ?_, ins_inc h2 fun b hb => hn b (.tail _ hb)⟩
      rcases mem_ins.1 hb with rfl | hb
      · omega
      · exact h1 b hb
theorem mem_sort : ∀ {l : List L} {a : L}, a ∈ sortL l ↔ a ∈ l
  | [], a => Iff.rfl
  | b :: l, a => by
    show a ∈ insL b (sortL l) ↔ _
    rw [mem_ins, mem_sort, List.mem_cons]
theorem sort_len : ∀ l : List L, (sortL l).length = l.length
  | [] => rfl
  | b :: l => by
    show (insL b (sortL l)).length = _
    rw [ins_len, sort_len l, List.length_cons]
theorem sort_inc : ∀ {l : List L}, Apart l → Inc (sortL l)
  | [], _ => List.Pairwise.nil
  | b :: l, h => by
    obtain ⟨h1, h2⟩ := List.pairwise_cons.1 h
    exact ins_inc (sort_inc h2) fun a ha => h1 a (mem_sort.1 ha)
theorem last_inc (l : List L) : Inc (lastL l) := sort_inc (uniq_apart l)
theorem mem_last {l : List L} {a : L} : a ∈ lastL l ↔ IsLast a l := mem_sort.trans mem_uniq
/-- Whatever is in rising order and has just the last leases of their addresses is the latest leases. -/
theorem last_is {l m : List L} (hm : Inc m) (h : ∀ a, a ∈ m ↔ IsLast a l) : m = lastL l := inc_ext hm (last_inc l) fun a => (h a).trans mem_last.symm
theorem last_sub {l : List L} {a : L} (h : a ∈ lastL l) : a ∈ l := last_mem (mem_last.1 h)
theorem isLast_apart {l : List L} {a : L} (h : Apart l) (ha : a ∈ l) : IsLast a l := by
  rw [← mem_uniq, uniq_same h]
  exact ha
theorem last_same {l : List L} (h : Inc l) : lastL l = l := (last_is h fun _ => ⟨isLast_apart h.apart, last_mem⟩).symm
/-- P11.4. -/
theorem last_last (l : List L) : lastL (lastL l) = lastL l := last_same (last_inc l)
theorem last_any : ∀ {l : List L} {a : L}, a ∈ l → ∃ b, IsLast b l ∧ b.addr = a.addr
  | b :: l, a, h => by
    by_cases hf : ∀ c ∈ l, c.addr ≠ b.addr
    · rcases List.mem_cons.1 h with e | h
      · exact ⟨b, last_cons.2 (.inl ⟨rfl, hf⟩), by rw [e]⟩
      · obtain ⟨c, hc, e⟩ := last_any h
        exact ⟨c, last_cons.2 (.inr hc), e⟩
    · rcases List.mem_cons.1 h with e | h
      · have hx : ∃ c, c ∈ l ∧ c.addr = b.addr := by
          refine Decidable.byContradiction fun k => hf fun c hc e => k ⟨c, hc, e⟩
        obtain ⟨c, hc, ec⟩ := hx
        obtain ⟨d, hd, e2⟩ := last_any hc
        exact ⟨d, last_cons.2 (.inr hd), by rw [e2, ec, e]⟩
      · obtain ⟨c, hc, e⟩ := last_any h
        exact ⟨c, last_cons.2 (.inr hc), e⟩
theorem last_app {l m : List L} {a : L} : IsLast a (l ++ m) ↔ IsLast a m ∨ (IsLast a l ∧ ∀ b ∈ m, b.addr ≠ a.addr) := by
  induction l with
  | nil =>
    rw [List.nil_append]
    constructor
    · exact .inl
    · rintro (h | ⟨⟨p, q, e, _⟩, _⟩)
      · exact h
      · cases p <;> cases e
  | cons b l ih =>
    rw [List.cons_append, last_cons, ih, last_cons]
    constructor
    · rintro (⟨rfl, h⟩ | h | ⟨h, k⟩)
      · exact .inr ⟨.inl ⟨rfl, fun c hc => h c (List.mem_append_left _ hc)⟩, fun c hc => h c (List.mem_append_right _ hc)⟩
      · exact .inl h
      · exact .inr ⟨.inr h, k⟩
    · rintro (h | ⟨⟨rfl, h⟩ | h, k⟩)
      · exact .inr (.inl h)
      · refine .inl ⟨rfl, fun c hc => ?_⟩
        rcases List.mem_append.1 hc with hc | hc
        · exact h c hc
        · exact k c hc
      · exact .inr (.inr ⟨h, k⟩)
theorem last_behind (l : List L) : lastL (l ++ lastL l) = lastL l := by
  refine (last_is (last_inc l) fun a => ?_).symm
  rw [last_app]
  constructor
  · intro ha
    exact .inl (isLast_apart (last_inc l).apart ha)
  · rintro (h | ⟨h, k⟩)
    · exact last_mem h
    · exact absurd rfl (k a (mem_last.2 h))
theorem last_len (l : List L) : (lastL l).length ≤ l.length := by unfold lastL; rw [sort_len]; exact uniq_len l
theorem last_len_inc {l : List L} (h : (lastL l).length = l.length) : Apart l := uniq_all (by unfold lastL at h; rwa [sort_len] at h)
theorem last_right {l : List L} (h : ∀ a ∈ l, RightR a) : ∀ a ∈ lastL l, RightR a := fun a ha => h a (last_sub ha)
theorem last_short {l : List L} (h : Inc l) : (lastL l).length = l.length := by rw [last_same h]

/-! ### By choosing the least, one by one -/
/-- Where the least of the first n + 1 stands, the first of such. -/
def bestL (l : List L) : Nat → Nat
  | 0 => 0
  | n + 1 => if ((l.getD (n + 1) zeroL).addr) < ((l.getD (bestL l n) zeroL).addr) then n + 1 else bestL l n
theorem best_le (l : List L) : ∀ n, bestL l n ≤ n
  | 0 => Nat.le_refl _
  | n + 1 => by
    have := best_le l n
    rw [bestL]
    split <;> omega
theorem best_least (l : List L) : ∀ n i, i ≤ n → (l.getD (bestL l n) zeroL).addr ≤ (l.getD i zeroL).addr
  | 0, i, h => by rw [Nat.le_zero.1 h]; exact Int.le_refl _
  | n + 1, i, h => by
    rw [bestL]
    rcases Nat.lt_or_ge n i with k | k
    · obtain rfl : i = n + 1 := by omega
      split <;> omega
    · have := best_least l n i k
      split <;> omega
/-- The chosen ones and those that are left. -/
structure Sel (u out left : List L) : Prop where
  inc : Inc out
  apart : Apart left
  less : ∀ a ∈ out, ∀ b ∈ left, a.addr < b.addr
  mem : ∀ a, a ∈ out ∨ a ∈ left ↔ a ∈ u
theorem sel_start {u : List L} (h : Apart u) : Sel u [] u := ⟨List.Pairwise.nil, h, fun a ha => (by cases ha), fun a => ⟨fun k => k.elim (fun k => (by cases k)) id, .inr⟩⟩
theorem sel_end {u out : List L} (hu : Apart u) (h : Sel u out []) : out = sortL u := inc_ext h.inc (sort_inc hu) fun a => by
  rw [mem_sort, ← h.mem a]
  exact ⟨.inl, fun k => k.elim id (fun k => by cases k)⟩
theorem sel_step {u out left : List L} (h : Sel u out left) {k : Nat} {a : L} (hk : left[k]? = some a) (hb : ∀ b ∈ left, a.addr ≤ b.addr) : Sel u (out ++ [a]) (left.take k ++ left.drop (k + 1)) := by
  obtain ⟨hlt, hg⟩ := List.getElem?_eq_some_iff.1 hk
  have e : left = left.take k ++ a :: left.drop (k + 1) := by rw [← hg, ← List.drop_eq_getElem_cons hlt, List.take_append_drop]
  have hsub : (left.take k ++ left.drop (k + 1)).Sublist left := by
    conv => rhs; rw [e]
    exact List.Sublist.append (List.Sublist.refl _) (List.sublist_cons_self _ _)
  have hm : ∀ b, b ∈ left ↔ b = a ∨ b ∈ left.take k ++ left.drop (k + 1) := fun b => by
    conv => lhs; rw [e]
    rw [List.mem_append, List.mem_cons, List.mem_append]
    constructor
    · rintro (q | q | q)
      · exact .inr (.inl q)
      · exact .inl q
      · exact .inr (.inr q)
    · rintro (q | q | q)
      · exact .inr (.inl q)
      · exact .inl q
      · exact .inr (.inr q)
  have hap := h.apart
  rw [e] at hap
  have hne : ∀ b ∈ left.take k ++ left.drop (k + 1), b.addr ≠ a.addr := fun b hbm => by
    obtain ⟨_, h2, h3⟩ := List.pairwise_append.1 hap
    rcases List.mem_append.1 hbm with q | q
    · exact h3 b q a (.head _)
    · exact fun k => (List.pairwise_cons.1 h2).1 b q k.symm
  refine ⟨List.pairwise_append.2 ⟨h.inc, List.pairwise_singleton _ _, fun x hx y hy => ?_⟩, h.apart.sublist hsub, fun x hx y hy => ?_, fun x => ?_⟩
  · rw [List.mem_singleton.1 hy]
    exact h.less x hx a (List.mem_of_getElem? hk)
  · have hyl := hsub.subset hy
    rcases List.mem_append.1 hx with q | q
    · exact h.less x q y hyl
    · rw [List.mem_singleton.1 q]
      have h1 := hb y hyl
      have h2 := hne y hy
      omega
  · rw [← h.mem x, hm x, List.mem_append, List.mem_singleton]
    constructor
    · rintro ((q | q) | q)
      · exact .inl q
      · exact .inr (.inl q)
      · exact .inr (.inr q)
    · rintro (q | q | q)
      · exact .inl (.inl q)
      · exact .inl (.inr q)
      · exact .inr q
end Go.Proofs.YtlefpodonkdbeaaGreat.La
end
/- The mathematics of layer 11, continued: the changes that put leases in the journal's place; behind any cut and any crash the journal has the leases that it had, or the others (P11.3). No program. -/
section
namespace Go.Proofs.YtlefpodonkdbeaaGreat.La
open Co Rc Dk Jn

def delC : Ch := ⟨4, nK, [], []⟩
def putC (ls : List L) : Ch := ⟨1, nK, [], framesJ ls⟩
def safeC : Ch := ⟨2, nK, [], []⟩
def moveC : Ch := ⟨3, nK, nJ, []⟩
def fourC (ls : List L) : List Ch := [putC ls, safeC, moveC, dirC]
def cleanC (d : D) (ls : List L) : List Ch × Int :=
  if ∀ a ∈ ls, RightR a then (if 20000 < (framesJ ls).length then ([], 3) else ((if (getK d nK).2 = 0 then [delC] else []) ++ fourC ls, 0)) else ([], 1)
def dueD (d : D) (many : Int) : Bool := decide ((readD d).2.2 = 0) && decide (many < ((readD d).1.length : Int)) && decide (¬ (readD d).1.length = (lastL (readD d).1).length)

theorem get_disk (ks : List L) (h : (framesJ ks).length ≤ 20000) : getK (diskJ ks) nK = ([], 5) := by
  rw [get_none (disk_right h)]
  unfold diskJ
  split <;> rfl
theorem clean_disk {ks ls : List L} (h : (framesJ ks).length ≤ 20000) (hr : ∀ a ∈ ls, RightR a) (hl : (framesJ ls).length ≤ 20000) : cleanC (diskJ ks) ls = (fourC ls, 0) := by
  unfold cleanC
  rw [if_pos hr, if_neg (by omega), get_disk ks h]
  rfl

/-! ### The disks on the way -/
/-- a: the old journal, if there was one; b: the new one. -/
def st1 (ks : List L) (b : List UInt8) (s : Int) : D := if ks = [] then ⟨[⟨b, s⟩], [(nK, 0)], []⟩ else ⟨[full (framesJ ks), ⟨b, s⟩], [(nJ, 0), (nK, 1)], [(nJ, 0)]⟩
def st3 (ks : List L) (b : List UInt8) : D := if ks = [] then ⟨[full b], [(nJ, 0)], []⟩ else ⟨[full b, full (framesJ ks)], [(nJ, 0)], [(nJ, 1)]⟩
def st4 (b : List UInt8) : D := ⟨[full b], [(nJ, 0)], [(nJ, 0)]⟩
theorem k1 (b : List UInt8) (h : b.length ≤ 20000) : appendG zeroD nK b = (⟨[⟨b, 0⟩], [(nK, 0)], []⟩, 0) := by
  have e : appendG zeroD nK b = if 20 ≤ 0 ∨ 20000 < b.length then (zeroD, 3) else (orderedD (newD zeroD nK b), 0) := rfl
  rw [e, if_neg (by omega)]
  rfl
theorem k2 (b : List UInt8) : syncG ⟨[⟨b, 0⟩], [(nK, 0)], []⟩ nK = (⟨[full b], [(nK, 0)], []⟩, 0) := rfl
theorem k3 (b : List UInt8) : renameG ⟨[full b], [(nK, 0)], []⟩ nK nJ = (⟨[full b], [(nJ, 0)], []⟩, 0) := rfl
theorem k4 (b : List UInt8) : syncDirG ⟨[full b], [(nJ, 0)], []⟩ = st4 b := rfl
theorem do1 {ks : List L} {b : List UInt8} (ha : (framesJ ks).length ≤ 20000) (h : b.length ≤ 20000) : appendK (diskJ ks) nK b = (st1 ks b 0, 0) := by
  unfold appendK
  rw [good_of (disk_right ha)]
  unfold diskJ st1
  by_cases hk : ks = []
  · rw [if_pos hk, if_pos hk]; exact k1 b h
  · rw [if_neg hk, if_neg hk]; exact j3 (framesJ ks) b h
theorem right1 {ks : List L} {b : List UInt8} (ha : (framesJ ks).length ≤ 20000) (h : b.length ≤ 20000) : RightD (st1 ks b 0) := by
  have := append_right (disk_right ha) nK b
  have e : appendG (diskJ ks) nK b = (st1 ks b 0, 0) := by have := do1 ha h; unfold appendK at this; rwa [good_of (disk_right ha)] at this
  rwa [e] at this
theorem do2 {ks : List L} {b : List UInt8} (ha : (framesJ ks).length ≤ 20000) (h : b.length ≤ 20000) : syncK (st1 ks b 0) nK = (st1 ks b b.length, 0) := by
  unfold syncK
  rw [good_of (right1 ha h)]
  unfold st1
  by_cases hk : ks = []
  · rw [if_pos hk, if_pos hk]; rfl
  · rw [if_neg hk, if_neg hk]; rfl
theorem right2 {ks : List L} {b : List UInt8} (ha : (framesJ ks).length ≤ 20000) (h : b.length ≤ 20000) : RightD (st1 ks b b.length) := by
  have := sync_right (right1 ha h) nK
  have e : syncG (st1 ks b 0) nK = (st1 ks b b.length, 0) := by have := do2 ha h; unfold syncK at this; rwa [good_of (right1 ha h)] at this
  rwa [e] at this
theorem do3 {ks : List L} {b : List UInt8} (ha : (framesJ ks).length ≤ 20000) (h : b.length ≤ 20000) : renameK (st1 ks b b.length) nK nJ = (st3 ks b, 0) := by
  unfold renameK
  rw [good_of (right2 ha h)]
  unfold st1 st3
  by_cases hk : ks = []
  · rw [if_pos hk, if_pos hk]; rfl
  · rw [if_neg hk, if_neg hk]; rfl
theorem right3 {ks : List L} {b : List UInt8} (ha : (framesJ ks).length ≤ 20000) (h : b.length ≤ 20000) : RightD (st3 ks b) := by
  have := rename_right (right2 ha h) nK nJ
  have e : renameG (st1 ks b b.length) nK nJ = (st3 ks b, 0) := by have := do3 ha h; unfold renameK at this; rwa [good_of (right2 ha h)] at this
  rwa [e] at this
theorem do4 {ks : List L} {b : List UInt8} (ha : (framesJ ks).length ≤ 20000) (h : b.length ≤ 20000) : syncDirK (st3 ks b) = st4 b := by
  unfold syncDirK
  rw [good_of (right3 ha h)]
  unfold st3
  by_cases hk : ks = []
  · rw [if_pos hk]; rfl
  · rw [if_neg hk]; rfl
theorem st4_one (b : List UInt8) : st4 b = oneJ b b.length true := rfl
theorem right4 {b : List UInt8} (h : b.length ≤ 20000) : RightD (st4 b) := one_right true h (by omega) (Int.le_refl _)

/-! ### So far as changes were done -/
def HalfN (ks ls : List L) (x : D) (n : Nat) : Prop :=
  (x = diskJ ks ∧ n = 0) ∨ (x = st1 ks (framesJ ls) 0 ∧ n = 1) ∨ (x = st1 ks (framesJ ls) (framesJ ls).length ∧ n = 2) ∨ (x = st3 ks (framesJ ls) ∧ n = 3) ∨ (x = st4 (framesJ ls) ∧ n = 4)
theorem clean_half {ks ls : List L} (ha : (framesJ ks).length ≤ 20000) (h : (framesJ ls).length ≤ 20000) (fuel : Int) : HalfN ks ls (doC (diskJ ks) (fourC ls) fuel).1 (doC (diskJ ks) (fourC ls) fuel).2 := by
  have s1 : oneC (diskJ ks) (putC ls) = (st1 ks (framesJ ls) 0, 0) := do1 ha h
  have s2 : oneC (st1 ks (framesJ ls) 0) safeC = (st1 ks (framesJ ls) (framesJ ls).length, 0) := do2 ha h
  have s3 : oneC (st1 ks (framesJ ls) (framesJ ls).length) moveC = (st3 ks (framesJ ls), 0) := do3 ha h
  have s4 : oneC (st3 ks (framesJ ls)) dirC = (st4 (framesJ ls), 0) := by rw [one_dir, do4 ha h]
  unfold doC
  rw [good_of (disk_right ha)]
  unfold fourC
  by_cases h0 : fuel ≤ ((0 : Nat) : Int)
  · rw [goC_stop h0]; exact .inl ⟨rfl, rfl⟩
  rw [goC_step h0 s1]
  by_cases h1 : fuel ≤ ((0 + 1 : Nat) : Int)
  · rw [goC_stop h1]; exact .inr (.inl ⟨rfl, rfl⟩)
  rw [goC_step h1 s2]
  by_cases h2 : fuel ≤ ((0 + 1 + 1 : Nat) : Int)
  · rw [goC_stop h2]; exact .inr (.inr (.inl ⟨rfl, rfl⟩))
  rw [goC_step h2 s3]
  by_cases h3 : fuel ≤ ((0 + 1 + 1 + 1 : Nat) : Int)
  · rw [goC_stop h3]; exact .inr (.inr (.inr (.inl ⟨rfl, rfl⟩)))
  rw [goC_step h3 s4]
  exact .inr (.inr (.inr (.inr ⟨rfl, rfl⟩)))
theorem clean_all {ks ls : List L} (ha : (framesJ ks).length ≤ 20000) (h : (framesJ ls).length ≤ 20000) {fuel : Int} (hf : 4 ≤ fuel) : doC (diskJ ks) (fourC ls) fuel = (st4 (framesJ ls), 4) := by
  have s1 : oneC (diskJ ks) (putC ls) = (st1 ks (framesJ ls) 0, 0) := do1 ha h
  have s2 : oneC (st1 ks (framesJ ls) 0) safeC = (st1 ks (framesJ ls) (framesJ ls).length, 0) := do2 ha h
  have s3 : oneC (st1 ks (framesJ ls) (framesJ ls).length) moveC = (st3 ks (framesJ ls), 0) := do3 ha h
  have s4 : oneC (st3 ks (framesJ ls)) dirC = (st4 (framesJ ls), 0) := by rw [one_dir, do4 ha h]
  unfold doC
  rw [good_of (disk_right ha)]
  unfold fourC
  rw [goC_step (by omega) s1, goC_step (by omega) s2, goC_step (by omega) s3, goC_step (by omega) s4]
  rfl
theorem read_new {ls : List L} (hr : ∀ a ∈ ls, RightR a) (h : (framesJ ls).length ≤ 20000) : readD (st4 (framesJ ls)) = (ls, sizeJ ls, 0) := by
  rw [st4_one, read_oneJ true h (by omega) (Int.le_refl _), scan_all hr]

/-! ### A crash on the way -/
theorem read_file {d : D} {dir : Bool} (h : RightD d) {f : Int} (hf : findE (dirOf d dir) nJ = some f) (b : List UInt8) (hb : fileAt d f = full b) (keep : List Int) : readD (crashG d keep dir) = scanJ b := by
  obtain ⟨k, hk, _⟩ := crash_get h (keep := keep) (dir := dir) (n := nJ) hf
  unfold readD
  rw [hk, hb, left_all rfl]
  rfl
theorem read_gone {d : D} (h : RightD d) {dir : Bool} (hf : findE (dirOf d dir) nJ = none) (keep : List Int) : readD (crashG d keep dir) = ([], 0, 0) := by
  have hn : findE (crashG d keep dir).now nJ = none := by
    refine find_none.2 fun e he k => ?_
    obtain ⟨⟨a, ha, e1⟩, _⟩ := crashEs_mem (show e ∈ crashEs 0 (dirOf d dir) from he)
    exact find_none.1 hf a ha (e1.trans k)
  unfold readD
  rw [get_none (crash_right h keep dir) hn]
  exact scan_nil
/-- What is read behind a crash: what was there, or the others; these, if all was done. -/
theorem clean_crash {ks ls : List L} (hk : ∀ a ∈ ks, RightR a) (hl : ∀ a ∈ ls, RightR a) (ha : (framesJ ks).length ≤ 20000) (h : (framesJ ls).length ≤ 20000) {x : D} {n : Nat} (hx : HalfN ks ls x n) (keep : List Int) (dir : Bool) :
    (readD (crashK x keep dir)).2.2 = 0 ∧ ((readD (crashK x keep dir)).1 = ls ∨ ((readD (crashK x keep dir)).1 = ks ∧ n < 4)) := by
  have old : ∀ {d : D} (hR : RightD d), readD (crashG d keep dir) = scanJ (framesJ ks) → n < 4 → (readD (crashK d keep dir)).2.2 = 0 ∧ ((readD (crashK d keep dir)).1 = ls ∨ ((readD (crashK d keep dir)).1 = ks ∧ n < 4)) := fun hR e hn => by
    unfold crashK
    rw [good_of hR, e, scan_all hk]
    exact ⟨rfl, .inr ⟨rfl, hn⟩⟩
  have new : ∀ {d : D} (hR : RightD d), readD (crashG d keep dir) = scanJ (framesJ ls) → (readD (crashK d keep dir)).2.2 = 0 ∧ ((readD (crashK d keep dir)).1 = ls ∨ ((readD (crashK d keep dir)).1 = ks ∧ n < 4)) := fun hR e => by
    unfold crashK
    rw [good_of hR, e, scan_all hl]
    exact ⟨rfl, .inl rfl⟩
  rcases hx with ⟨rfl, rfl⟩ | ⟨rfl, rfl⟩ | ⟨rfl, rfl⟩ | ⟨rfl, rfl⟩ | ⟨rfl, rfl⟩
  · rw [crash_disk hk ha keep dir, read_disk hk ha]
    exact ⟨rfl, .inr ⟨rfl, by decide⟩⟩
  · refine old (right1 ha h) ?_ (by decide)
    have hR := right1 ha h
    unfold st1 at hR ⊢
    by_cases hn : ks = []
    · subst hn
      rw [if_pos rfl] at hR ⊢
      rw [read_gone hR (by cases dir <;> rfl)]
      exact scan_nil.symm
    · rw [if_neg hn] at hR ⊢
      exact read_file hR (f := 0) (by cases dir <;> rfl) _ rfl keep
  · refine old (right2 ha h) ?_ (by decide)
    have hR := right2 ha h
    unfold st1 at hR ⊢
    by_cases hn : ks = []
    · subst hn
      rw [if_pos rfl] at hR ⊢
      rw [read_gone hR (by cases dir <;> rfl)]
      exact scan_nil.symm
    · rw [if_neg hn] at hR ⊢
      exact read_file hR (f := 0) (by cases dir <;> rfl) _ rfl keep
  · have hR := right3 ha h
    cases dir with
    | true =>
      refine new hR ?_
      unfold st3 at hR ⊢
      by_cases hn : ks = []
      · rw [if_pos hn] at hR ⊢
        exact read_file hR (f := 0) rfl _ rfl keep
      · rw [if_neg hn] at hR ⊢
        exact read_file hR (f := 0) rfl _ rfl keep
    | false =>
      refine old hR ?_ (by decide)
      unfold st3 at hR ⊢
      by_cases hn : ks = []
      · subst hn
        rw [if_pos rfl] at hR ⊢
        rw [read_gone hR rfl]
        exact scan_nil.symm
      · rw [if_neg hn] at hR ⊢
        exact read_file hR (f := 1) rfl _ rfl keep
  · exact new (right4 h) (read_file (right4 h) (f := 0) (by cases dir <;> rfl) _ rfl keep)
/-- P11.3. -/
theorem clean_cuts {ks ls : List L} (hk : ∀ a ∈ ks, RightR a) (hl : ∀ a ∈ ls, RightR a) (ha : (framesJ ks).length ≤ 20000) (h : (framesJ ls).length ≤ 20000) {x : D} {n : Nat} (hx : HalfN ks ls x n) (keep : List Int) (dir : Bool) :
    (openJ (crashK x keep dir)).2 = 0 ∧ (readD (openJ (crashK x keep dir)).1).2.2 = 0 ∧ ((readD (openJ (crashK x keep dir)).1).1 = ls ∨ ((readD (openJ (crashK x keep dir)).1).1 = ks ∧ n < 4)) := by
  obtain ⟨h1, h2⟩ := clean_crash hk hl ha h hx keep dir
  rcases open_any (crashK x keep dir) with ⟨e, _⟩ | ⟨_, e1, _, e2, _⟩
  · rw [h1] at e; cases e
  · rw [e2]
    exact ⟨e1, rfl, h2⟩
end Go.Proofs.YtlefpodonkdbeaaGreat.La
end
/- The mathematics of a stable sort by a number, for any kind of elements: what is sorted and keeps the order of equals is one list; a merge of two sorted rows, by halves and a turn. No program. -/
section
namespace Go.Proofs.YtlefpodonkdbeaaGreat.Sb
variable {α : Type} (f : α → Int)

/-! ### Sorted, and with the same order of equals -/
def Ord (l : List α) : Prop := l.Pairwise fun a b => f a ≤ f b
def ofK (k : Int) (l : List α) : List α := l.filter fun a => f a == k
def Eqv (l m : List α) : Prop := ∀ k, ofK f k l = ofK f k m
def ins (a : α) : List α → List α
  | [] => [a]
  | b :: l => if f a ≤ f b then a :: b :: l else b :: ins a l
def srt (l : List α) : List α := l.foldr (ins f) []
variable {f}
theorem ofK_append (k : Int) (l m : List α) : ofK f k (l ++ m) = ofK f k l ++ ofK f k m := by simp [ofK]
theorem ofK_cons (k : Int) (a : α) (l : List α) : ofK f k (a :: l) = if f a = k then a :: ofK f k l else ofK f k l := by
  unfold ofK
  rw [List.filter_cons]
  by_cases h : f a = k <;> simp [h]
theorem Eqv.refl (l : List α) : Eqv f l l := fun _ => rfl
theorem Eqv.symm {l m : List α} (h : Eqv f l m) : Eqv f m l := fun k => (h k).symm
theorem Eqv.trans {l m p : List α} (h : Eqv f l m) (h2 : Eqv f m p) : Eqv f l p := fun k => (h k).trans (h2 k)
theorem Eqv.append {l m p q : List α} (h : Eqv f l m) (h2 : Eqv f p q) : Eqv f (l ++ p) (m ++ q) := fun k => by rw [ofK_append, ofK_append, h k, h2 k]
theorem Eqv.cons {l m : List α} (a : α) (h : Eqv f l m) : Eqv f (a :: l) (a :: m) := Eqv.append (Eqv.refl [a]) h
theorem mem_ofK {k : Int} {a : α} {l : List α} : a ∈ ofK f k l ↔ a ∈ l ∧ f a = k := by simp [ofK]
theorem Eqv.mem {l m : List α} (h : Eqv f l m) (a : α) : a ∈ l ↔ a ∈ m := by
  have h1 : a ∈ ofK f (f a) l ↔ a ∈ ofK f (f a) m := by rw [h (f a)]
  rw [mem_ofK, mem_ofK] at h1
  simpa using h1
/-- Rows that share no number may change places. -/
theorem Eqv.swap {u v : List α} (h : ∀ a ∈ u, ∀ b ∈ v, f a ≠ f b) : Eqv f (u ++ v) (v ++ u) := fun k => by
  rw [ofK_append, ofK_append]
  by_cases hu : ofK f k u = []
  · rw [hu, List.append_nil, List.nil_append]
  · obtain ⟨a, ha⟩ := List.exists_mem_of_ne_nil _ hu
    have hv : ofK f k v = [] := by
      refine List.eq_nil_iff_forall_not_mem.2 fun b hb => ?_
      rw [mem_ofK] at ha hb
      exact h a ha.1 b hb.1 (ha.2.trans hb.2.symm)
    rw [hv, List.append_nil, List.nil_append]
theorem ord_ext : ∀ {l m : List α}, Ord f l → Ord f m → Eqv f l m → l = m
  | [], [], _, _, _ => rfl
  | [], b :: m, _, _, h => by have := (h.mem b).2 (.head _); cases this
  | a :: l, [], _, _, h => by have := (h.mem a).1 (.head _); cases this
  | a :: l, b :: m, hl, hm, h => by
    obtain ⟨l1, l2⟩ := List.pairwise_cons.1 hl
    obtain ⟨m1, m2⟩ := List.pairwise_cons.1 hm
    have hab : f a = f b := by
      have h1 : f b ≤ f a := by
        rcases List.mem_cons.1 ((h.mem a).1 (.head _)) with e | k
        · rw [e]; omega
        · exact m1 a k
      have h2 : f a ≤ f b := by
        rcases List.mem_cons.1 ((h.mem b).2 (.head _)) with e | k
        · rw [e]; omega
        · exact l1 b k
      omega
    have he := h (f a)
    rw [ofK_cons, ofK_cons, if_pos rfl, if_pos hab.symm] at he
    injection he with e _
    subst e
    rw [ord_ext l2 m2 fun k => ?_]
    have hk := h k
    rw [ofK_cons, ofK_cons] at hk
    split at hk
    · injection hk
    · exact hk
theorem ins_len (a : α) : ∀ l : List α, (ins f a l).length = l.length + 1
  | [] => rfl
  | b :: l => by
    rw [ins]
    split
    · rfl
    · rw [List.length_cons, ins_len a l, List.length_cons]
theorem srt_len : ∀ l : List α, (srt f l).length = l.length
  | [] => rfl
  | a :: l => by
    show (ins f a (srt f l)).length = _
    rw [ins_len, srt_len l, List.length_cons]
theorem ins_eqv (a : α) : ∀ l : List α, Eqv f (ins f a l) (a :: l)
  | [] => Eqv.refl _
  | b :: l => by
    rw [ins]
    split
    · exact Eqv.refl _
    · next h =>
      refine (Eqv.cons b (ins_eqv a l)).trans ?_
      exact Eqv.append (Eqv.swap (u := [b]) (v := [a]) (by simp; omega)) (Eqv.refl l)
theorem ins_ord (a : α) : ∀ {l : List α}, Ord f l → Ord f (ins f a l)
  | [], _ => List.pairwise_singleton _ _
  | b :: l, h => by
    obtain ⟨h1, h2⟩ := List.pairwise_cons.1 h
    rw [ins]
    split
    · next hab =>
      refine List.pairwise_cons.2 ⟨fun c hc => ?_, h⟩
      rcases List.mem_cons.1 hc with e | k
      · rw [e]; exact hab
      · have := h1 c k; omega
    · next hab =>
      refine List.pairwise_cons.2 ⟨fun c hc => ?_, ins_ord a h2⟩
      rcases List.mem_cons.1 (((ins_eqv a l).mem c).1 hc) with e | k
      · rw [e]; omega
      · exact h1 c k
theorem srt_eqv : ∀ l : List α, Eqv f (srt f l) l
  | [] => Eqv.refl _
  | a :: l => (ins_eqv a _).trans (Eqv.cons a (srt_eqv l))
theorem srt_ord : ∀ l : List α, Ord f (srt f l)
  | [] => List.Pairwise.nil
  | a :: l => ins_ord a (srt_ord l)
/-- What is sorted and keeps the order of equals. -/
theorem srt_is {l m : List α} (h : Ord f m) (he : Eqv f m l) : m = srt f l := ord_ext h (srt_ord l) (he.trans (srt_eqv l).symm)
theorem srt_same {l : List α} (h : Ord f l) : srt f l = l := (srt_is h (Eqv.refl l)).symm
theorem srt_of_eqv {l m : List α} (h : Eqv f l m) : srt f l = srt f m := srt_is (srt_ord l) ((srt_eqv l).trans h)
theorem srt_nil : srt f ([] : List α) = [] := rfl
theorem srt_one (a : α) : srt f [a] = [a] := rfl
theorem srt_two (l m : List α) : srt f (srt f l ++ srt f m) = srt f (l ++ m) := srt_of_eqv (Eqv.append (srt_eqv l) (srt_eqv m))
theorem Ord.append {l m : List α} (hl : Ord f l) (hm : Ord f m) (h : ∀ a ∈ l, ∀ b ∈ m, f a ≤ f b) : Ord f (l ++ m) := List.pairwise_append.2 ⟨hl, hm, h⟩
theorem Ord.left {l m : List α} (h : Ord f (l ++ m)) : Ord f l := (List.pairwise_append.1 h).1
theorem Ord.right {l m : List α} (h : Ord f (l ++ m)) : Ord f m := (List.pairwise_append.1 h).2.1
theorem Ord.get {l : List α} (h : Ord f l) {i j : Nat} (hij : i ≤ j) (hj : j < l.length) : f (l[i]'(by omega)) ≤ f l[j] := by
  rcases Nat.lt_or_ge i j with k | k
  · exact List.pairwise_iff_getElem.1 h i j (by omega) hj k
  · obtain rfl : i = j := by omega
    exact Int.le_refl _
theorem Ord.take {l : List α} (h : Ord f l) (i : Nat) : Ord f (l.take i) := by
  rw [← List.take_append_drop i l] at h
  exact h.left
theorem Ord.drop {l : List α} (h : Ord f l) (i : Nat) : Ord f (l.drop i) := by
  rw [← List.take_append_drop i l] at h
  exact h.right

/-! ### One element put into a sorted row -/
/-- An element ahead of a row: i of the row are less, the others are not. -/
theorem put_ahead {e : α} {t : List α} (ht : Ord f t) (i : Nat) (h1 : ∀ a ∈ t.take i, f a < f e) (h2 : ∀ a ∈ t.drop i, f e ≤ f a) : t.take i ++ e :: t.drop i = srt f (e :: t) := by
  refine srt_is ?_ ?_
  · refine (ht.take i).append (List.pairwise_cons.2 ⟨h2, ht.drop i⟩) fun a ha b hb => ?_
    rcases List.mem_cons.1 hb with rfl | hb
    · have := h1 a ha; omega
    · have := h1 a ha; have := h2 b hb; omega
  · refine Eqv.trans (m := e :: (t.take i ++ t.drop i)) ?_ (by rw [List.take_append_drop]; exact Eqv.refl _)
    have := Eqv.append (Eqv.swap (f := f) (u := t.take i) (v := [e]) (fun a ha b hb => by rw [List.mem_singleton] at hb; subst hb; have := h1 a ha; omega)) (Eqv.refl (t.drop i))
    simpa using this
/-- An element behind a row: i of the row are not greater, the others are. -/
theorem put_behind {e : α} {s : List α} (hs : Ord f s) (i : Nat) (h1 : ∀ a ∈ s.take i, f a ≤ f e) (h2 : ∀ a ∈ s.drop i, f e < f a) : s.take i ++ e :: s.drop i = srt f (s ++ [e]) := by
  refine srt_is ?_ ?_
  · refine (hs.take i).append (List.pairwise_cons.2 ⟨fun a ha => by have := h2 a ha; omega, hs.drop i⟩) fun a ha b hb => ?_
    rcases List.mem_cons.1 hb with rfl | hb
    · exact h1 a ha
    · have := h1 a ha; have := h2 b hb; omega
  · have := Eqv.append (Eqv.refl (f := f) (s.take i)) (Eqv.swap (f := f) (u := [e]) (v := s.drop i) (fun a ha b hb => by rw [List.mem_singleton] at ha; subst ha; have := h2 b hb; omega))
    rw [← List.append_assoc (s.take i) (s.drop i), List.take_append_drop] at this
    simpa using this

/-! ### A merge by halves -/
/-- Two sorted rows, each cut in two: the second row's beginning is less than the first row's end, and the first row's beginning not greater than the second row's end. -/
theorem merge_halves {u1 u2 v1 v2 : List α} (h1 : Ord f (u1 ++ u2)) (h2 : Ord f (v1 ++ v2)) (hvu : ∀ a ∈ v1, ∀ b ∈ u2, f a < f b) (huv : ∀ a ∈ u1, ∀ b ∈ v2, f a ≤ f b) : srt f (u1 ++ v1) ++ srt f (u2 ++ v2) = srt f ((u1 ++ u2) ++ (v1 ++ v2)) := by
  obtain ⟨_, _, h13⟩ := List.pairwise_append.1 h1
  obtain ⟨_, _, h23⟩ := List.pairwise_append.1 h2
  refine srt_is ((srt_ord _).append (srt_ord _) fun a ha b hb => ?_) ?_
  · rw [(srt_eqv _).mem, List.mem_append] at ha hb
    rcases ha with ha | ha
    · rcases hb with hb | hb
      · exact h13 a ha b hb
      · exact huv a ha b hb
    · rcases hb with hb | hb
      · have := hvu a ha b hb; omega
      · exact h23 a ha b hb
  · refine ((srt_eqv _).append (srt_eqv _)).trans ?_
    have := Eqv.append (Eqv.append (Eqv.refl (f := f) u1) (Eqv.swap (f := f) (u := v1) (v := u2) (fun a ha b hb => by have := hvu a ha b hb; omega))) (Eqv.refl v2)
    simpa [List.append_assoc] using this
/-- Where a search by halves ends: the numbers below stand for 'not greater', those from there on for 'greater'. -/
theorem cut_split {s t : List α} (hs : Ord f s) (ht : Ord f t) (i j : Nat) (hi : i ≤ s.length) (hj : j ≤ t.length)
    (h1 : ∀ (hi0 : 0 < i) (hj0 : j < t.length), f (s[i - 1]'(by omega)) ≤ f t[j]) (h2 : ∀ (hi1 : i < s.length) (hj1 : 0 < j), f (t[j - 1]'(by omega)) < f s[i]) :
    (∀ a ∈ t.take j, ∀ b ∈ s.drop i, f a < f b) ∧ (∀ a ∈ s.take i, ∀ b ∈ t.drop j, f a ≤ f b) := by
  constructor
  · intro a ha b hb
    obtain ⟨p, hp, rfl⟩ := List.mem_iff_getElem.1 ha
    obtain ⟨q, hq, rfl⟩ := List.mem_iff_getElem.1 hb
    rw [List.length_take] at hp
    rw [List.length_drop] at hq
    rw [List.getElem_take, List.getElem_drop]
    have k1 := ht.get (i := p) (j := j - 1) (by omega) (by omega)
    have k2 := hs.get (i := i) (j := i + q) (by omega) (by omega)
    have k3 := h2 (by omega) (by omega)
    omega
  · intro a ha b hb
    obtain ⟨p, hp, rfl⟩ := List.mem_iff_getElem.1 ha
    obtain ⟨q, hq, rfl⟩ := List.mem_iff_getElem.1 hb
    rw [List.length_take] at hp
    rw [List.length_drop] at hq
    rw [List.getElem_take, List.getElem_drop]
    have k1 := hs.get (i := p) (j := i - 1) (by omega) (by omega)
    have k2 := ht.get (i := j) (j := j + q) (by omega) (by omega)
    have k3 := h1 (by omega) (by omega)
    omega
theorem take_all {p : α → Prop} {t : List α} {i : Nat} (h : ∀ k (hk : k < t.length), k < i → p t[k]) : ∀ a ∈ t.take i, p a := by
  intro a ha
  obtain ⟨q, hq, rfl⟩ := List.mem_iff_getElem.1 ha
  rw [List.length_take] at hq
  rw [List.getElem_take]
  exact h q (by omega) (by omega)
theorem drop_all {p : α → Prop} {t : List α} {i : Nat} (h : ∀ k (hk : k < t.length), i ≤ k → p t[k]) : ∀ a ∈ t.drop i, p a := by
  intro a ha
  obtain ⟨q, hq, rfl⟩ := List.mem_iff_getElem.1 ha
  rw [List.length_drop] at hq
  rw [List.getElem_drop]
  exact h _ (by omega) (by omega)

/-! ### Two elements that change places -/
def swp (l : List α) (i j : Nat) : List α := match l[i]?, l[j]? with
  | some a, some b => (l.set i b).set j a
  | _, _ => l
theorem swp_len (l : List α) (i j : Nat) : (swp l i j).length = l.length := by
  unfold swp
  split
  · simp
  · rfl
theorem swp_eq {l : List α} {i j : Nat} (hi : i < l.length) (hj : j < l.length) : swp l i j = (l.set i l[j]).set j l[i] := by
  unfold swp
  rw [List.getElem?_eq_getElem hi, List.getElem?_eq_getElem hj]
theorem swp_two (A B C : List α) (p q : α) (i j : Nat) (hi : A.length = i) (hj : i + 1 + B.length = j) : swp (A ++ p :: (B ++ q :: C)) i j = A ++ q :: (B ++ p :: C) := by
  subst hi hj
  have e1 : (A ++ p :: (B ++ q :: C))[A.length]? = some p := by simp
  have e2 : (A ++ p :: (B ++ q :: C))[A.length + 1 + B.length]? = some q := by
    rw [List.getElem?_append_right (by omega), show A.length + 1 + B.length - A.length = B.length + 1 by omega, List.getElem?_cons_succ, List.getElem?_append_right (Nat.le_refl _), Nat.sub_self]
    rfl
  unfold swp
  rw [e1, e2]
  show ((A ++ p :: (B ++ q :: C)).set A.length q).set (A.length + 1 + B.length) p = _
  rw [List.set_append_right _ _ (Nat.le_refl _), Nat.sub_self, List.set_cons_zero, List.set_append_right _ _ (by omega), show A.length + 1 + B.length - A.length = B.length + 1 by omega, List.set_cons_succ, List.set_append_right _ _ (Nat.le_refl _), Nat.sub_self, List.set_cons_zero]
theorem swp_next (A C : List α) (p q : α) (i : Nat) (hi : A.length = i) : swp (A ++ p :: q :: C) i (i + 1) = A ++ q :: p :: C := swp_two A [] C p q i (i + 1) hi rfl
theorem swp_comm (l : List α) (i j : Nat) : swp l i j = swp l j i := by
  unfold swp
  cases hi : l[i]? with
  | none => cases hj : l[j]? <;> rfl
  | some a =>
    cases hj : l[j]? with
    | none => rfl
    | some b =>
      show (l.set i b).set j a = (l.set j a).set i b
      by_cases e : i = j
      · subst e
        rw [hi] at hj
        injection hj with hj
        rw [hj]
      · rw [List.set_comm _ _ e]
/-- An element that goes down a row, place by place. -/
def atD (A R : List α) (e : α) (j : Nat) : List α := A.take j ++ e :: (A.drop j ++ R)
theorem atD_len (A R : List α) (e : α) (j : Nat) (hj : j ≤ A.length) : (atD A R e j).length = A.length + 1 + R.length := by
  simp [atD]; omega
theorem atD_get (A R : List α) (e : α) (j : Nat) (hj : j ≤ A.length) : (atD A R e j)[j]? = some e := by
  unfold atD
  rw [List.getElem?_append_right (by rw [List.length_take]; omega), List.length_take, Nat.min_eq_left hj, Nat.sub_self]
  rfl
theorem atD_below (A R : List α) (e : α) (j k : Nat) (hk : k < j) (hj : j ≤ A.length) : (atD A R e j)[k]? = A[k]? := by
  unfold atD
  rw [List.getElem?_append_left (by rw [List.length_take]; omega), List.getElem?_take_of_lt hk]
theorem atD_step (A R : List α) (e : α) (j : Nat) (hj : j + 1 ≤ A.length) : swp (atD A R e (j + 1)) (j + 1) j = atD A R e j := by
  unfold atD
  rw [List.take_succ_eq_append_getElem (by omega : j < A.length), swp_comm, List.append_assoc, List.singleton_append, swp_next _ _ _ _ _ (by rw [List.length_take]; omega), List.drop_eq_getElem_cons (by omega : j < A.length)]
  rfl
theorem atD_all (A R : List α) (e : α) : atD A R e A.length = A ++ e :: R := by
  unfold atD
  rw [List.take_length, List.drop_length, List.nil_append]
/-- An element that goes up a row, place by place. -/
def atU (A T : List α) (e : α) (k : Nat) : List α := A ++ (T.take k ++ e :: T.drop k)
theorem atU_len (A T : List α) (e : α) (k : Nat) : (atU A T e k).length = A.length + 1 + T.length := by
  simp [atU]; omega
theorem atU_step (A T : List α) (e : α) (k i : Nat) (hk : k < T.length) (hi : A.length + k = i) : swp (atU A T e k) i (i + 1) = atU A T e (k + 1) := by
  unfold atU
  rw [List.drop_eq_getElem_cons hk, ← List.append_assoc, swp_next _ _ _ _ _ (by rw [List.length_append, List.length_take]; omega), List.take_succ_eq_append_getElem hk]
  simp only [List.append_assoc, List.singleton_append]
theorem atU_none (A T : List α) (e : α) : atU A T e 0 = A ++ e :: T := rfl

/-! ### Two rows of one length that change places -/
def atR (x u z v y : List α) (i : Nat) : List α := x ++ ((v.take i ++ u.drop i) ++ (z ++ ((u.take i ++ v.drop i) ++ y)))
theorem atR_none (x u z v y : List α) : atR x u z v y 0 = x ++ (u ++ (z ++ (v ++ y))) := rfl
theorem atR_all {x u z v y : List α} {n : Nat} (hu : u.length = n) (hv : v.length = n) : atR x u z v y n = x ++ (v ++ (z ++ (u ++ y))) := by
  unfold atR
  rw [List.take_of_length_le (by omega : v.length ≤ n), List.take_of_length_le (by omega : u.length ≤ n), List.drop_eq_nil_of_le (by omega : u.length ≤ n), List.drop_eq_nil_of_le (by omega : v.length ≤ n), List.append_nil, List.append_nil]
theorem atR_len {x u z v y : List α} {n i : Nat} (hu : u.length = n) (hv : v.length = n) (hi : i ≤ n) : (atR x u z v y i).length = x.length + n + z.length + n + y.length := by
  simp [atR]; omega
theorem atR_step {x u z v y : List α} {n i a b : Nat} (hu : u.length = n) (hv : v.length = n) (hi : i < n) (ha : x.length = a) (hb : a + n + z.length = b) : swp (atR x u z v y i) (a + i) (b + i) = atR x u z v y (i + 1) := by
  unfold atR
  have e1 : x ++ ((v.take i ++ u.drop i) ++ (z ++ ((u.take i ++ v.drop i) ++ y))) = (x ++ v.take i) ++ u[i] :: ((u.drop (i + 1) ++ (z ++ u.take i)) ++ v[i] :: (v.drop (i + 1) ++ y)) := by
    rw [List.drop_eq_getElem_cons (by omega : i < u.length), List.drop_eq_getElem_cons (by omega : i < v.length)]
    simp only [List.append_assoc, List.cons_append]
  rw [e1, swp_two _ _ _ _ _ _ _ (by rw [List.length_append, List.length_take]; omega) (by simp; omega), List.take_succ_eq_append_getElem (by omega : i < v.length), List.take_succ_eq_append_getElem (by omega : i < u.length)]
  simp only [List.append_assoc, List.cons_append, List.nil_append]
end Go.Proofs.YtlefpodonkdbeaaGreat.Sb
end
/- The mathematics of clean.Last as the program goes about it: turned round, sorted, and of each run the first one: these are the latest leases. No program. -/
section
namespace Go.Proofs.YtlefpodonkdbeaaGreat.La
open Rc

def keyA (l : L) : Int := l.addr
/-- Of each run of one address the first. -/
def uqA (p : L) : List L → List L
  | [] => []
  | b :: l => if b.addr = p.addr then uqA b l else b :: uqA b l
def uqL : List L → List L
  | [] => []
  | a :: l => a :: uqA a l
theorem uqA_snoc : ∀ (l : List L) (p b : L), uqA p (l ++ [b]) = uqA p l ++ (if b.addr = ((p :: l).getLast (by simp)).addr then [] else [b])
  | [], p, b => by
    show (if b.addr = p.addr then [] else [b]) = [] ++ _
    rw [List.nil_append]
    rfl
  | c :: l, p, b => by
    have ih := uqA_snoc l c b
    have e : ((p :: c :: l).getLast (by simp)) = ((c :: l).getLast (by simp)) := List.getLast_cons (by simp)
    rw [e, List.cons_append, uqA, uqA]
    split
    · exact ih
    · rw [ih, List.cons_append]
theorem uq_next {l : List L} {j : Nat} (hj : 1 ≤ j) (h : j < l.length) : uqL (l.take (j + 1)) = uqL (l.take j) ++ (if (l[j]).addr = (l[j - 1]'(by omega)).addr then [] else [l[j]]) := by
  cases l with
  | nil => cases h
  | cons a l =>
    obtain ⟨i, rfl⟩ : ∃ i, j = i + 1 := ⟨j - 1, by omega⟩
    have hi : i < l.length := by simpa using h
    rw [List.take_succ_cons, List.take_succ_cons]
    show a :: uqA a (l.take (i + 1)) = (a :: uqA a (l.take i)) ++ _
    rw [List.take_succ_eq_append_getElem hi, uqA_snoc, List.cons_append]
    congr 2
    have e : (a :: l.take i).getLast (by simp) = (a :: l)[i + 1 - 1]'(by simp; omega) := by
      rw [List.getLast_eq_getElem]
      have e2 : (a :: l.take i) = (a :: l).take (i + 1) := List.take_succ_cons.symm
      simp only [e2, List.getElem_take, List.length_take, List.length_cons]
      congr 1
      omega
    rw [e]
    rfl
theorem uq_one (l : List L) : uqL (l.take 1) = l.take 1 := by
  cases l with
  | nil => rfl
  | cons a l => rfl
theorem uq_len : ∀ (l : List L) (p : L), (uqA p l).length ≤ l.length
  | [], _ => Nat.le_refl _
  | b :: l, p => by
    have := uq_len l b
    rw [uqA]
    split
    · rw [List.length_cons]; omega
    · rw [List.length_cons, List.length_cons]; omega
theorem uqA_inc : ∀ {l : List L} {p : L}, Sb.Ord keyA (p :: l) → (∀ x ∈ uqA p l, p.addr < x.addr) ∧ Inc (uqA p l)
  | [], p, _ => ⟨fun x hx => (by cases hx), List.Pairwise.nil⟩
  | b :: l, p, h => by
    obtain ⟨h1, h2⟩ := List.pairwise_cons.1 h
    obtain ⟨i1, i2⟩ := uqA_inc h2
    have hpb : p.addr ≤ b.addr := h1 b (.head _)
    rw [uqA]
    split
    · next e => exact ⟨fun x hx => by have := i1 x hx; omega, i2⟩
    · next e =>
      refine ⟨fun x hx => ?_, List.pairwise_cons.2 ⟨i1, i2⟩⟩
      rcases List.mem_cons.1 hx with rfl | hx
      · omega
      · have := i1 x hx; omega
theorem uq_inc {l : List L} (h : Sb.Ord keyA l) : Inc (uqL l) := by
  cases l with
  | nil => exact List.Pairwise.nil
  | cons a l => exact List.pairwise_cons.2 (uqA_inc h)
theorem mem_uqA : ∀ {l : List L} {p a : L}, Sb.Ord keyA (p :: l) → (a ∈ uqA p l ↔ a.addr ≠ p.addr ∧ (Sb.ofK keyA a.addr l).head? = some a)
  | [], p, a, _ => by simp [uqA, Sb.ofK]
  | b :: l, p, a, h => by
    obtain ⟨h1, h2⟩ := List.pairwise_cons.1 h
    have ih := mem_uqA (a := a) h2
    have hpb : p.addr ≤ b.addr := h1 b (.head _)
    rw [Sb.ofK_cons, uqA]
    split
    · next e =>
      rw [ih, e]
      constructor
      · rintro ⟨k1, k2⟩
        exact ⟨k1, by rw [if_neg (show ¬ keyA b = a.addr from fun k => k1 (by rw [← k, ← e]; rfl))]; exact k2⟩
      · rintro ⟨k1, k2⟩
        refine ⟨k1, ?_⟩
        rwa [if_neg (show ¬ keyA b = a.addr from fun k => k1 (by rw [← k, ← e]; rfl))] at k2
    · next e =>
      rw [List.mem_cons, ih]
      by_cases hab : keyA b = a.addr
      · rw [if_pos hab, List.head?_cons]
        have hab2 : b.addr = a.addr := hab
        constructor
        · rintro (rfl | ⟨k, _⟩)
          · exact ⟨e, rfl⟩
          · exact absurd hab2.symm k
        · rintro ⟨_, k⟩
          exact .inl (Option.some.inj k).symm
      · rw [if_neg hab]
        have hab2 : ¬ b.addr = a.addr := hab
        constructor
        · rintro (rfl | ⟨k1, k2⟩)
          · exact absurd rfl hab2
          · refine ⟨fun k => ?_, k2⟩
            have hm : a ∈ Sb.ofK keyA a.addr l := List.mem_of_head? k2
            have h3 := (List.pairwise_cons.1 h2).1 a (Sb.mem_ofK.1 hm).1
            have h4 : b.addr ≤ a.addr := h3
            omega
        · rintro ⟨_, k2⟩
          exact .inr ⟨fun k => hab2 k.symm, k2⟩
theorem mem_uq {l : List L} {a : L} (h : Sb.Ord keyA l) : a ∈ uqL l ↔ (Sb.ofK keyA a.addr l).head? = some a := by
  cases l with
  | nil => simp [uqL, Sb.ofK]
  | cons b l =>
    rw [Sb.ofK_cons]
    show a ∈ b :: uqA b l ↔ _
    rw [List.mem_cons, mem_uqA h]
    by_cases hab : keyA b = a.addr
    · rw [if_pos hab, List.head?_cons]
      have hab2 : b.addr = a.addr := hab
      constructor
      · rintro (rfl | ⟨k, _⟩)
        · rfl
        · exact absurd hab2.symm k
      · intro k
        exact .inl (Option.some.inj k).symm
    · rw [if_neg hab]
      have hab2 : ¬ b.addr = a.addr := hab
      constructor
      · rintro (rfl | ⟨_, k⟩)
        · exact absurd rfl hab2
        · exact k
      · intro k
        exact .inr ⟨fun k' => hab2 k'.symm, k⟩
theorem isLast_iff : ∀ {l : List L} {a : L}, IsLast a l ↔ (Sb.ofK keyA a.addr l).getLast? = some a
  | [], a => by
    constructor
    · rintro ⟨p, q, e, _⟩
      cases p <;> cases e
    · intro h
      simp [Sb.ofK] at h
  | b :: l, a => by
    rw [last_cons, isLast_iff (l := l), Sb.ofK_cons]
    by_cases hab : keyA b = a.addr
    · rw [if_pos hab, List.getLast?_cons]
      have hab2 : b.addr = a.addr := hab
      cases hx : (Sb.ofK keyA a.addr l).getLast? with
      | none =>
        have hn : Sb.ofK keyA a.addr l = [] := List.getLast?_eq_none_iff.1 hx
        constructor
        · rintro (⟨rfl, _⟩ | k)
          · rfl
          · cases k
        · intro k
          refine .inl ⟨(Option.some.inj k).symm, fun c hc hk => ?_⟩
          have : c ∈ Sb.ofK keyA a.addr l := Sb.mem_ofK.2 ⟨hc, show c.addr = a.addr by omega⟩
          rw [hn] at this
          cases this
      | some x =>
        constructor
        · rintro (⟨rfl, k⟩ | k)
          · have hm := Sb.mem_ofK.1 (List.mem_of_getLast? hx)
            exact absurd hm.2 (k x hm.1)
          · rw [Option.some.inj k]
            rfl
        · intro k
          exact .inr k
    · rw [if_neg hab]
      have hab2 : ¬ b.addr = a.addr := hab
      constructor
      · rintro (⟨rfl, _⟩ | k)
        · exact absurd rfl hab2
        · exact k
      · exact .inr
/-- Turned round, sorted, and of each run the first. -/
theorem last_way (l : List L) : uqL (Sb.srt keyA l.reverse) = lastL l := by
  refine last_is (uq_inc (Sb.srt_ord _)) fun a => ?_
  rw [mem_uq (Sb.srt_ord _), isLast_iff, Sb.srt_eqv l.reverse a.addr]
  have e : Sb.ofK keyA a.addr l.reverse = (Sb.ofK keyA a.addr l).reverse := by
    unfold Sb.ofK
    rw [List.filter_reverse]
  rw [e, List.head?_reverse]
end Go.Proofs.YtlefpodonkdbeaaGreat.La
end
