/- Plain mathematics of layer 2: numbers in bytes, the CRC-32 bit by bit, and that a burst of at most 32 bits turns it. No program. No conditions but those that each theorem names. -/
import Derived.Below
import Derived.Lib.Hide
import Derived.WalkKit
section
namespace Go.Proofs.YtabjcgchcnnjjaaGreat.Co

/-! ### Numbers in bytes -/
def byteV (v : Nat) : UInt8 := UInt8.ofNat (v % 256)
theorem byteV_toNat (v : Nat) : (byteV v).toNat = v % 256 := by
  unfold byteV
  rw [UInt8.toNat_ofNat']
  omega
/-- 256 to the n-th. -/
def p256 (n : Nat) : Nat := 256 ^ n
theorem p256_succ (n : Nat) : p256 (n + 1) = p256 n * 256 := Nat.pow_succ 256 n
theorem p256_le {m n : Nat} (h : m ≤ n) : p256 m ≤ p256 n := Nat.pow_le_pow_right (by omega) h
theorem p256_two (n : Nat) : p256 n = 2 ^ (8 * n) := by
  have h : (2 : Nat) ^ 8 = 256 := by decide
  unfold p256
  rw [Nat.pow_mul, h]
def putL : Nat → Nat → List UInt8
  | _, 0 => []
  | v, n + 1 => putL (v / 256) n ++ [byteV v]
theorem putL_length : ∀ (n v : Nat), (putL v n).length = n
  | 0, _ => rfl
  | n + 1, v => by simp [putL, putL_length n]
def valL (l : List UInt8) : Nat := l.foldl (fun a b => a * 256 + b.toNat) 0
theorem valL_snoc (l : List UInt8) (b : UInt8) : valL (l ++ [b]) = valL l * 256 + b.toNat := by simp [valL]
theorem valL_nil : valL [] = 0 := rfl
theorem valL_putL : ∀ (n v : Nat), v < p256 n → valL (putL v n) = v
  | 0, v, h => by simp [p256] at h; subst h; rfl
  | n + 1, v, h => by
    rw [putL, valL_snoc, valL_putL n (v / 256) (by rw [p256_succ] at h; omega), byteV_toNat]
    omega
theorem foldl_val_lt : ∀ (l : List UInt8) (a : Nat), l.foldl (fun a b => a * 256 + b.toNat) a < (a + 1) * 256 ^ l.length
  | [], a => by simp
  | b :: l, a => by
    simp only [List.foldl_cons, List.length_cons]
    have h := foldl_val_lt l (a * 256 + b.toNat)
    have hb := b.toNat_lt
    refine Nat.lt_of_lt_of_le h ?_
    rw [Nat.pow_succ, Nat.mul_comm (256 ^ l.length) 256, ← Nat.mul_assoc]
    exact Nat.mul_le_mul_right _ (by omega)
theorem valL_lt (l : List UInt8) : valL l < p256 l.length := by
  unfold valL p256
  simpa using foldl_val_lt l 0
theorem putL_valL : ∀ (n : Nat) (l : List UInt8), l.length = n → putL (valL l) n = l
  | 0, l, h => by simp [List.length_eq_zero_iff.1 h, putL]
  | n + 1, l, h => by
    obtain ⟨r, b, rfl⟩ : ∃ r b, l = r ++ [b] := ⟨l.dropLast, l.getLast (by intro e; simp [e] at h), (List.dropLast_concat_getLast _).symm⟩
    have hb := b.toNat_lt
    rw [valL_snoc, putL, show (valL r * 256 + b.toNat) / 256 = valL r by omega, putL_valL n r (by simpa using h)]
    congr 1
    unfold byteV
    rw [show (valL r * 256 + b.toNat) % 256 = b.toNat by omega, UInt8.ofNat_toNat]

theorem putL_cons : ∀ (k v : Nat), putL v (k + 1) = byteV (v / p256 k) :: putL v k
  | 0, v => by simp [putL, p256]
  | k + 1, v => by
    rw [putL, putL_cons k (v / 256), Nat.div_div_eq_div_mul, Nat.mul_comm 256, ← p256_succ]
    rfl
/-- Bytes that were noughts, the last k of them written. -/
def partL (v n k : Nat) : List UInt8 := List.replicate (n - k) 0 ++ putL v k
theorem partL_length {v n k : Nat} (h : k ≤ n) : (partL v n k).length = n := by simp [partL, putL_length]; omega
theorem partL_next {v n k : Nat} (h : k < n) : (partL v n k).set (n - 1 - k) (byteV (v / p256 k)) = partL v n (k + 1) := by
  unfold partL
  rw [putL_cons, show n - k = (n - (k + 1)) + 1 by omega, List.replicate_succ', List.append_assoc, List.set_append_right _ _ (by simp; omega)]
  simp
  rw [show n - 1 - k - (n - (k + 1)) = 0 by omega]
  rfl
theorem partL_all (v n : Nat) : partL v n n = putL v n := by simp [partL]

/-! ### The CRC-32 -/
theorem xor_cancel {a b c : Nat} (h : a ^^^ b = a ^^^ c) : b = c := by
  have := congrArg (a ^^^ ·) h
  simpa only [← Nat.xor_assoc, Nat.xor_self, Nat.zero_xor] using this
theorem xor_cancel' {a b c : Nat} (h : b ^^^ a = c ^^^ a) : b = c := xor_cancel (a := a) (by rw [Nat.xor_comm, h, Nat.xor_comm])
theorem xor_even (x y : Nat) : (x ^^^ 2 * y) % 2 = x % 2 := by
  have h := @Nat.xor_mod_two_eq_one x (2 * y)
  have : 2 * y % 2 = 0 := by omega
  simp only [this] at h
  by_cases e : x % 2 = 1
  · rw [e]; exact h.2 (by simp [e])
  · have h1 : ¬ (x ^^^ 2 * y) % 2 = 1 := fun k => (h.1 k) (by simp [e])
    omega
def polyN : Nat := 0xedb88320
def stepN (c : Nat) : Nat := if c % 2 = 1 then (c / 2) ^^^ polyN else c / 2
def stepsN : Nat → Nat → Nat
  | 0, c => c
  | n + 1, c => stepsN n (stepN c)
theorem stepsN_add : ∀ (m n c : Nat), stepsN (m + n) c = stepsN n (stepsN m c)
  | 0, n, c => by rw [Nat.zero_add]; rfl
  | m + 1, n, c => by
    rw [show m + 1 + n = (m + n) + 1 by omega]
    exact stepsN_add m n (stepN c)
theorem stepsN_succ (n c : Nat) : stepsN (n + 1) c = stepN (stepsN n c) := stepsN_add n 1 c
theorem stepN_lt (c : Nat) (h : c < 4294967296) : stepN c < 4294967296 := by
  unfold stepN
  split
  · exact Nat.xor_lt_two_pow (n := 32) (by omega) (by decide)
  · omega
theorem stepsN_lt : ∀ (n c : Nat), c < 4294967296 → stepsN n c < 4294967296
  | 0, _, h => h
  | n + 1, c, h => stepsN_lt n _ (stepN_lt c h)
theorem stepN_xor2 (x y : Nat) : stepN (x ^^^ 2 * y) = stepN x ^^^ y := by
  have h1 := xor_even x y
  have h2 : (x ^^^ 2 * y) / 2 = x / 2 ^^^ y := by
    rw [Nat.xor_div_two]
    congr 1
    omega
  unfold stepN
  rw [h1, h2]
  split
  · rw [Nat.xor_assoc, Nat.xor_comm y, Nat.xor_assoc]
  · rfl
theorem stepN_top (c : Nat) (h : c < 4294967296) : (stepN c).testBit 31 = decide (c % 2 = 1) := by
  have h31 : (c / 2).testBit 31 = false := Nat.testBit_lt_two_pow (by omega)
  unfold stepN
  split
  · next e => rw [Nat.testBit_xor, h31]; simp [e, polyN, Nat.testBit]
  · next e => rw [h31]; simp [e]
theorem stepN_inj {a b : Nat} (ha : a < 4294967296) (hb : b < 4294967296) (h : stepN a = stepN b) : a = b := by
  have ht := stepN_top a ha
  rw [h, stepN_top b hb] at ht
  have hm : a % 2 = 1 ↔ b % 2 = 1 := by
    exact (decide_eq_decide.1 ht).symm
  have hd : a / 2 = b / 2 := by
    unfold stepN at h
    by_cases e : a % 2 = 1
    · rw [if_pos e, if_pos (hm.1 e)] at h
      exact xor_cancel' h
    · rw [if_neg e, if_neg (fun k => e (hm.2 k))] at h
      exact h
  omega
theorem stepsN_inj : ∀ (n : Nat) {a b : Nat}, a < 4294967296 → b < 4294967296 → stepsN n a = stepsN n b → a = b
  | 0, _, _, _, _, h => h
  | n + 1, _, _, ha, hb, h => stepN_inj ha hb (stepsN_inj n (stepN_lt _ ha) (stepN_lt _ hb) h)
/-- The sum's state behind bytes. -/
def crcFrom (c : Nat) (l : List UInt8) : Nat := l.foldl (fun c b => stepsN 8 (c ^^^ b.toNat)) c
def sumL (l : List UInt8) : Nat := crcFrom 4294967295 l ^^^ 4294967295
theorem xor_byte_lt (c : Nat) (b : UInt8) (h : c < 4294967296) : c ^^^ b.toNat < 4294967296 :=
  Nat.xor_lt_two_pow (n := 32) (by omega) (by have := b.toNat_lt; omega)
theorem crcFrom_lt : ∀ (l : List UInt8) (c : Nat), c < 4294967296 → crcFrom c l < 4294967296
  | [], _, h => h
  | b :: l, c, h => crcFrom_lt l _ (stepsN_lt 8 _ (xor_byte_lt c b h))
theorem crcFrom_snoc (c : Nat) (l : List UInt8) (b : UInt8) : crcFrom c (l ++ [b]) = stepsN 8 (crcFrom c l ^^^ b.toNat) := by simp [crcFrom]
theorem sumL_lt (l : List UInt8) : sumL l < 4294967296 := Nat.xor_lt_two_pow (n := 32) (by have := crcFrom_lt l 4294967295 (by omega); omega) (by omega)
theorem xor_ones {a b : Nat} (h : a ^^^ 4294967295 = b ^^^ 4294967295) : a = b := xor_cancel' h

/-! ### Bit by bit -/
def bitN (b : Bool) : Nat := if b then 1 else 0
def run1 (f : Nat → Bool) : Nat → Nat → Nat → Nat
  | _, 0, d => d
  | p, n + 1, d => run1 f (p + 1) n (stepN (d ^^^ bitN (f p)))
def numF (f : Nat → Bool) : Nat → Nat → Nat
  | _, 0 => 0
  | p, n + 1 => bitN (f p) ^^^ 2 * numF f (p + 1) n
theorem numF_lt (f : Nat → Bool) : ∀ (n p : Nat), numF f p n < 2 ^ n
  | 0, _ => by simp [numF]
  | n + 1, p => by
    have := numF_lt f n (p + 1)
    unfold numF
    refine Nat.xor_lt_two_pow ?_ (by rw [Nat.pow_succ]; omega)
    have : 0 < 2 ^ n := Nat.two_pow_pos n
    unfold bitN
    rw [Nat.pow_succ]
    split <;> omega
theorem run1_steps (f : Nat → Bool) : ∀ (n p d : Nat), run1 f p n d = stepsN n (d ^^^ numF f p n)
  | 0, _, d => by simp [run1, stepsN, numF]
  | n + 1, p, d => by
    unfold run1 numF stepsN
    rw [run1_steps f n, ← Nat.xor_assoc, stepN_xor2]
theorem run1_add (f : Nat → Bool) : ∀ (m n p d : Nat), run1 f p (m + n) d = run1 f (p + m) n (run1 f p m d)
  | 0, n, p, d => by simp [run1]
  | m + 1, n, p, d => by
    rw [show m + 1 + n = (m + n) + 1 by omega]
    show run1 f (p + 1) (m + n) _ = run1 f (p + (m + 1)) n (run1 f (p + 1) m _)
    rw [run1_add f m n, show p + 1 + m = p + (m + 1) by omega]
theorem bitN_lt (b : Bool) : bitN b < 4294967296 := by unfold bitN; split <;> omega
theorem run1_lt (f : Nat → Bool) : ∀ (n p d : Nat), d < 4294967296 → run1 f p n d < 4294967296
  | 0, _, _, h => h
  | n + 1, p, d, h => run1_lt f n _ _ (stepN_lt _ (Nat.xor_lt_two_pow (n := 32) (by omega) (by have := bitN_lt (f p); omega)))
theorem run1_inj (f : Nat → Bool) : ∀ (n p : Nat) {a b : Nat}, a < 4294967296 → b < 4294967296 → run1 f p n a = run1 f p n b → a = b
  | 0, _, _, _, _, _, h => h
  | n + 1, p, a, b, ha, hb, h => by
    have hx : ∀ x, x < 4294967296 → x ^^^ bitN (f p) < 4294967296 := fun x hx => Nat.xor_lt_two_pow (n := 32) (by omega) (by have := bitN_lt (f p); omega)
    have h1 := run1_inj f n (p + 1) (stepN_lt _ (hx a ha)) (stepN_lt _ (hx b hb)) h
    exact xor_cancel' (stepN_inj (hx a ha) (hx b hb) h1)
theorem run1_congr {f g : Nat → Bool} : ∀ (n p d : Nat), (∀ i, i < n → f (p + i) = g (p + i)) → run1 f p n d = run1 g p n d
  | 0, _, _, _ => rfl
  | n + 1, p, d, h => by
    unfold run1
    have h0 := h 0 (by omega)
    rw [Nat.add_zero] at h0
    rw [h0]
    exact run1_congr n (p + 1) _ fun i hi => by
      have := h (i + 1) (by omega)
      rwa [show p + 1 + i = p + (i + 1) by omega]
theorem numF_inj {f g : Nat → Bool} : ∀ (n p : Nat), numF f p n = numF g p n → ∀ i, i < n → f (p + i) = g (p + i)
  | 0, _, _, _, hi => by omega
  | n + 1, p, h, i, hi => by
    unfold numF at h
    have h1 := congrArg (· % 2) h
    have h2 := congrArg (· / 2) h
    simp only [xor_even, Nat.xor_div_two] at h1 h2
    have e0 : f p = g p := by
      unfold bitN at h1
      cases hf : f p <;> cases hg : g p <;> simp [hf, hg] at h1 ⊢
    have e1 : numF f (p + 1) n = numF g (p + 1) n := by
      rw [e0] at h2
      have := xor_cancel h2
      omega
    match i with
    | 0 => simpa using e0
    | i + 1 =>
      have := numF_inj n (p + 1) e1 i (by omega)
      rwa [show p + 1 + i = p + (i + 1) by omega] at this
/-- Bits of two streams that differ within 32 places at most: the same state behind them only if they are the same. -/
theorem burst {f g : Nat → Bool} {N first k c : Nat} (hc : c < 4294967296) (hk : k ≤ 32) (hN : first + k ≤ N) (hout : ∀ p, p < first ∨ first + k ≤ p → f p = g p)
    (h : run1 f 0 N c = run1 g 0 N c) : ∀ p, f p = g p := by
  have e : N = first + (k + (N - first - k)) := by omega
  rw [e, run1_add f, run1_add g, run1_add f, run1_add g] at h
  simp only [Nat.zero_add] at h
  have e1 : run1 f 0 first c = run1 g 0 first c := run1_congr first 0 c fun i hi => hout _ (by omega)
  rw [e1] at h
  generalize hd : run1 g 0 first c = d at h
  have hdl : d < 4294967296 := by rw [← hd]; exact run1_lt g _ _ _ hc
  have e2 : ∀ x, run1 f (first + k) (N - first - k) x = run1 g (first + k) (N - first - k) x := fun x => run1_congr _ _ x fun i _ => hout _ (by omega)
  rw [e2] at h
  have e3 := run1_inj g _ _ (run1_lt f k first d hdl) (run1_lt g k first d hdl) h
  rw [run1_steps, run1_steps] at e3
  have hn : ∀ (u : Nat → Bool), numF u first k < 4294967296 := fun u => Nat.lt_of_lt_of_le (numF_lt u k first) (by
    have := Nat.pow_le_pow_right (n := 2) (by omega) hk
    simpa using this)
  have hx : ∀ (u : Nat → Bool), d ^^^ numF u first k < 4294967296 := fun u => Nat.xor_lt_two_pow (n := 32) (by omega) (by have := hn u; omega)
  have e4 := xor_cancel (stepsN_inj k (hx f) (hx g) e3)
  intro p
  by_cases hp : p < first ∨ first + k ≤ p
  · exact hout p hp
  · have := numF_inj k first e4 (p - first) (by omega)
    rwa [show first + (p - first) = p by omega] at this

/-! ### Bytes as bits, the lowest one of a byte first -/
def bt (l : List UInt8) (p : Nat) : Bool := (l.getD (p / 8) 0).toNat.testBit (p % 8)
theorem numF_byte : ∀ (n x p : Nat) (f : Nat → Bool), x < 2 ^ n → (∀ i, i < n → f (p + i) = x.testBit i) → numF f p n = x
  | 0, x, _, _, h, _ => by simp at h; simp [numF, h]
  | n + 1, x, p, f, h, hf => by
    have h0 := hf 0 (by omega)
    rw [Nat.add_zero] at h0
    have ih := numF_byte n (x / 2) (p + 1) f (by rw [Nat.pow_succ] at h; omega) fun i hi => by
      have := hf (i + 1) (by omega)
      rw [show p + 1 + i = p + (i + 1) by omega, this, Nat.testBit_succ]
    unfold numF
    rw [ih, h0]
    unfold bitN
    apply Nat.eq_of_testBit_eq
    intro i
    rw [Nat.testBit_xor]
    cases i with
    | zero =>
      rw [Nat.testBit_zero, Nat.testBit_zero, Nat.testBit_zero]
      by_cases e : x % 2 = 1 <;> simp [e] 
    | succ i =>
      rw [Nat.testBit_succ, Nat.testBit_succ, Nat.testBit_succ, show 2 * (x / 2) / 2 = x / 2 by omega]
      split <;> simp
theorem crc_bits : ∀ (l : List UInt8) (c : Nat), crcFrom c l = run1 (bt l) 0 (8 * l.length) c := by
  intro l
  suffices h : ∀ (n : Nat), n ≤ l.length → ∀ c, crcFrom c (l.take n) = run1 (bt l) 0 (8 * n) c by
    intro c
    have := h l.length (Nat.le_refl _) c
    rwa [List.take_length] at this
  intro n
  induction n with
  | zero => intro _ c; simp [crcFrom, run1]
  | succ n ih =>
    intro hn c
    rw [List.take_succ_eq_append_getElem (by omega), crcFrom_snoc, ih (by omega), show 8 * (n + 1) = 8 * n + 8 by omega, run1_add, run1_steps (bt l) 8]
    congr 2
    rw [Nat.zero_add]
    symm
    apply numF_byte 8 _ _ _ (by have := (l[n]).toNat_lt; omega)
    intro i hi
    unfold bt
    rw [show (8 * n + i) / 8 = n by omega, show (8 * n + i) % 8 = i by omega, List.getD_eq_getElem?_getD, List.getElem?_eq_getElem (by omega), Option.getD_some]
theorem bt_ext {a b : List UInt8} (hl : a.length = b.length) (h : ∀ p, bt a p = bt b p) : a = b := by
  apply List.ext_getElem hl
  intro i h1 h2
  apply UInt8.toNat_inj.1
  apply Nat.eq_of_testBit_eq
  intro s
  by_cases hs : s < 8
  · have := h (8 * i + s)
    unfold bt at this
    rw [show (8 * i + s) / 8 = i by omega, show (8 * i + s) % 8 = s by omega] at this
    simpa [List.getD_eq_getElem?_getD, h1, h2] using this
  · rw [Nat.testBit_lt_two_pow (Nat.lt_of_lt_of_le (a[i]).toNat_lt (Nat.pow_le_pow_right (n := 2) (by omega) (by omega : 8 ≤ s))), Nat.testBit_lt_two_pow (Nat.lt_of_lt_of_le (b[i]).toNat_lt (Nat.pow_le_pow_right (n := 2) (by omega) (by omega : 8 ≤ s)))]
/-- P2.7's mathematics: bytes that differ within 32 consecutive bits have different sums. -/
theorem sum_burst {a b : List UInt8} {first : Nat} (hl : a.length = b.length) (hout : ∀ p, p < first ∨ first + 32 ≤ p → bt a p = bt b p) (h : sumL a = sumL b) : a = b := by
  have h1 := xor_ones h
  rw [crc_bits, crc_bits, hl] at h1
  by_cases hf : first ≤ 8 * b.length
  · have hz : ∀ p, 8 * b.length ≤ p → bt a p = bt b p := by
      intro p hp
      unfold bt
      rw [List.getD_eq_getElem?_getD, List.getD_eq_getElem?_getD, List.getElem?_eq_none (by omega), List.getElem?_eq_none (by omega)]
    have hk : ∃ k, k ≤ 32 ∧ first + k ≤ 8 * b.length ∧ ∀ p, p < first ∨ first + k ≤ p → bt a p = bt b p := by
      by_cases e : first + 32 ≤ 8 * b.length
      · exact ⟨32, Nat.le_refl _, e, hout⟩
      · exact ⟨8 * b.length - first, by omega, by omega, fun p hp => hp.elim (fun h => hout p (.inl h)) (fun h => hz p (by omega))⟩
    obtain ⟨k, hk1, hk2, hk3⟩ := hk
    exact bt_ext hl (burst (by omega) hk1 hk2 hk3 h1)
  · refine bt_ext hl fun p => ?_
    by_cases hp : p < first
    · exact hout p (.inl hp)
    · unfold bt
      rw [List.getD_eq_getElem?_getD, List.getD_eq_getElem?_getD, List.getElem?_eq_none (by omega), List.getElem?_eq_none (by omega)]

/-! ### Frames -/
def frameL (l : List UInt8) : List UInt8 := putL l.length 2 ++ (putL (sumL l) 4 ++ l)
theorem frameL_length (l : List UInt8) : (frameL l).length = l.length + 6 := by simp [frameL, putL_length]; omega
/-- What Open answers: the error, and how many bytes the frame holds. -/
def openE (b : List UInt8) : Nat :=
  if b.length < 6 then 4 else if 2000 < valL (b.take 2) then 2 else if b.length < 6 + valL (b.take 2) then 4 else
  if sumL ((b.drop 6).take (valL (b.take 2))) = valL ((b.drop 2).take 4) then 0 else 6
def heldL (b : List UInt8) : List UInt8 := (b.drop 6).take (valL (b.take 2))
theorem frame_parts (l r : List UInt8) (h : l.length ≤ 2000) :
    valL ((frameL l ++ r).take 2) = l.length ∧ valL (((frameL l ++ r).drop 2).take 4) = sumL l ∧ ((frameL l ++ r).drop 6).take l.length = l := by
  have h2 := putL_length 2 l.length
  have h4 := putL_length 4 (sumL l)
  have hs := sumL_lt l
  refine ⟨?_, ?_, ?_⟩
  · rw [frameL, List.append_assoc, List.take_append_of_le_length (by omega), List.take_of_length_le (by omega), valL_putL 2 _ (by show _ < 65536; omega)]
  · rw [frameL, List.append_assoc, List.drop_append_of_le_length (by omega), List.drop_eq_nil_of_le (by omega), List.nil_append, List.append_assoc, List.take_append_of_le_length (by omega), List.take_of_length_le (by omega), valL_putL 4 _ (by show _ < 4294967296; omega)]
  · rw [frameL, List.append_assoc, List.append_assoc, ← List.append_assoc, List.drop_append, List.drop_eq_nil_of_le (by simp; omega), List.nil_append, List.length_append, h2, h4, Nat.sub_self, List.drop_zero, List.take_append_of_le_length (by omega), List.take_length]
theorem open_frame (l r : List UInt8) (h : l.length ≤ 2000) : openE (frameL l ++ r) = 0 ∧ heldL (frameL l ++ r) = l := by
  obtain ⟨h1, h2, h3⟩ := frame_parts l r h
  have hl := frameL_length l
  unfold openE heldL
  rw [h1, h2, h3, List.length_append, hl]
  refine ⟨?_, rfl⟩
  rw [if_neg (by omega), if_neg (by omega), if_neg (by omega), if_pos rfl]
/-- A beginning of a frame, not the whole: more is wanted. -/
theorem open_part (l : List UInt8) (k : Nat) (h : l.length ≤ 2000) (hk : k < l.length + 6) : openE ((frameL l).take k) = 4 := by
  have hl := frameL_length l
  have hlen : ((frameL l).take k).length = k := by rw [List.length_take]; omega
  unfold openE
  rw [hlen]
  by_cases h6 : k < 6
  · rw [if_pos h6]
  · have h1 := (frame_parts l [] h).1
    rw [List.append_nil] at h1
    rw [if_neg h6, List.take_take, Nat.min_eq_left (by omega), h1, if_neg (by omega), if_pos (by omega)]
/-- A frame whose bytes are other ones of the same number. -/
theorem open_other (l m : List UInt8) (h : l.length ≤ 2000) (hm : m.length = l.length) :
    openE (putL l.length 2 ++ (putL (sumL l) 4 ++ m)) = if sumL m = sumL l then 0 else 6 := by
  have h2 := putL_length 2 l.length
  have h4 := putL_length 4 (sumL l)
  have hs := sumL_lt l
  have e1 : valL ((putL l.length 2 ++ (putL (sumL l) 4 ++ m)).take 2) = l.length := by
    rw [List.take_append_of_le_length (by omega), List.take_of_length_le (by omega), valL_putL 2 _ (by show _ < 65536; omega)]
  have e2 : valL (((putL l.length 2 ++ (putL (sumL l) 4 ++ m)).drop 2).take 4) = sumL l := by
    rw [List.drop_append_of_le_length (by omega), List.drop_eq_nil_of_le (by omega), List.nil_append, List.take_append_of_le_length (by omega), List.take_of_length_le (by omega), valL_putL 4 _ (by show _ < 4294967296; omega)]
  have e3 : ((putL l.length 2 ++ (putL (sumL l) 4 ++ m)).drop 6).take l.length = m := by
    rw [← List.append_assoc, List.drop_append, List.drop_eq_nil_of_le (by simp; omega), List.nil_append, List.length_append, h2, h4, Nat.sub_self, List.drop_zero, List.take_of_length_le (by omega)]
  unfold openE
  rw [e1, e2, e3]
  have e4 : (putL l.length 2 ++ (putL (sumL l) 4 ++ m)).length = l.length + 6 := by simp [h2, h4]; omega
  rw [e4, if_neg (by omega), if_neg (by omega), if_neg (by omega)]
/-- The document's own test of a frame: is it the frame of the bytes that it holds? -/
theorem frame_test (b : List UInt8) (n : Nat) (hn : n = valL (b.take 2)) (h2000 : n ≤ 2000) (hb : 6 + n ≤ b.length) :
    frameL ((b.drop 6).take n) = b.take (6 + n) ↔ sumL ((b.drop 6).take n) = valL ((b.drop 2).take 4) := by
  have hl : ((b.drop 6).take n).length = n := by rw [List.length_take, List.length_drop]; omega
  have hb1 : b.take (6 + n) = b.take 2 ++ ((b.drop 2).take 4 ++ (b.drop 6).take n) := by
    rw [show 6 + n = 2 + (4 + n) by omega, List.take_add, List.take_add, List.drop_drop]
  have hp : putL n 2 = b.take 2 := by rw [hn]; exact putL_valL 2 _ (by rw [List.length_take]; omega)
  have hl4 : ((b.drop 2).take 4).length = 4 := by rw [List.length_take, List.length_drop]; omega
  rw [hb1, frameL, hl, hp, List.append_cancel_left_eq, List.append_cancel_right_eq]
  constructor
  · intro h
    rw [← h, valL_putL 4 _ (by show _ < 4294967296; exact sumL_lt _)]
  · intro h
    rw [h]
    exact putL_valL 4 _ hl4
end Go.Proofs.YtabjcgchcnnjjaaGreat.Co
end
/- Options as lists: which are right, what is found, written, joined and read. Plain mathematics, no program. -/
section
namespace Go.Proofs.YtabjcgchcnnjjaaGreat.Tl

abbrev O := Int × List UInt8
def codesL (l : List O) : List Int := l.map (·.1)
def fitO (o : O) : Bool := decide (1 ≤ o.1) && (decide (o.1 ≤ 254) && decide (o.2.length ≤ 600))
def rightL (l : List O) : Bool := decide (l.length ≤ 60) && (l.all fitO && decide (codesL l).Nodup)
def hasL (l : List O) (c : Int) : Nat := (codesL l).count c
def placeN : List O → Int → Nat
  | [], _ => 0
  | o :: l, c => if o.1 = c then 0 else placeN l c + 1
def placeL (l : List O) (c : Int) : Int := if c ∈ codesL l then (placeN l c : Nat) else -1
def findL (l : List O) (c : Int) : Option (List UInt8) := (l.find? fun o => o.1 == c).map (·.2)
def joinO (c : Int) (d : List UInt8) (o : O) : O := if o.1 = c then (o.1, o.2 ++ d) else o
def joinedL (l : List O) (c : Int) (d : List UInt8) : List O := l.map (joinO c d) ++ (if c ∈ codesL l then [] else [(c, d)])
def joinAll (l m : List O) : List O := m.foldl (fun a o => joinedL a o.1 o.2) l
def joinL (l m : List O) : List O × Int := if rightL l = true ∧ rightL m = true then (if rightL (joinAll l m) = true then (joinAll l m, 0) else ([], 3)) else ([], 1)
def codeB (c : Int) : UInt8 := UInt8.ofNat c.toNat
def oneL (c : Int) (d : List UInt8) : List UInt8 :=
  if _h : d.length ≤ 255 then codeB c :: UInt8.ofNat d.length :: d else codeB c :: 255 :: (d.take 255 ++ oneL c (d.drop 255))
termination_by d.length
decreasing_by rw [List.length_drop]; omega
def bodyL (l : List O) : List UInt8 := l.flatMap fun o => oneL o.1 o.2
def writeL (l : List O) : List UInt8 := bodyL l ++ [255]
def readF : Nat → List O → List UInt8 → List O × Int
  | 0, l, _ => (l, 0)
  | _ + 1, l, [] => (l, 0)
  | f + 1, l, c :: t =>
    if c = 255 then (l, 0) else if c = 0 then readF f l t else
      match t with
      | [] => ([], 2)
      | n :: r => if r.length < n.toNat then ([], 2) else
          if rightL (joinedL l (c.toNat : Int) (r.take n.toNat)) = true then readF f (joinedL l (c.toNat : Int) (r.take n.toNat)) (r.drop n.toNat) else ([], 3)
def readL (l : List O) (b : List UInt8) : List O × Int := readF b.length l b

/-! ### Right -/
theorem fit_iff (o : O) : fitO o = true ↔ 1 ≤ o.1 ∧ o.1 ≤ 254 ∧ o.2.length ≤ 600 := by simp [fitO]
theorem right_iff (l : List O) : rightL l = true ↔ l.length ≤ 60 ∧ (∀ o ∈ l, 1 ≤ o.1 ∧ o.1 ≤ 254 ∧ o.2.length ≤ 600) ∧ (codesL l).Nodup := by
  unfold rightL
  rw [Bool.and_eq_true, Bool.and_eq_true, decide_eq_true_eq, decide_eq_true_eq, List.all_eq_true]
  constructor
  · rintro ⟨a, b, c⟩; exact ⟨a, fun o ho => (fit_iff o).1 (b o ho), c⟩
  · rintro ⟨a, b, c⟩; exact ⟨a, fun o ho => (fit_iff o).2 (b o ho), c⟩
theorem right_no {l : List O} (h : ¬ (l.length ≤ 60 ∧ (∀ o ∈ l, 1 ≤ o.1 ∧ o.1 ≤ 254 ∧ o.2.length ≤ 600) ∧ (codesL l).Nodup)) : rightL l = false := by
  cases e : rightL l with
  | false => rfl
  | true => exact absurd ((right_iff l).1 e) h
theorem right_len {l : List O} (h : rightL l = true) : l.length ≤ 60 := ((right_iff l).1 h).1
theorem right_fit {l : List O} (h : rightL l = true) {o : O} (ho : o ∈ l) : 1 ≤ o.1 ∧ o.1 ≤ 254 ∧ o.2.length ≤ 600 := ((right_iff l).1 h).2.1 o ho
theorem right_nodup {l : List O} (h : rightL l = true) : (codesL l).Nodup := ((right_iff l).1 h).2.2
theorem right_nil : rightL [] = true := rfl
theorem codes_len (l : List O) : (codesL l).length = l.length := by simp [codesL]
theorem codes_app (l m : List O) : codesL (l ++ m) = codesL l ++ codesL m := by simp [codesL]
theorem codes_take (l : List O) (k : Nat) : codesL (l.take k) = (codesL l).take k := by simp [codesL, List.map_take]
theorem codes_get {l : List O} {i : Nat} (h : i < l.length) : (codesL l)[i]'(by rw [codes_len]; exact h) = (l[i]).1 := by simp [codesL]
theorem codes_mem {l : List O} {o : O} (h : o ∈ l) : o.1 ∈ codesL l := List.mem_map.2 ⟨o, h, rfl⟩
theorem right_long {l : List O} (h : 60 < l.length) : rightL l = false := right_no fun ⟨a, _⟩ => by omega
theorem right_unfit {l : List O} {i : Nat} (h : i < l.length) (hf : ¬ (1 ≤ (l[i]).1 ∧ (l[i]).1 ≤ 254 ∧ (l[i]).2.length ≤ 600)) : rightL l = false :=
  right_no fun ⟨_, a, _⟩ => hf (a _ (List.getElem_mem h))
theorem take_snocO {l : List O} {k : Nat} (h : k < l.length) : l.take (k + 1) = l.take k ++ [l[k]] := List.take_succ_eq_append_getElem h
theorem nodup_snoc {α : Type} {l : List α} {a : α} : (l ++ [a]).Nodup ↔ l.Nodup ∧ a ∉ l := by
  rw [List.nodup_append]
  simp
  intro _
  constructor
  · intro h k; exact h a k rfl
  · intro h b hb e; subst e; exact h hb
theorem right_twice {l : List O} {i : Nat} (h : i < l.length) (hd : (l[i]).1 ∈ codesL (l.take i)) : rightL l = false := right_no fun ⟨_, _, hn⟩ => by
  have h1 : (codesL (l.take (i + 1))).Nodup := by
    rw [codes_take]
    exact List.Nodup.sublist (List.take_sublist _ _) hn
  rw [take_snocO h, codes_app] at h1
  exact (nodup_snoc.1 h1).2 hd
theorem right_step {l : List O} {i : Nat} (h : i < l.length) (hl : l.length ≤ 60) (hr : rightL (l.take i) = true) (hf : 1 ≤ (l[i]).1 ∧ (l[i]).1 ≤ 254 ∧ (l[i]).2.length ≤ 600) (hd : (l[i]).1 ∉ codesL (l.take i)) : rightL (l.take (i + 1)) = true := by
  rw [right_iff, take_snocO h, codes_app]
  refine ⟨by rw [List.length_append, List.length_take]; simp; omega, fun o ho => ?_, nodup_snoc.2 ⟨right_nodup hr, hd⟩⟩
  rcases List.mem_append.1 ho with ho | ho
  · exact right_fit hr ho
  · simp at ho; subst ho; exact hf
theorem right_has {l : List O} {i : Nat} (h : i < l.length) (hd : 1 < hasL l (l[i]).1) : rightL l = false := right_no fun ⟨_, _, hn⟩ => by
  have := List.nodup_iff_count.1 hn (l[i]).1
  unfold hasL at hd
  omega
theorem right_all {l : List O} (hl : l.length ≤ 60) (h : ∀ i (h : i < l.length), (1 ≤ (l[i]).1 ∧ (l[i]).1 ≤ 254 ∧ (l[i]).2.length ≤ 600) ∧ hasL l (l[i]).1 ≤ 1) : rightL l = true := by
  refine (right_iff l).2 ⟨hl, fun o ho => ?_, List.nodup_iff_count.2 fun a => ?_⟩
  · obtain ⟨i, hi, rfl⟩ := List.mem_iff_getElem.1 ho
    exact (h i hi).1
  · by_cases ha : a ∈ codesL l
    · obtain ⟨o, ho, rfl⟩ := List.mem_map.1 ha
      obtain ⟨i, hi, rfl⟩ := List.mem_iff_getElem.1 ho
      exact (h i hi).2
    · rw [List.count_eq_zero_of_not_mem ha]; omega
theorem has_next {l : List O} {k : Nat} (h : k < l.length) (c : Int) : hasL (l.take (k + 1)) c = hasL (l.take k) c + if (l[k]).1 = c then 1 else 0 := by
  unfold hasL
  rw [take_snocO h, codes_app, List.count_append]
  simp [codesL, List.count_cons]
theorem has_le (l : List O) (c : Int) : hasL l c ≤ l.length := by
  have := List.count_le_length (a := c) (l := codesL l)
  rw [codes_len] at this
  exact this
theorem has_zero {l : List O} {c : Int} : hasL l c = 0 ↔ c ∉ codesL l := List.count_eq_zero

/-! ### Place, find -/
theorem placeN_hit : ∀ {l : List O} {k : Nat} {c : Int} (h : k < l.length), (l[k]).1 = c → c ∉ codesL (l.take k) → placeN l c = k
  | o :: l, 0, c, _, hk, _ => by simp at hk; simp [placeN, hk]
  | o :: l, k + 1, c, h, hk, hn => by
    simp [codesL] at hn
    have h1 : ¬ o.1 = c := fun e => hn.1 e.symm
    have h2 := placeN_hit (l := l) (k := k) (c := c) (by simpa using h) (by simpa using hk) (by simpa [codesL] using hn.2)
    simp [placeN, h1, h2]
theorem placeN_mem : ∀ {l : List O} {c : Int}, c ∈ codesL l → ∃ (h : placeN l c < l.length), (l[placeN l c]).1 = c ∧ c ∉ codesL (l.take (placeN l c))
  | [], c, h => by simp [codesL] at h
  | o :: l, c, h => by
    by_cases h1 : o.1 = c
    · have e : placeN (o :: l) c = 0 := by simp [placeN, h1]
      rw [e]
      exact ⟨by simp, by simpa using h1, by simp [codesL]⟩
    · have e : placeN (o :: l) c = placeN l c + 1 := by simp [placeN, h1]
      have hm : c ∈ codesL l := by
        simp only [codesL, List.map_cons, List.mem_cons] at h
        rcases h with h | h
        · exact absurd h.symm h1
        · exact h
      obtain ⟨a, b, d⟩ := placeN_mem hm
      rw [e]
      refine ⟨by simpa using a, by simpa using b, ?_⟩
      rw [List.take_succ_cons]
      simp only [codesL, List.map_cons, List.mem_cons, not_or] at d ⊢
      exact ⟨fun e => h1 e.symm, d⟩
theorem place_hit {l : List O} {k : Nat} {c : Int} (h : k < l.length) (hk : (l[k]).1 = c) (hn : c ∉ codesL (l.take k)) : placeL l c = (k : Int) := by
  have hm : c ∈ codesL l := by rw [← hk]; exact codes_mem (List.getElem_mem h)
  unfold placeL
  rw [if_pos hm, placeN_hit h hk hn]
theorem place_none {l : List O} {c : Int} (hn : c ∉ codesL l) : placeL l c = -1 := by unfold placeL; rw [if_neg hn]
theorem place_lo (l : List O) (c : Int) : -1 ≤ placeL l c := by unfold placeL; split <;> omega
theorem place_mem {l : List O} {c : Int} (h : c ∈ codesL l) : ∃ (i : Nat) (hi : i < l.length), placeL l c = (i : Int) ∧ (l[i]).1 = c ∧ c ∉ codesL (l.take i) := by
  obtain ⟨a, b, d⟩ := placeN_mem h
  exact ⟨placeN l c, a, by unfold placeL; rw [if_pos h], b, d⟩
theorem find_hit {l : List O} {k : Nat} {c : Int} (h : k < l.length) (hk : (l[k]).1 = c) (hn : c ∉ codesL (l.take k)) : findL l c = some (l[k]).2 := by
  unfold findL
  have hs : l = l.take k ++ l[k] :: l.drop (k + 1) := by rw [← List.drop_eq_getElem_cons h, List.take_append_drop]
  have h0 : (l.take k).find? (fun o => o.1 == c) = none := by
    rw [List.find?_eq_none]
    intro o ho e
    exact hn (by simp at e; rw [← e]; exact codes_mem ho)
  have : l.find? (fun o => o.1 == c) = some l[k] := by
    conv => lhs; rw [hs]
    rw [List.find?_append, h0, List.find?_cons_of_pos (by simp [hk])]
    rfl
  rw [this]
  rfl
theorem find_none {l : List O} {c : Int} (hn : c ∉ codesL l) : findL l c = none := by
  unfold findL
  have h0 : l.find? (fun o => o.1 == c) = none := by
    rw [List.find?_eq_none]
    intro o ho e
    exact hn (by simp at e; rw [← e]; exact codes_mem ho)
  rw [h0]
  rfl
theorem not_codes_next {l : List O} {k : Nat} {c : Int} (h : k < l.length) (hn : c ∉ codesL (l.take k)) (hk : (l[k]).1 ≠ c) : c ∉ codesL (l.take (k + 1)) := by
  rw [take_snocO h, codes_app]
  simp [codesL] at hn ⊢
  exact ⟨hn, fun e => hk e.symm⟩

/-! ### Joined -/
theorem joinO_code (c : Int) (d : List UInt8) (o : O) : (joinO c d o).1 = o.1 := by unfold joinO; split <;> rfl
theorem codes_map (l : List O) (c : Int) (d : List UInt8) : codesL (l.map (joinO c d)) = codesL l := by
  simp [codesL, joinO_code]
theorem codes_joined (l : List O) (c : Int) (d : List UInt8) : codesL (joinedL l c d) = codesL l ++ (if c ∈ codesL l then [] else [c]) := by
  unfold joinedL
  rw [codes_app, codes_map]
  split <;> simp [codesL]
theorem joined_new {l : List O} {c : Int} (h : c ∉ codesL l) (d : List UInt8) : joinedL l c d = l ++ [(c, d)] := by
  unfold joinedL
  rw [if_neg h]
  congr 1
  have : ∀ o ∈ l, joinO c d o = o := fun o ho => by
    unfold joinO
    rw [if_neg (fun e => h (by rw [← e]; exact codes_mem ho))]
  rw [List.map_congr_left this, List.map_id']
theorem joined_old {l : List O} {c : Int} (h : c ∈ codesL l) (d : List UInt8) : joinedL l c d = l.map (joinO c d) := by
  unfold joinedL
  rw [if_pos h, List.append_nil]
theorem joined_set {l : List O} {c : Int} (hn : (codesL l).Nodup) {i : Nat} (h : i < l.length) (hi : (l[i]).1 = c) (d : List UInt8) : joinedL l c d = l.set i (c, (l[i]).2 ++ d) := by
  have hm : c ∈ codesL l := by rw [← hi]; exact codes_mem (List.getElem_mem h)
  rw [joined_old hm]
  apply List.ext_getElem
  · simp
  · intro j hj hj2
    have hjl : j < l.length := by simpa using hj
    rw [List.getElem_map, List.getElem_set]
    by_cases e : i = j
    · subst e
      rw [if_pos rfl]
      unfold joinO
      rw [if_pos hi, hi]
    · rw [if_neg e]
      unfold joinO
      rw [if_neg]
      intro e2
      have h1 := codes_get h
      have h2 := codes_get hjl
      have := (List.getElem_inj (h₀ := by rw [codes_len]; exact h) (h₁ := by rw [codes_len]; exact hjl) hn).1 (by rw [h1, h2, hi, e2])
      exact e this
theorem right_joined_new {l : List O} {c : Int} {d : List UInt8} (hr : rightL l = true) (h : c ∉ codesL l) (h1 : 1 ≤ c) (h2 : c ≤ 254) (hl : l.length < 60) (hd : d.length ≤ 600) : rightL (joinedL l c d) = true := by
  rw [joined_new h, right_iff, codes_app]
  refine ⟨by simp; omega, fun o ho => ?_, nodup_snoc.2 ⟨right_nodup hr, h⟩⟩
  rcases List.mem_append.1 ho with ho | ho
  · exact right_fit hr ho
  · simp at ho; subst ho; exact ⟨h1, h2, hd⟩
theorem right_joined_full {l : List O} {c : Int} {d : List UInt8} (h : c ∉ codesL l) (hl : 60 ≤ l.length) : rightL (joinedL l c d) = false := by
  rw [joined_new h]
  exact right_long (by simp; omega)
theorem right_joined_big {l : List O} {c : Int} {d : List UInt8} (h : c ∉ codesL l) (hd : 600 < d.length) : rightL (joinedL l c d) = false := by
  rw [joined_new h]
  refine right_no fun ⟨_, a, _⟩ => ?_
  have := (a (c, d) (by simp)).2.2
  simp at this
  omega
theorem right_joined_set {l : List O} {c : Int} {d : List UInt8} (hr : rightL l = true) {i : Nat} (h : i < l.length) (hi : (l[i]).1 = c) (hd : (l[i]).2.length + d.length ≤ 600) : rightL (joinedL l c d) = true := by
  have hm : c ∈ codesL l := by rw [← hi]; exact codes_mem (List.getElem_mem h)
  have hc : codesL (joinedL l c d) = codesL l := by rw [codes_joined, if_pos hm, List.append_nil]
  rw [right_iff, hc]
  refine ⟨by rw [joined_old hm, List.length_map]; exact right_len hr, fun o ho => ?_, right_nodup hr⟩
  rw [joined_set (right_nodup hr) h hi] at ho
  rcases List.mem_or_eq_of_mem_set ho with ho | rfl
  · exact right_fit hr ho
  · have := right_fit hr (List.getElem_mem h)
    rw [hi] at this
    exact ⟨this.1, this.2.1, by simpa using hd⟩
theorem right_joined_over {l : List O} {c : Int} {d : List UInt8} {i : Nat} (h : i < l.length) (hi : (l[i]).1 = c) (hd : 600 < (l[i]).2.length + d.length) : rightL (joinedL l c d) = false := by
  have hm : c ∈ codesL l := by rw [← hi]; exact codes_mem (List.getElem_mem h)
  rw [joined_old hm]
  refine right_no fun ⟨_, a, _⟩ => ?_
  have := (a (joinO c d l[i]) (List.mem_map_of_mem (List.getElem_mem h))).2.2
  unfold joinO at this
  rw [if_pos hi, List.length_append] at this
  omega
theorem right_mono {l : List O} {c : Int} {d : List UInt8} (h : rightL (joinedL l c d) = true) : rightL l = true := by
  rw [right_iff] at h ⊢
  obtain ⟨a, b, n⟩ := h
  rw [codes_joined] at n
  have hlen : l.length ≤ (joinedL l c d).length := by unfold joinedL; rw [List.length_append, List.length_map]; omega
  refine ⟨by omega, fun o ho => ?_, (List.nodup_append.1 n).1⟩
  have := b (joinO c d o) (by unfold joinedL; exact List.mem_append_left _ (List.mem_map_of_mem ho))
  rw [joinO_code] at this
  refine ⟨this.1, this.2.1, Nat.le_trans ?_ this.2.2⟩
  unfold joinO
  split
  · rw [List.length_append]; omega
  · exact Nat.le_refl _
theorem joined_joined (l : List O) (c : Int) (d1 d2 : List UInt8) : joinedL (joinedL l c d1) c d2 = joinedL l c (d1 ++ d2) := by
  have hm : c ∈ codesL (joinedL l c d1) := by
    rw [codes_joined]
    by_cases h : c ∈ codesL l
    · exact List.mem_append_left _ h
    · rw [if_neg h]; simp
  rw [joined_old hm]
  have hj : ∀ o : O, joinO c d2 (joinO c d1 o) = joinO c (d1 ++ d2) o := fun o => by
    unfold joinO
    by_cases h : o.1 = c
    · simp [h]
    · simp [h]
  unfold joinedL
  rw [List.map_append, List.map_map, show (joinO c d2 ∘ joinO c d1) = joinO c (d1 ++ d2) from funext hj]
  congr 1
  split
  · rfl
  · simp [joinO]
theorem joinAll_nil (l : List O) : joinAll l [] = l := rfl
theorem joinAll_cons (l m : List O) (o : O) : joinAll l (o :: m) = joinAll (joinedL l o.1 o.2) m := rfl
theorem joinAll_app (l m k : List O) : joinAll l (m ++ k) = joinAll (joinAll l m) k := by unfold joinAll; rw [List.foldl_append]
theorem joinAll_next (l m : List O) {k : Nat} (h : k < m.length) : joinAll l (m.take (k + 1)) = joinedL (joinAll l (m.take k)) (m[k]).1 (m[k]).2 := by
  rw [take_snocO h, joinAll_app]; rfl
theorem joinAll_mono {l : List O} : ∀ {m : List O}, rightL (joinAll l m) = true → rightL l = true
  | [], h => h
  | _ :: m, h => right_mono (joinAll_mono (m := m) h)
theorem joinAll_mono_take {l m : List O} (k : Nat) (h : rightL (joinAll l m) = true) : rightL (joinAll l (m.take k)) = true := by
  rw [← List.take_append_drop k m, joinAll_app] at h
  exact joinAll_mono h
theorem joinAll_plain : ∀ {m l : List O}, (codesL (l ++ m)).Nodup → joinAll l m = l ++ m
  | [], l, _ => by rw [joinAll_nil, List.append_nil]
  | o :: m, l, h => by
    have hs : l ++ o :: m = (l ++ [o]) ++ m := by simp
    have hn : o.1 ∉ codesL l := by
      rw [hs, codes_app, codes_app] at h
      exact (nodup_snoc.1 (List.nodup_append.1 h).1).2
    rw [joinAll_cons, joined_new hn, hs]
    exact joinAll_plain (by rw [← hs]; exact h)
theorem joinAll_self {l : List O} (h : rightL l = true) : joinAll [] l = l := by
  have := joinAll_plain (m := l) (l := []) (by simpa using right_nodup h)
  simpa using this

/-! ### Written, read -/
theorem one_small {c : Int} {d : List UInt8} (h : d.length ≤ 255) : oneL c d = codeB c :: UInt8.ofNat d.length :: d := by rw [oneL, dif_pos h]
theorem one_big {c : Int} {d : List UInt8} (h : 255 < d.length) : oneL c d = codeB c :: 255 :: (d.take 255 ++ oneL c (d.drop 255)) := by rw [oneL, dif_neg (by omega)]
theorem one_len (c : Int) (d : List UInt8) : (oneL c d).length ≤ 2 * d.length + 2 := by
  by_cases h : d.length ≤ 255
  · rw [one_small h]; simp; omega
  · rw [one_big (by omega)]
    have := one_len c (d.drop 255)
    rw [List.length_drop] at this
    simp
    omega
termination_by d.length
decreasing_by rw [List.length_drop]; omega
theorem body_app (l m : List O) : bodyL (l ++ m) = bodyL l ++ bodyL m := by unfold bodyL; rw [List.flatMap_append]
theorem body_next {l : List O} {k : Nat} (h : k < l.length) : bodyL (l.take (k + 1)) = bodyL (l.take k) ++ oneL (l[k]).1 (l[k]).2 := by
  rw [take_snocO h, body_app]; simp [bodyL]
theorem body_len : ∀ {l : List O}, (∀ o ∈ l, o.2.length ≤ 600) → (bodyL l).length ≤ 1202 * l.length
  | [], _ => by simp [bodyL]
  | o :: l, h => by
    have h1 := one_len o.1 o.2
    have h2 := body_len (l := l) fun x hx => h x (.tail _ hx)
    have h3 := h o (.head _)
    have : bodyL (o :: l) = oneL o.1 o.2 ++ bodyL l := by simp [bodyL]
    rw [this, List.length_append, List.length_cons]
    omega
theorem body_len_right {l : List O} (h : rightL l = true) (k : Nat) : (bodyL (l.take k)).length ≤ 72120 := by
  have h1 := body_len (l := l.take k) fun o ho => (right_fit h (List.mem_of_mem_take ho)).2.2
  have h2 := right_len h
  rw [List.length_take] at h1
  omega
theorem readF_more : ∀ (f g : Nat) (l : List O) (b : List UInt8), b.length ≤ f → b.length ≤ g → readF f l b = readF g l b
  | 0, 0, _, _, _, _ => rfl
  | 0, g + 1, l, [], _, _ => rfl
  | f + 1, 0, l, [], _, _ => rfl
  | f + 1, g + 1, l, [], _, _ => rfl
  | f + 1, g + 1, l, c :: t, hf, hg => by
    simp only [readF]
    simp at hf hg
    by_cases h1 : c = 255
    · rw [if_pos h1, if_pos h1]
    · rw [if_neg h1, if_neg h1]
      by_cases h2 : c = 0
      · rw [if_pos h2, if_pos h2]
        exact readF_more f g l t hf hg
      · rw [if_neg h2, if_neg h2]
        cases t with
        | nil => rfl
        | cons n r =>
          simp only
          simp at hf hg
          by_cases h3 : r.length < n.toNat
          · rw [if_pos h3, if_pos h3]
          · rw [if_neg h3, if_neg h3]
            by_cases h4 : rightL (joinedL l (c.toNat : Int) (r.take n.toNat)) = true
            · rw [if_pos h4, if_pos h4]
              exact readF_more f g _ _ (by rw [List.length_drop]; omega) (by rw [List.length_drop]; omega)
            · rw [if_neg h4, if_neg h4]
theorem read_nil (l : List O) : readL l [] = (l, 0) := rfl
theorem read_end (l : List O) (t : List UInt8) : readL l (255 :: t) = (l, 0) := by simp [readL, readF]
theorem read_zero (l : List O) (t : List UInt8) : readL l (0 :: t) = readL l t := by simp [readL, readF]
theorem read_lone (l : List O) {c : UInt8} (h1 : c ≠ 255) (h2 : c ≠ 0) : readL l [c] = ([], 2) := by simp [readL, readF, h1, h2]
theorem read_short (l : List O) {c n : UInt8} {r : List UInt8} (h1 : c ≠ 255) (h2 : c ≠ 0) (h3 : r.length < n.toNat) : readL l (c :: n :: r) = ([], 2) := by simp [readL, readF, h1, h2, h3]
theorem read_part (l : List O) {c n : UInt8} {r : List UInt8} (h1 : c ≠ 255) (h2 : c ≠ 0) (h3 : n.toNat ≤ r.length) :
    readL l (c :: n :: r) = if rightL (joinedL l (c.toNat : Int) (r.take n.toNat)) = true then readL (joinedL l (c.toNat : Int) (r.take n.toNat)) (r.drop n.toNat) else ([], 3) := by
  unfold readL
  simp only [List.length_cons, readF, h1, h2, if_false, show ¬ r.length < n.toNat by omega]
  split
  · exact readF_more _ _ _ _ (by rw [List.length_drop]; omega) (Nat.le_refl _)
  · rfl
theorem codeB_nat {c : Int} (h1 : 1 ≤ c) (h2 : c ≤ 254) : ((codeB c).toNat : Int) = c ∧ codeB c ≠ 255 ∧ codeB c ≠ 0 := by
  have h : (codeB c).toNat = c.toNat := by
    unfold codeB
    rw [UInt8.toNat_ofNat']
    omega
  refine ⟨by rw [h]; omega, fun e => ?_, fun e => ?_⟩
  · have : (codeB c).toNat = 255 := by rw [e]; rfl
    omega
  · have : (codeB c).toNat = 0 := by rw [e]; rfl
    omega
theorem read_one (l : List O) {c : Int} (h1 : 1 ≤ c) (h2 : c ≤ 254) (d x : List UInt8) : readL l (oneL c d ++ x) = if rightL (joinedL l c d) = true then readL (joinedL l c d) x else ([], 3) := by
  obtain ⟨hb, hne, hnz⟩ := codeB_nat h1 h2
  by_cases h : d.length ≤ 255
  · rw [one_small h, List.cons_append, List.cons_append]
    have hn : (UInt8.ofNat d.length).toNat = d.length := by rw [UInt8.toNat_ofNat']; omega
    rw [read_part l hne hnz (by rw [hn, List.length_append]; omega), hn, hb, List.take_left, List.drop_left]
  · rw [one_big (by omega), List.cons_append, List.cons_append, List.append_assoc]
    have hn : (255 : UInt8).toNat = 255 := rfl
    have ht : (d.take 255).length = 255 := by rw [List.length_take]; omega
    rw [read_part l hne hnz (by rw [hn, List.length_append, ht]; omega), hn, hb]
    have e1 : ∀ y : List UInt8, (d.take 255 ++ y).take 255 = d.take 255 := fun y => by rw [List.take_append_of_le_length (by omega), List.take_take]; rfl
    have e2 : ∀ y : List UInt8, (d.take 255 ++ y).drop 255 = y := fun y => by rw [List.drop_append_of_le_length (by omega), List.drop_of_length_le (by omega)]; rfl
    rw [e1, e2, read_one (joinedL l c (d.take 255)) h1 h2 (d.drop 255) x, joined_joined, List.take_append_drop]
    by_cases hr : rightL (joinedL l c (d.take 255)) = true
    · rw [if_pos hr]
    · rw [if_neg hr, if_neg]
      intro k
      refine hr (right_mono (c := c) (d := d.drop 255) ?_)
      rw [joined_joined, List.take_append_drop]
      exact k
termination_by d.length
decreasing_by rw [List.length_drop]; omega
theorem read_body : ∀ (m l : List O) (x : List UInt8), (∀ o ∈ m, 1 ≤ o.1 ∧ o.1 ≤ 254) → rightL l = true → readL l (bodyL m ++ x) = if rightL (joinAll l m) = true then readL (joinAll l m) x else ([], 3)
  | [], l, x, _, hl => by rw [joinAll_nil, if_pos hl]; rfl
  | o :: m, l, x, hm, hl => by
    have e : bodyL (o :: m) = oneL o.1 o.2 ++ bodyL m := by simp [bodyL]
    have ho := hm o (.head _)
    rw [e, List.append_assoc, read_one l ho.1 ho.2, joinAll_cons]
    by_cases hr : rightL (joinedL l o.1 o.2) = true
    · rw [if_pos hr]
      exact read_body m _ x (fun p hp => hm p (.tail _ hp)) hr
    · rw [if_neg hr, if_neg]
      exact fun k => hr (joinAll_mono k)
theorem read_rows {l m : List O} (hl : rightL l = true) (hm : rightL m = true) (rest : List UInt8) : readL [] (bodyL l ++ (writeL m ++ rest)) = joinL l m := by
  rw [read_body l [] _ (fun o ho => ⟨(right_fit hl ho).1, (right_fit hl ho).2.1⟩) right_nil, joinAll_self hl, if_pos hl]
  unfold writeL joinL
  rw [List.append_assoc, read_body m l _ (fun o ho => ⟨(right_fit hm ho).1, (right_fit hm ho).2.1⟩) hl]
  have hc : rightL l = true ∧ rightL m = true := ⟨hl, hm⟩
  rw [if_pos hc]
  split
  · exact read_end _ _
  · rfl
theorem read_back {l : List O} (hl : rightL l = true) (rest : List UInt8) : readL [] (writeL l ++ rest) = (l, 0) := by
  have := read_rows (l := []) right_nil hl rest
  have e : joinL [] l = (l, 0) := by
    unfold joinL
    have hc : rightL [] = true ∧ rightL l = true := ⟨right_nil, hl⟩
    rw [if_pos hc, joinAll_self hl, if_pos hl]
  rw [e] at this
  exact this
theorem read_zeros (l : List O) (n : Nat) (b : List UInt8) : readL l (List.replicate n 0 ++ b) = readL l b := by
  induction n with
  | zero => rfl
  | succ n ih => rw [List.replicate_succ, List.cons_append, read_zero, ih]
theorem readF_good : ∀ (f : Nat) (l : List O) (b : List UInt8), rightL l = true → rightL (readF f l b).1 = true ∧ ((readF f l b).2 ≠ 0 → (readF f l b).1 = []) ∧ ((readF f l b).2 = 0 ∨ (readF f l b).2 = 2 ∨ (readF f l b).2 = 3)
  | 0, l, _, h => ⟨h, fun k => absurd rfl k, .inl rfl⟩
  | f + 1, l, [], h => ⟨h, fun k => absurd rfl k, .inl rfl⟩
  | f + 1, l, c :: t, h => by
    simp only [readF]
    by_cases h1 : c = 255
    · rw [if_pos h1]; exact ⟨h, fun k => absurd rfl k, .inl rfl⟩
    · rw [if_neg h1]
      by_cases h2 : c = 0
      · rw [if_pos h2]; exact readF_good f l t h
      · rw [if_neg h2]
        cases t with
        | nil => exact ⟨right_nil, fun _ => rfl, .inr (.inl rfl)⟩
        | cons n r =>
          simp only
          by_cases h3 : r.length < n.toNat
          · rw [if_pos h3]; exact ⟨right_nil, fun _ => rfl, .inr (.inl rfl)⟩
          · rw [if_neg h3]
            by_cases h4 : rightL (joinedL l (c.toNat : Int) (r.take n.toNat)) = true
            · rw [if_pos h4]; exact readF_good f _ _ h4
            · rw [if_neg h4]; exact ⟨right_nil, fun _ => rfl, .inr (.inr rfl)⟩
theorem read_good (b : List UInt8) : rightL (readL [] b).1 = true ∧ ((readL [] b).2 ≠ 0 → (readL [] b).1 = []) ∧ ((readL [] b).2 = 0 ∨ (readL [] b).2 = 2 ∨ (readL [] b).2 = 3) := readF_good _ _ _ right_nil
end Go.Proofs.YtabjcgchcnnjjaaGreat.Tl
end
/- Messages as lists of bytes: which are right, how they are written and read, options in the file and the name. Plain mathematics, no program. -/
section
namespace Go.Proofs.YtabjcgchcnnjjaaGreat.Ms
open Tl Co

structure M where
  op : Int
  htype : Int
  hlen : Int
  hops : Int
  xid : Int
  secs : Int
  flags : Int
  ci : Int
  yi : Int
  si : Int
  gi : Int
  ch : List UInt8
  os : List O
def zeroM : M := ⟨0, 0, 0, 0, 0, 0, 0, 0, 0, 0, 0, [], []⟩
def HeadOk (m : M) : Prop := (0 ≤ m.op ∧ m.op ≤ 255) ∧ (0 ≤ m.htype ∧ m.htype ≤ 255) ∧ (0 ≤ m.hlen ∧ m.hlen ≤ 16) ∧ (0 ≤ m.hops ∧ m.hops ≤ 255) ∧ (0 ≤ m.xid ∧ m.xid ≤ 4294967295) ∧ (0 ≤ m.secs ∧ m.secs ≤ 65535) ∧ (0 ≤ m.flags ∧ m.flags ≤ 65535) ∧
  (0 ≤ m.ci ∧ m.ci ≤ 4294967295) ∧ (0 ≤ m.yi ∧ m.yi ≤ 4294967295) ∧ (0 ≤ m.si ∧ m.si ≤ 4294967295) ∧ (0 ≤ m.gi ∧ m.gi ≤ 4294967295)
instance (m : M) : Decidable (HeadOk m) := by unfold HeadOk; infer_instance
def RightM (m : M) : Prop := HeadOk m ∧ m.ch.length = 16 ∧ rightL m.os = true ∧ hasL m.os 52 = 0
instance (m : M) : Decidable (RightM m) := by unfold RightM; infer_instance
def rightM (m : M) : Bool := decide (RightM m)
def byteI (v : Int) : UInt8 := UInt8.ofNat v.toNat
def numB (v : Int) (n : Nat) : List UInt8 := putL v.toNat n
def cookieL : List UInt8 := [99, 130, 83, 99]
def headL (m : M) : List UInt8 := [byteI m.op, byteI m.htype, byteI m.hlen, byteI m.hops] ++ (numB m.xid 4 ++ (numB m.secs 2 ++ (numB m.flags 2 ++ (numB m.ci 4 ++ (numB m.yi 4 ++ (numB m.si 4 ++ (numB m.gi 4 ++ m.ch)))))))
def padL (b : List UInt8) : List UInt8 := b ++ List.replicate (300 - b.length) 0
def bodyM (m : M) : List UInt8 := headL m ++ (List.replicate 192 0 ++ (cookieL ++ writeL m.os))
def bytesM (m : M) : List UInt8 := padL (bodyM m)
def sub (b : List UInt8) (i n : Nat) : List UInt8 := (b.drop i).take n
def withoutL (l : List O) (c : Int) : List O := l.filter fun o => !(o.1 == c)
def areaL (l : List O) (a : List UInt8) : List O × Int := if (readL [] a).2 ≠ 0 then ([], (readL [] a).2) else if 0 < hasL (readL [] a).1 52 then ([], 2) else joinL l (readL [] a).1
/-- Behind the cookie's options: the value of overload, the two rooms. -/
def roomsL (l : List O) (x : UInt8) (file name : List UInt8) : List O × Int :=
  if x ≠ 2 then (if (areaL l file).2 ≠ 0 then ([], (areaL l file).2) else if x ≠ 1 then areaL (areaL l file).1 name else ((areaL l file).1, 0)) else areaL l name
def overL (l : List O) (d : List UInt8) (file name : List UInt8) : List O × Int :=
  match d with
  | [x] => if x = 0 ∨ 3 < x then ([], 2) else roomsL (withoutL l 52) x file name
  | _ => ([], 2)
def optionsL (b : List UInt8) : List O × Int :=
  if (readL [] (b.drop 240)).2 ≠ 0 then ([], (readL [] (b.drop 240)).2) else
    match findL (readL [] (b.drop 240)).1 52 with
    | none => ((readL [] (b.drop 240)).1, 0)
    | some d => overL (readL [] (b.drop 240)).1 d (sub b 108 128) (sub b 44 64)
def byteAt (b : List UInt8) (i : Nat) : Int := ((b.getD i 0).toNat : Int)
def numAt (b : List UInt8) (i n : Nat) : Int := (valL (sub b i n) : Int)
def msgOf (b : List UInt8) (l : List O) : M := ⟨byteAt b 0, byteAt b 1, byteAt b 2, byteAt b 3, numAt b 4 4, numAt b 8 2, numAt b 10 2, numAt b 12 4, numAt b 16 4, numAt b 20 4, numAt b 24 4, sub b 28 16, l⟩
def readM (b : List UInt8) : M × Int :=
  if b.length < 240 then (zeroM, 4) else if 1500 < b.length then (zeroM, 3) else if sub b 236 4 ≠ cookieL ∨ 16 < (b.getD 2 0).toNat then (zeroM, 2) else
    if (optionsL b).2 ≠ 0 then (zeroM, (optionsL b).2) else (msgOf b (optionsL b).1, 0)

/-! ### Pieces -/
theorem sub_mid {a p r : List UInt8} {i n : Nat} (ha : a.length = i) (hp : p.length = n) : sub (a ++ (p ++ r)) i n = p := by
  subst ha; subst hp
  unfold sub
  rw [List.drop_left, List.take_left]
theorem sub_len {b : List UInt8} {i n : Nat} (h : i + n ≤ b.length) : (sub b i n).length = n := by
  unfold sub
  rw [List.length_take, List.length_drop]
  omega
theorem numB_len (v : Int) (n : Nat) : (numB v n).length = n := putL_length n _
theorem head_len {m : M} (h : m.ch.length = 16) : (headL m).length = 44 := by
  unfold headL
  simp only [List.length_append, List.length_cons, List.length_nil, numB_len, h]
theorem body_lenM {m : M} (h : m.ch.length = 16) : (bodyM m).length = 240 + (writeL m.os).length := by
  unfold bodyM
  simp only [List.length_append, head_len h, List.length_replicate]
  show 44 + (192 + (4 + _)) = _
  omega
theorem bytes_ge (m : M) : 300 ≤ (bytesM m).length := by
  unfold bytesM padL
  rw [List.length_append, List.length_replicate]
  omega
/-- A message's bytes: the head, two rooms, the cookie, the options, and some noughts. -/
theorem bytes_lay (m : M) : ∃ k, bytesM m = headL m ++ (List.replicate 64 0 ++ (List.replicate 128 0 ++ (cookieL ++ (writeL m.os ++ List.replicate k 0)))) := by
  refine ⟨300 - (bodyM m).length, ?_⟩
  unfold bytesM padL bodyM
  have : List.replicate 192 (0 : UInt8) = List.replicate 64 0 ++ List.replicate 128 0 := by rw [List.replicate_append_replicate]
  rw [this]
  simp only [List.append_assoc]
theorem num_back {v : Int} {n : Nat} (h0 : 0 ≤ v) (h1 : v < ((p256 n : Nat) : Int)) : ((valL (numB v n) : Nat) : Int) = v := by
  unfold numB
  rw [valL_putL n v.toNat (by omega)]
  omega
theorem byteI_back {v : Int} (h0 : 0 ≤ v) (h1 : v ≤ 255) : ((byteI v).toNat : Int) = v := by
  unfold byteI
  rw [UInt8.toNat_ofNat']
  omega
/-- What is read of bytes that begin with a message's head. -/
theorem msgOf_head {m : M} (h : HeadOk m) (hc : m.ch.length = 16) (r : List UInt8) (l : List O) : msgOf (headL m ++ r) l = { m with os := l } := by
  obtain ⟨h1, h2, h3, h4, h5, h6, h7, h8, h9, h10, h11⟩ := h
  have p4 : p256 4 = 4294967296 := by decide
  have p2 : p256 2 = 65536 := by decide
  have g : ∀ {i n : Nat} {v : Int} {a t : List UInt8}, headL m ++ r = a ++ (numB v n ++ t) → a.length = i → 0 ≤ v → v < ((p256 n : Nat) : Int) → numAt (headL m ++ r) i n = v := fun {i n v a t} e ha hv0 hv1 => by
    unfold numAt
    rw [e, sub_mid ha (numB_len v n)]
    exact num_back hv0 hv1
  have b0 : byteAt (headL m ++ r) 0 = m.op := byteI_back h1.1 h1.2
  have b1 : byteAt (headL m ++ r) 1 = m.htype := byteI_back h2.1 h2.2
  have b2 : byteAt (headL m ++ r) 2 = m.hlen := byteI_back h3.1 (by omega)
  have b3 : byteAt (headL m ++ r) 3 = m.hops := byteI_back h4.1 h4.2
  let q0 : List UInt8 := [byteI m.op, byteI m.htype, byteI m.hlen, byteI m.hops]
  have c4 : numAt (headL m ++ r) 4 4 = m.xid := g (a := q0) (t := numB m.secs 2 ++ (numB m.flags 2 ++ (numB m.ci 4 ++ (numB m.yi 4 ++ (numB m.si 4 ++ (numB m.gi 4 ++ (m.ch ++ r))))))) (by simp [headL, q0]) rfl h5.1 (by omega)
  have c8 : numAt (headL m ++ r) 8 2 = m.secs := g (a := q0 ++ numB m.xid 4) (t := numB m.flags 2 ++ (numB m.ci 4 ++ (numB m.yi 4 ++ (numB m.si 4 ++ (numB m.gi 4 ++ (m.ch ++ r)))))) (by simp [headL, q0]) (by simp [q0, numB_len]) h6.1 (by omega)
  have c10 : numAt (headL m ++ r) 10 2 = m.flags := g (a := q0 ++ (numB m.xid 4 ++ numB m.secs 2)) (t := numB m.ci 4 ++ (numB m.yi 4 ++ (numB m.si 4 ++ (numB m.gi 4 ++ (m.ch ++ r))))) (by simp [headL, q0]) (by simp [q0, numB_len]) h7.1 (by omega)
  have c12 : numAt (headL m ++ r) 12 4 = m.ci := g (a := q0 ++ (numB m.xid 4 ++ (numB m.secs 2 ++ numB m.flags 2))) (t := numB m.yi 4 ++ (numB m.si 4 ++ (numB m.gi 4 ++ (m.ch ++ r)))) (by simp [headL, q0]) (by simp [q0, numB_len]) h8.1 (by omega)
  have c16 : numAt (headL m ++ r) 16 4 = m.yi := g (a := q0 ++ (numB m.xid 4 ++ (numB m.secs 2 ++ (numB m.flags 2 ++ numB m.ci 4)))) (t := numB m.si 4 ++ (numB m.gi 4 ++ (m.ch ++ r))) (by simp [headL, q0]) (by simp [q0, numB_len]) h9.1 (by omega)
  have c20 : numAt (headL m ++ r) 20 4 = m.si := g (a := q0 ++ (numB m.xid 4 ++ (numB m.secs 2 ++ (numB m.flags 2 ++ (numB m.ci 4 ++ numB m.yi 4))))) (t := numB m.gi 4 ++ (m.ch ++ r)) (by simp [headL, q0]) (by simp [q0, numB_len]) h10.1 (by omega)
  have c24 : numAt (headL m ++ r) 24 4 = m.gi := g (a := q0 ++ (numB m.xid 4 ++ (numB m.secs 2 ++ (numB m.flags 2 ++ (numB m.ci 4 ++ (numB m.yi 4 ++ numB m.si 4)))))) (t := m.ch ++ r) (by simp [headL, q0]) (by simp [q0, numB_len]) h11.1 (by omega)
  have c28 : sub (headL m ++ r) 28 16 = m.ch := by
    have e : headL m ++ r = (q0 ++ (numB m.xid 4 ++ (numB m.secs 2 ++ (numB m.flags 2 ++ (numB m.ci 4 ++ (numB m.yi 4 ++ (numB m.si 4 ++ numB m.gi 4))))))) ++ (m.ch ++ r) := by simp [headL, q0]
    rw [e]
    exact sub_mid (by simp [q0, numB_len]) hc
  unfold msgOf
  rw [b0, b1, b2, b3, c4, c8, c10, c12, c16, c20, c24, c28]

/-! ### Right -/
theorem rightM_iff (m : M) : rightM m = true ↔ RightM m := by unfold rightM; exact decide_eq_true_iff
theorem find_of_has {l : List O} {c : Int} (h : hasL l c = 0) : findL l c = none := find_none (has_zero.1 h)
theorem joined_has {l : List O} {c k : Int} {d : List UInt8} (h : k ∉ codesL l) (hk : k ≠ c) : k ∉ codesL (joinedL l c d) := by
  rw [codes_joined]
  intro hm
  rcases List.mem_append.1 hm with hm | hm
  · exact h hm
  · split at hm
    · cases hm
    · simp at hm; exact hk hm
theorem joinAll_has {k : Int} : ∀ {m l : List O}, k ∉ codesL l → k ∉ codesL m → k ∉ codesL (joinAll l m)
  | [], _, h, _ => h
  | o :: m, l, h, hm => by
    simp only [codesL, List.map_cons, List.mem_cons, not_or] at hm
    exact joinAll_has (m := m) (joined_has h hm.1) hm.2
theorem joinL_good {l m : List O} (h : (joinL l m).2 = 0) : joinL l m = (joinAll l m, 0) ∧ rightL (joinAll l m) = true := by
  unfold joinL at h ⊢
  by_cases h1 : rightL l = true ∧ rightL m = true
  · rw [if_pos h1] at h ⊢
    by_cases h2 : rightL (joinAll l m) = true
    · rw [if_pos h2]; exact ⟨rfl, h2⟩
    · rw [if_neg h2] at h; cases h
  · rw [if_neg h1] at h; cases h
theorem joinL_bad {l m : List O} (h : (joinL l m).2 ≠ 0) : (joinL l m).1 = [] := by
  unfold joinL at h ⊢
  by_cases h1 : rightL l = true ∧ rightL m = true
  · rw [if_pos h1] at h ⊢
    by_cases h2 : rightL (joinAll l m) = true
    · rw [if_pos h2] at h; exact absurd rfl h
    · rw [if_neg h2]
  · rw [if_neg h1]
def GoodO (l : List O) : Prop := rightL l = true ∧ hasL l 52 = 0
theorem area_good {l : List O} {a : List UInt8} (hl : GoodO l) (h : (areaL l a).2 = 0) : GoodO (areaL l a).1 := by
  unfold areaL at h ⊢
  by_cases h1 : (readL [] a).2 ≠ 0
  · rw [if_pos h1] at h; exact absurd h h1
  · rw [if_neg h1] at h ⊢
    by_cases h2 : 0 < hasL (readL [] a).1 52
    · rw [if_pos h2] at h; cases h
    · rw [if_neg h2] at h ⊢
      obtain ⟨e, hr⟩ := joinL_good h
      rw [e]
      exact ⟨hr, has_zero.2 (joinAll_has (has_zero.1 hl.2) (has_zero.1 (by omega)))⟩
theorem area_bad {l : List O} {a : List UInt8} (h : (areaL l a).2 ≠ 0) : (areaL l a).1 = [] := by
  unfold areaL at h ⊢
  by_cases h1 : (readL [] a).2 ≠ 0
  · rw [if_pos h1]
  · rw [if_neg h1] at h ⊢
    by_cases h2 : 0 < hasL (readL [] a).1 52
    · rw [if_pos h2]
    · rw [if_neg h2] at h ⊢
      exact joinL_bad h
theorem without_codes (l : List O) (c : Int) : codesL (withoutL l c) = (codesL l).filter fun x => !(x == c) := by
  unfold withoutL codesL
  rw [List.filter_map]
  rfl
theorem without_good {l : List O} (h : rightL l = true) : GoodO (withoutL l 52) := by
  constructor
  · rw [right_iff]
    refine ⟨Nat.le_trans (List.length_filter_le _ _) (right_len h), fun o ho => right_fit h (List.mem_filter.1 ho).1, ?_⟩
    rw [without_codes]
    exact List.Nodup.sublist List.filter_sublist (right_nodup h)
  · rw [has_zero, without_codes]
    intro hm
    have := (List.mem_filter.1 hm).2
    simp at this
theorem rooms_good {l : List O} {x : UInt8} {f n : List UInt8} (hl : GoodO l) (h : (roomsL l x f n).2 = 0) : GoodO (roomsL l x f n).1 := by
  unfold roomsL at h ⊢
  by_cases h1 : x ≠ 2
  · rw [if_pos h1] at h ⊢
    by_cases h2 : (areaL l f).2 ≠ 0
    · rw [if_pos h2] at h; exact absurd h h2
    · rw [if_neg h2] at h ⊢
      have g := area_good (a := f) hl (by omega)
      by_cases h3 : x ≠ 1
      · rw [if_pos h3] at h ⊢; exact area_good g h
      · rw [if_neg h3]; exact g
  · rw [if_neg h1] at h ⊢
    exact area_good hl h
theorem rooms_bad {l : List O} {x : UInt8} {f n : List UInt8} (h : (roomsL l x f n).2 ≠ 0) : (roomsL l x f n).1 = [] := by
  unfold roomsL at h ⊢
  by_cases h1 : x ≠ 2
  · rw [if_pos h1] at h ⊢
    by_cases h2 : (areaL l f).2 ≠ 0
    · rw [if_pos h2]
    · rw [if_neg h2] at h ⊢
      by_cases h3 : x ≠ 1
      · rw [if_pos h3] at h ⊢; exact area_bad h
      · rw [if_neg h3] at h; exact absurd rfl h
  · rw [if_neg h1] at h ⊢
    exact area_bad h
theorem over_one (l : List O) (x : UInt8) (f n : List UInt8) : overL l [x] f n = if x = 0 ∨ 3 < x then ([], 2) else roomsL (withoutL l 52) x f n := rfl
theorem over_not (l : List O) {d : List UInt8} (hd : d.length ≠ 1) (f n : List UInt8) : overL l d f n = ([], 2) := by
  match d with
  | [] => rfl
  | [_] => exact absurd rfl hd
  | _ :: _ :: _ => rfl
theorem one_of_len {d : List UInt8} (h : d.length = 1) : ∃ x, d = [x] := by
  match d, h with
  | [x], _ => exact ⟨x, rfl⟩
theorem over_good {l : List O} {d f n : List UInt8} (hl : rightL l = true) (h : (overL l d f n).2 = 0) : GoodO (overL l d f n).1 := by
  by_cases hd : d.length = 1
  · obtain ⟨x, rfl⟩ := one_of_len hd
    rw [over_one] at h ⊢
    by_cases h1 : x = 0 ∨ 3 < x
    · rw [if_pos h1] at h; cases h
    · rw [if_neg h1] at h ⊢
      exact rooms_good (without_good hl) h
  · rw [over_not l hd] at h; cases h
theorem over_bad {l : List O} {d f n : List UInt8} (h : (overL l d f n).2 ≠ 0) : (overL l d f n).1 = [] := by
  by_cases hd : d.length = 1
  · obtain ⟨x, rfl⟩ := one_of_len hd
    rw [over_one] at h ⊢
    by_cases h1 : x = 0 ∨ 3 < x
    · rw [if_pos h1]
    · rw [if_neg h1] at h ⊢
      exact rooms_bad h
  · rw [over_not l hd]
theorem options_good {b : List UInt8} (h : (optionsL b).2 = 0) : GoodO (optionsL b).1 := by
  unfold optionsL at h ⊢
  by_cases h1 : (readL [] (b.drop 240)).2 ≠ 0
  · rw [if_pos h1] at h; exact absurd h h1
  · rw [if_neg h1] at h ⊢
    have hr := (read_good (b.drop 240)).1
    cases e : findL (readL [] (b.drop 240)).1 52 with
    | none =>
      simp only
      refine ⟨hr, ?_⟩
      rw [has_zero]
      intro hm
      obtain ⟨i, hi, _, hc, hno⟩ := place_mem hm
      rw [find_hit hi hc hno] at e
      cases e
    | some d =>
      rw [e] at h
      exact over_good hr h
theorem options_bad {b : List UInt8} (h : (optionsL b).2 ≠ 0) : (optionsL b).1 = [] := by
  unfold optionsL at h ⊢
  by_cases h1 : (readL [] (b.drop 240)).2 ≠ 0
  · rw [if_pos h1]
  · rw [if_neg h1] at h ⊢
    cases e : findL (readL [] (b.drop 240)).1 52 with
    | none => rw [e] at h; exact absurd rfl h
    | some d => rw [e] at h; exact over_bad h
theorem numAt_lt (b : List UInt8) (i n : Nat) : 0 ≤ numAt b i n ∧ numAt b i n < ((p256 n : Nat) : Int) := by
  unfold numAt
  have h1 := valL_lt (sub b i n)
  have h2 : (sub b i n).length ≤ n := by unfold sub; rw [List.length_take]; omega
  have h3 := p256_le h2
  omega
theorem byteAt_lt (b : List UInt8) (i : Nat) : 0 ≤ byteAt b i ∧ byteAt b i ≤ 255 := by
  unfold byteAt
  have := (b.getD i 0).toNat_lt
  omega
theorem read_rightM {b : List UInt8} (h : (readM b).2 = 0) : RightM (readM b).1 ∧ (readM b).1 = msgOf b (optionsL b).1 ∧ 240 ≤ b.length ∧ b.length ≤ 1500 ∧ sub b 236 4 = cookieL ∧ (optionsL b).2 = 0 := by
  unfold readM at h ⊢
  by_cases h1 : b.length < 240
  · rw [if_pos h1] at h; cases h
  rw [if_neg h1] at h ⊢
  by_cases h2 : 1500 < b.length
  · rw [if_pos h2] at h; cases h
  rw [if_neg h2] at h ⊢
  by_cases h3 : sub b 236 4 ≠ cookieL ∨ 16 < (b.getD 2 0).toNat
  · rw [if_pos h3] at h; cases h
  rw [if_neg h3] at h ⊢
  by_cases h4 : (optionsL b).2 ≠ 0
  · rw [if_pos h4] at h; exact absurd h h4
  rw [if_neg h4]
  have h3' := not_or.1 h3
  have h4' : (optionsL b).2 = 0 := Decidable.not_not.1 h4
  refine ⟨⟨?_, sub_len (by omega), options_good h4'⟩, rfl, by omega, by omega, Decidable.not_not.1 h3'.1, h4'⟩
  have p4 : p256 4 = 4294967296 := by decide
  have p2 : p256 2 = 65536 := by decide
  have n4 := fun i => numAt_lt b i 4
  have n2 := fun i => numAt_lt b i 2
  simp only [p4] at n4
  simp only [p2] at n2
  have hl : byteAt b 2 ≤ 16 := by unfold byteAt; omega
  unfold HeadOk msgOf
  have a0 := byteAt_lt b 0
  have a1 := byteAt_lt b 1
  have a2 := byteAt_lt b 2
  have a3 := byteAt_lt b 3
  have c4 := n4 4
  have c8 := n2 8
  have c10 := n2 10
  have c12 := n4 12
  have c16 := n4 16
  have c20 := n4 20
  have c24 := n4 24
  refine ⟨?_, ?_, ?_, ?_, ?_, ?_, ?_, ?_, ?_, ?_, ?_⟩ <;> (constructor <;> simp only <;> omega)
theorem read_badM {b : List UInt8} (h : (readM b).2 ≠ 0) : (readM b).1 = zeroM := by
  unfold readM at h ⊢
  by_cases h1 : b.length < 240
  · rw [if_pos h1]
  rw [if_neg h1] at h ⊢
  by_cases h2 : 1500 < b.length
  · rw [if_pos h2]
  rw [if_neg h2] at h ⊢
  by_cases h3 : sub b 236 4 ≠ cookieL ∨ 16 < (b.getD 2 0).toNat
  · rw [if_pos h3]
  rw [if_neg h3] at h ⊢
  by_cases h4 : (optionsL b).2 ≠ 0
  · rw [if_pos h4]
  · rw [if_neg h4] at h; exact absurd rfl h

/-! ### Back -/
/-- Bytes that are laid like a message's, with whatever in the two rooms. -/
theorem read_lay {m : M} (h : HeadOk m) (hc : m.ch.length = 16) {name file r : List UInt8} (hn : name.length = 64) (hf : file.length = 128) (hle : 240 + r.length ≤ 1500) {R : List O × Int}
    (hR : (if (readL [] r).2 ≠ 0 then ([], (readL [] r).2) else match findL (readL [] r).1 52 with | none => ((readL [] r).1, 0) | some d => overL (readL [] r).1 d file name) = R) :
    readM (headL m ++ (name ++ (file ++ (cookieL ++ r)))) = if R.2 ≠ 0 then (zeroM, R.2) else ({ m with os := R.1 }, 0) := by
  have hh := head_len hc
  have hck : cookieL.length = 4 := rfl
  have e1 : (headL m ++ (name ++ (file ++ (cookieL ++ r)))).drop 240 = r := by
    have e : headL m ++ (name ++ (file ++ (cookieL ++ r))) = (headL m ++ (name ++ (file ++ cookieL))) ++ r := by simp
    rw [e, List.drop_left' (by simp only [List.length_append, hh, hn, hf, hck])]
  have e2 : sub (headL m ++ (name ++ (file ++ (cookieL ++ r)))) 44 64 = name := sub_mid hh hn
  have e3 : sub (headL m ++ (name ++ (file ++ (cookieL ++ r)))) 108 128 = file := by
    have e : headL m ++ (name ++ (file ++ (cookieL ++ r))) = (headL m ++ name) ++ (file ++ (cookieL ++ r)) := by simp
    rw [e]
    exact sub_mid (by simp only [List.length_append, hh, hn]) hf
  have e4 : sub (headL m ++ (name ++ (file ++ (cookieL ++ r)))) 236 4 = cookieL := by
    have e : headL m ++ (name ++ (file ++ (cookieL ++ r))) = (headL m ++ (name ++ file)) ++ (cookieL ++ r) := by simp
    rw [e]
    exact sub_mid (by simp only [List.length_append, hh, hn, hf]) hck
  have hlen : (headL m ++ (name ++ (file ++ (cookieL ++ r)))).length = 240 + r.length := by
    simp only [List.length_append, hh, hn, hf, hck]
    omega
  have e5 : ((headL m ++ (name ++ (file ++ (cookieL ++ r)))).getD 2 0).toNat ≤ 16 := by
    have : (byteI m.hlen).toNat ≤ 16 := by
      have := byteI_back h.2.2.1.1 (by have := h.2.2.1.2; omega)
      have := h.2.2.1.2
      omega
    exact this
  have eo : optionsL (headL m ++ (name ++ (file ++ (cookieL ++ r)))) = R := by
    unfold optionsL
    rw [e1, e2, e3]
    exact hR
  unfold readM
  rw [hlen, if_neg (by omega), if_neg (by omega), e4, if_neg (by intro k; rcases k with k | k; exact k rfl; omega), eo, msgOf_head h hc]
theorem read_backM {m : M} (h : RightM m) (hle : (bytesM m).length ≤ 1500) : readM (bytesM m) = (m, 0) := by
  obtain ⟨hh, hc, hr, h52⟩ := h
  obtain ⟨k, e⟩ := bytes_lay m
  rw [e] at hle ⊢
  have hrb := read_back hr (List.replicate k 0)
  rw [read_lay hh hc (R := (m.os, 0)) List.length_replicate List.length_replicate]
  · rfl
  · simp only [List.length_append, head_len hc, List.length_replicate] at hle ⊢
    have : cookieL.length = 4 := rfl
    omega
  · rw [hrb]
    simp only [find_of_has h52]
    rfl
/-- Options in the two rooms: those behind the cookie (with overload 3) joined with the file's, then the name's. -/
theorem over_three {l file name : List O} (hl : GoodO l) (hf : GoodO file) (hn : GoodO name) {x y : List UInt8} (k j : Nat) (hx : x = writeL file ++ List.replicate k 0) (hy : y = writeL name ++ List.replicate j 0) :
    overL (l ++ [(52, [3])]) [3] x y = if (joinL l file).2 ≠ 0 then ([], (joinL l file).2) else joinL (joinL l file).1 name := by
  have hw : withoutL (l ++ [(52, [3])]) 52 = l := by
    unfold withoutL
    rw [List.filter_append]
    have e1 : l.filter (fun o => !(o.1 == 52)) = l := by
      rw [List.filter_eq_self]
      intro o ho
      have : o.1 ≠ 52 := fun e => (has_zero.1 hl.2) (by rw [← e]; exact codes_mem ho)
      simpa using this
    rw [e1]
    simp
  have hax : ∀ l', areaL l' x = joinL l' file := fun l' => by
    unfold areaL
    rw [hx, read_back hf.1]
    simp only
    rw [if_neg (by simp), if_neg (by rw [hf.2]; omega)]
  have hay : ∀ l', areaL l' y = joinL l' name := fun l' => by
    unfold areaL
    rw [hy, read_back hn.1]
    simp only
    rw [if_neg (by simp), if_neg (by rw [hn.2]; omega)]
  unfold overL
  simp only
  rw [if_neg (by decide), hw]
  unfold roomsL
  rw [if_pos (by decide), hax]
  split
  · rfl
  · rw [if_pos (by decide), hay]
theorem snoc_right {l : List O} (hl : GoodO l) (h60 : l.length < 60) : rightL (l ++ [(52, [3])]) = true := by
  have := right_joined_new (d := [3]) hl.1 (has_zero.1 hl.2) (by omega) (by omega) h60 (by simp)
  rwa [joined_new (has_zero.1 hl.2)] at this
theorem snoc_find {l : List O} (hl : GoodO l) : findL (l ++ [(52, [3])]) 52 = some [3] := by
  have h := find_hit (l := l ++ [(52, [3])]) (k := l.length) (c := 52) (by simp) (by simp) (by rw [List.take_left]; exact has_zero.1 hl.2)
  simpa using h
theorem read_areas {m : M} (h : RightM m) (h60 : m.os.length < 60) {file name : List O} (hf : GoodO file) (hn : GoodO name) {x y : List UInt8} (k j : Nat) (hx : x = writeL file ++ List.replicate k 0) (hy : y = writeL name ++ List.replicate j 0)
    (hxl : x.length = 128) (hyl : y.length = 64) (p : Nat) (hle : 240 + ((writeL (m.os ++ [(52, [3])])).length + p) ≤ 1500) {R : List O × Int} (hR : R = if (joinL m.os file).2 ≠ 0 then ([], (joinL m.os file).2) else joinL (joinL m.os file).1 name) :
    readM (headL m ++ (y ++ (x ++ (cookieL ++ (writeL (m.os ++ [(52, [3])]) ++ List.replicate p 0))))) = if R.2 ≠ 0 then (zeroM, R.2) else ({ m with os := R.1 }, 0) := by
  obtain ⟨hh, hc, hr, h52⟩ := h
  have hg : GoodO m.os := ⟨hr, h52⟩
  refine read_lay hh hc hyl hxl (by simp only [List.length_append, List.length_replicate]; omega) ?_
  rw [read_back (snoc_right hg h60)]
  simp only
  rw [if_neg (by simp), snoc_find hg]
  simp only
  rw [over_three hg hf hn k j hx hy, hR]
end Go.Proofs.YtabjcgchcnnjjaaGreat.Ms
end
/- Plain facts on numbers, for the layer of addresses and prefixes; no program is spoken of. No conditions. -/
section
namespace Go.Proofs.YtabjcgchcnnjjaaGreat.Ad

/-- How many addresses a prefix of so many bits has. -/
def sz (k : Int) : Int := 2 ^ (32 - k).toNat
def rightB (a : Int) : Bool := decide (0 ≤ a ∧ a ≤ 4294967295)
def bitsB (k : Int) : Bool := decide (0 ≤ k ∧ k ≤ 32)
def fairB (b k : Int) : Bool := bitsB k && rightB b && decide (b % sz k = 0)
def hasB (b k a : Int) : Bool := fairB b k && rightB a && decide (b ≤ a ∧ a < b + sz k)
def meetB (b k c l : Int) : Bool := fairB b k && fairB c l && decide (b ≤ c + sz l - 1 ∧ c ≤ b + sz k - 1)

theorem rightB_iff {a : Int} : rightB a = true ↔ 0 ≤ a ∧ a ≤ 4294967295 := by simp [rightB]
theorem bitsB_iff {a : Int} : bitsB a = true ↔ 0 ≤ a ∧ a ≤ 32 := by simp [bitsB]
theorem fairB_iff {b k : Int} : fairB b k = true ↔ (0 ≤ k ∧ k ≤ 32) ∧ (0 ≤ b ∧ b ≤ 4294967295) ∧ b % sz k = 0 := by
  simp [fairB, rightB, bitsB, and_assoc]
theorem hasB_iff {b k a : Int} : hasB b k a = true ↔ fairB b k = true ∧ (0 ≤ a ∧ a ≤ 4294967295) ∧ (b ≤ a ∧ a < b + sz k) := by
  simp [hasB, rightB, and_assoc]
theorem meetB_iff {b k c l : Int} : meetB b k c l = true ↔ fairB b k = true ∧ fairB c l = true ∧ (b ≤ c + sz l - 1 ∧ c ≤ b + sz k - 1) := by
  simp [meetB, and_assoc]

theorem sz_nat (n : Nat) (h : n ≤ 32) : sz (32 - (n : Int)) = 2 ^ n := by
  unfold sz; congr 1; omega
theorem pow_split (m n : Nat) (h : m ≤ n) : (2 : Int) ^ n = 2 ^ m * 2 ^ (n - m) := by
  rw [← Int.pow_add]; congr 1; omega
theorem sz_pos {k : Int} : 1 ≤ sz k := by
  unfold sz
  have : (0 : Int) < 2 ^ (32 - k).toNat := Int.pow_pos (by omega)
  omega
theorem sz_le {k : Int} (h : 0 ≤ k) : sz k ≤ 4294967296 := by
  unfold sz
  rw [show (4294967296 : Int) = 2 ^ 32 from rfl, pow_split (32 - k).toNat 32 (by omega)]
  have h1 : (0 : Int) < 2 ^ (32 - k).toNat := Int.pow_pos (by omega)
  have h2 : (0 : Int) < 2 ^ (32 - (32 - k).toNat) := Int.pow_pos (by omega)
  have : (2 : Int) ^ (32 - k).toNat * 1 ≤ 2 ^ (32 - k).toNat * 2 ^ (32 - (32 - k).toNat) := Int.mul_le_mul_of_nonneg_left (by omega) (by omega)
  omega
/-- Of two prefixes the one with fewer bits has a multiple of the other one's addresses. -/
theorem sz_dvd {k l : Int} (h : k ≤ l) : sz l ∣ sz k := by
  unfold sz
  rw [pow_split (32 - l).toNat (32 - k).toNat (by omega)]
  exact Int.dvd_mul_right _ _
theorem sz_dvd_top {k : Int} (h : 0 ≤ k) : sz k ∣ 4294967296 := by
  have := sz_dvd (k := 0) (l := k) h
  rwa [show sz 0 = 4294967296 from rfl] at this

/-- A prefix ends within the addresses. -/
theorem last_le {b k : Int} (h : fairB b k = true) : b + sz k ≤ 4294967296 := by
  obtain ⟨⟨k0, k1⟩, ⟨b0, b1⟩, hm⟩ := fairB_iff.1 h
  obtain ⟨t, ht⟩ := sz_dvd_top k0
  obtain ⟨u, hu⟩ := Int.dvd_of_emod_eq_zero hm
  have hp := sz_pos (k := k)
  have : u < t := by
    have : sz k * u < sz k * t := by omega
    exact Int.lt_of_mul_lt_mul_left this (by omega)
  have : sz k * (u + 1) ≤ sz k * t := Int.mul_le_mul_of_nonneg_left (by omega) (by omega)
  rw [Int.mul_add, Int.mul_one] at this
  omega

/-- What the code asks of an address of a prefix, and what the document does. -/
theorem has_code {b k a : Int} (h : fairB b k = true) : (a - a % sz k = b) ↔ (b ≤ a ∧ a < b + sz k) := by
  obtain ⟨_, _, hm⟩ := fairB_iff.1 h
  have hp := sz_pos (k := k)
  obtain ⟨u, hu⟩ := Int.dvd_of_emod_eq_zero hm
  have h1 := Int.emod_nonneg a (b := sz k) (by omega)
  have h2 := Int.emod_lt_of_pos a (b := sz k) (by omega)
  have h3 := Int.emod_add_mul_ediv a (sz k)
  constructor
  · intro e; omega
  · rintro ⟨e1, e2⟩
    have e3 : sz k * u < sz k * (a / sz k + 1) := by rw [Int.mul_add, Int.mul_one]; omega
    have e4 : sz k * (a / sz k) < sz k * (u + 1) := by rw [Int.mul_add, Int.mul_one]; omega
    have e5 := Int.lt_of_mul_lt_mul_left e3 (by omega)
    have e6 := Int.lt_of_mul_lt_mul_left e4 (by omega)
    have e7 : u = a / sz k := by omega
    rw [← e7] at h3
    omega

/-- Two prefixes that meet: the one with fewer bits has all of the other one. -/
theorem nested {b k c l : Int} (hb : fairB b k = true) (hc : fairB c l = true) (hkl : k ≤ l) (h1 : b ≤ c + sz l - 1) (h2 : c ≤ b + sz k - 1) :
    b ≤ c ∧ c + sz l ≤ b + sz k := by
  obtain ⟨_, _, hm⟩ := fairB_iff.1 hb
  obtain ⟨_, _, hn⟩ := fairB_iff.1 hc
  have hp := sz_pos (k := l)
  obtain ⟨t, ht⟩ := sz_dvd hkl
  obtain ⟨u, hu⟩ := Int.dvd_of_emod_eq_zero hm
  obtain ⟨v, hv⟩ := Int.dvd_of_emod_eq_zero hn
  rw [ht, Int.mul_assoc] at hu
  generalize t * u = x at hu
  generalize sz l = z at *
  rw [ht] at h2 ⊢
  subst hu; subst hv
  have e1 : z * x < z * (v + 1) := by rw [Int.mul_add, Int.mul_one]; omega
  have e2 : z * v < z * (x + t) := by rw [Int.mul_add]; omega
  have e3 := Int.lt_of_mul_lt_mul_left e1 (by omega)
  have e4 := Int.lt_of_mul_lt_mul_left e2 (by omega)
  refine ⟨Int.mul_le_mul_of_nonneg_left (by omega) (by omega), ?_⟩
  have : z * (v + 1) ≤ z * (x + t) := Int.mul_le_mul_of_nonneg_left (by omega) (by omega)
  rw [Int.mul_add, Int.mul_add, Int.mul_one] at this
  omega

/-- Two prefixes meet just if one of them has the other one's base. -/
theorem meet_code {b k c l : Int} (hb : fairB b k = true) (hc : fairB c l = true) : (hasB b k c || hasB c l b) = meetB b k c l := by
  obtain ⟨_, ⟨_, _⟩, _⟩ := fairB_iff.1 hb
  obtain ⟨_, ⟨_, _⟩, _⟩ := fairB_iff.1 hc
  have p1 := sz_pos (k := k)
  have p2 := sz_pos (k := l)
  rw [Bool.eq_iff_iff, Bool.or_eq_true, hasB_iff, hasB_iff, meetB_iff]
  constructor
  · rintro (⟨_, _, _, _⟩ | ⟨_, _, _, _⟩) <;> exact ⟨hb, hc, by omega, by omega⟩
  · rintro ⟨_, _, h1, h2⟩
    rcases Int.le_total k l with hkl | hkl
    · have := nested hb hc hkl h1 h2
      exact .inl ⟨hb, ⟨by omega, by omega⟩, by omega, by omega⟩
    · have := nested hc hb hkl h2 h1
      exact .inr ⟨hc, ⟨by omega, by omega⟩, by omega, by omega⟩
end Go.Proofs.YtabjcgchcnnjjaaGreat.Ad
end
/- The mathematics of layer 7 (key): keys, their texts, what is read of a text, the key of a message. No program. -/
section
namespace Go.Proofs.YtabjcgchcnnjjaaGreat.Ky
open Tl Ms

def rightK : List UInt8 → Bool
  | [] => false
  | x :: t => (x == 105 && decide (2 ≤ t.length ∧ t.length ≤ 255)) || (x == 104 && decide (2 ≤ t.length ∧ t.length ≤ 17))
def hexD (n : Nat) : UInt8 := if n < 10 then UInt8.ofNat (48 + n) else UInt8.ofNat (87 + n)
def hexL (t : List UInt8) : List UInt8 := t.flatMap fun b => [hexD (b.toNat / 16), hexD (b.toNat % 16)]
def textK : List UInt8 → List UInt8
  | [] => []
  | x :: t => x :: 45 :: hexL t
/-- What a digit stands for. -/
def digV (c : UInt8) : Option Nat := if 48 ≤ c.toNat ∧ c.toNat ≤ 57 then some (c.toNat - 48) else if 97 ≤ c.toNat ∧ c.toNat ≤ 102 then some (c.toNat - 87) else none
def unhexL : List UInt8 → Option (List UInt8)
  | [] => some []
  | [_] => none
  | a :: b :: r => match digV a, digV b with
    | some u, some v => (unhexL r).map (UInt8.ofNat (16 * u + v) :: ·)
    | _, _ => none
def parseK : List UInt8 → Option (List UInt8)
  | x :: y :: r => if y = 45 then (unhexL r).bind fun t => if rightK (x :: t) = true then some (x :: t) else none else none
  | _ => none

theorem hexL_nil : hexL [] = [] := rfl
theorem hexL_cons (b : UInt8) (t : List UInt8) : hexL (b :: t) = hexD (b.toNat / 16) :: hexD (b.toNat % 16) :: hexL t := by simp [hexL]
theorem hexL_snoc (t : List UInt8) (b : UInt8) : hexL (t ++ [b]) = hexL t ++ [hexD (b.toNat / 16), hexD (b.toNat % 16)] := by simp [hexL]
theorem hexL_len : ∀ t : List UInt8, (hexL t).length = 2 * t.length
  | [] => rfl
  | b :: t => by rw [hexL_cons, List.length_cons, List.length_cons, List.length_cons, hexL_len t]; omega
theorem hexD_nat {n : Nat} (h : n < 16) : (hexD n).toNat = if n < 10 then 48 + n else 87 + n := by
  unfold hexD
  split <;> rw [UInt8.toNat_ofNat'] <;> omega
theorem dig_hex {n : Nat} (h : n < 16) : digV (hexD n) = some n := by
  unfold digV
  rw [hexD_nat h]
  by_cases h1 : n < 10
  · rw [if_pos h1, if_pos (by omega)]
    congr 1
    omega
  · rw [if_neg h1, if_neg (by omega), if_pos (by omega)]
    congr 1
    omega
theorem hex_dig {c : UInt8} {n : Nat} (h : digV c = some n) : n < 16 ∧ hexD n = c := by
  unfold digV at h
  split at h
  · next h1 =>
    injection h with h
    have hn : n < 16 := by omega
    exact ⟨hn, UInt8.toNat_inj.1 (by rw [hexD_nat hn, if_pos (by omega)]; omega)⟩
  · split at h
    · next h1 =>
      injection h with h
      have hn : n < 16 := by omega
      exact ⟨hn, UInt8.toNat_inj.1 (by rw [hexD_nat hn, if_neg (by omega)]; omega)⟩
    · cases h
theorem unhex_hex : ∀ t : List UInt8, unhexL (hexL t) = some t
  | [] => rfl
  | b :: t => by
    have hb := b.toNat_lt
    rw [hexL_cons, unhexL, dig_hex (by omega), dig_hex (by omega)]
    show (unhexL (hexL t)).map _ = _
    rw [unhex_hex t]
    show some (UInt8.ofNat (16 * (b.toNat / 16) + b.toNat % 16) :: t) = some (b :: t)
    rw [show 16 * (b.toNat / 16) + b.toNat % 16 = b.toNat by omega, UInt8.ofNat_toNat]
theorem unhex_cons {a b : UInt8} {r t : List UInt8} (h : unhexL (a :: b :: r) = some t) : ∃ u v t', digV a = some u ∧ digV b = some v ∧ unhexL r = some t' ∧ t = UInt8.ofNat (16 * u + v) :: t' := by
  rw [unhexL] at h
  cases ha : digV a with
  | none => rw [ha] at h; cases h
  | some u =>
    cases hb : digV b with
    | none => rw [ha, hb] at h; cases h
    | some v =>
      rw [ha, hb] at h
      cases hr : unhexL r with
      | none => rw [hr] at h; cases h
      | some t' =>
        rw [hr] at h
        injection h with h
        exact ⟨u, v, t', rfl, rfl, rfl, h.symm⟩
theorem hex_unhex : ∀ {r t : List UInt8}, unhexL r = some t → hexL t = r
  | [], t, h => by injection h with h; subst h; rfl
  | [_], _, h => by cases h
  | a :: b :: r, t, h => by
    obtain ⟨u, v, t', ha, hb, hr, rfl⟩ := unhex_cons h
    obtain ⟨hu, eu⟩ := hex_dig ha
    obtain ⟨hv, ev⟩ := hex_dig hb
    rw [hexL_cons, hex_unhex hr, UInt8.toNat_ofNat', show (16 * u + v) % 2 ^ 8 / 16 = u by omega, show (16 * u + v) % 2 ^ 8 % 16 = v by omega, eu, ev]
theorem right_cons {k : List UInt8} (h : rightK k = true) : ∃ x t, k = x :: t ∧ 2 ≤ t.length ∧ t.length ≤ 255 := by
  match k, h with
  | x :: t, h =>
    unfold rightK at h
    simp only [Bool.or_eq_true, Bool.and_eq_true, decide_eq_true_eq] at h
    exact ⟨x, t, rfl, by omega, by omega⟩
/-- A text is read as k just if it is k's text, and k is right. -/
theorem parse_iff {s k : List UInt8} : parseK s = some k ↔ rightK k = true ∧ textK k = s := by
  constructor
  · intro h
    match s, h with
    | [], h => cases h
    | [_], h => cases h
    | x :: y :: r, h =>
      rw [parseK] at h
      split at h
      · next hy =>
        subst hy
        cases hr : unhexL r with
        | none => rw [hr] at h; cases h
        | some t =>
          rw [hr] at h
          change (if rightK (x :: t) = true then some (x :: t) else none) = some k at h
          split at h
          · next hk =>
            injection h with h
            subst h
            exact ⟨hk, by rw [textK, hex_unhex hr]⟩
          · cases h
      · cases h
  · rintro ⟨hk, rfl⟩
    obtain ⟨x, t, rfl, _, _⟩ := right_cons hk
    rw [textK, parseK, if_pos rfl, unhex_hex]
    show (if rightK (x :: t) = true then some (x :: t) else none) = _
    rw [if_pos hk]
theorem text_len {k : List UInt8} (h : rightK k = true) : (textK k).length = 2 * k.length ∧ 3 ≤ k.length ∧ k.length ≤ 256 := by
  obtain ⟨x, t, rfl, h1, h2⟩ := right_cons h
  rw [textK, List.length_cons, List.length_cons, hexL_len, List.length_cons]
  omega
/-! ### The document's way of reading: what it may be the text of has just this text -/
def valU (c : UInt8) : UInt8 := if 97 ≤ c.toNat then c - 87 else c - 48
def pairsU : List UInt8 → List UInt8
  | a :: b :: r => (valU a * 16 + valU b) :: pairsU r
  | _ => []
theorem val_dig {c : UInt8} {n : Nat} (h : digV c = some n) : valU c = UInt8.ofNat n := by
  unfold digV at h
  unfold valU
  split at h
  · next h1 =>
    injection h with h
    rw [if_neg (by omega)]
    apply UInt8.toNat_inj.1
    rw [UInt8.toNat_sub, UInt8.toNat_ofNat']
    show (2 ^ 8 - 48 + c.toNat) % 2 ^ 8 = n % 2 ^ 8
    omega
  · split at h
    · next h1 =>
      injection h with h
      rw [if_pos (by omega)]
      apply UInt8.toNat_inj.1
      rw [UInt8.toNat_sub, UInt8.toNat_ofNat']
      show (2 ^ 8 - 87 + c.toNat) % 2 ^ 8 = n % 2 ^ 8
      omega
    · cases h
theorem pairs_unhex : ∀ {r t : List UInt8}, unhexL r = some t → pairsU r = t
  | [], t, h => by injection h with h
  | [_], _, h => by cases h
  | a :: b :: r, t, h => by
    obtain ⟨u, v, t', ha, hb, hr, rfl⟩ := unhex_cons h
    obtain ⟨hu, _⟩ := hex_dig ha
    obtain ⟨hv, _⟩ := hex_dig hb
    rw [pairsU, pairs_unhex hr, val_dig ha, val_dig hb]
    congr 1
    apply UInt8.toNat_inj.1
    rw [UInt8.toNat_add, UInt8.toNat_mul, UInt8.toNat_ofNat', UInt8.toNat_ofNat', UInt8.toNat_ofNat']
    show (u % 2 ^ 8 * 16 % 2 ^ 8 + v % 2 ^ 8) % 2 ^ 8 = (16 * u + v) % 2 ^ 8
    omega
/-- The document's Parse, of a text of two letters or more. -/
theorem parse_ref (x y : UInt8) (r : List UInt8) : parseK (x :: y :: r) = if rightK (x :: pairsU r) = true ∧ textK (x :: pairsU r) = x :: y :: r then some (x :: pairsU r) else none := by
  split
  · next h => exact parse_iff.2 h
  · next h =>
    cases hp : parseK (x :: y :: r) with
    | none => rfl
    | some k =>
      exfalso
      obtain ⟨h1, h2⟩ := parse_iff.1 hp
      obtain ⟨x', t, rfl, _, _⟩ := right_cons h1
      rw [textK] at h2
      injection h2 with e1 e2
      injection e2 with e2 e3
      subst e1; subst e3
      rw [pairs_unhex (unhex_hex t)] at h
      exact h ⟨h1, by rw [textK, e2]⟩
theorem parse_short {s : List UInt8} (h : s.length < 4) : parseK s = none := by
  cases hp : parseK s with
  | none => rfl
  | some k =>
    obtain ⟨h1, h2⟩ := parse_iff.1 hp
    have := text_len h1
    rw [h2] at this
    omega
theorem parse_long {s : List UInt8} (h : 512 < s.length) : parseK s = none := by
  cases hp : parseK s with
  | none => rfl
  | some k =>
    obtain ⟨h1, h2⟩ := parse_iff.1 hp
    have := text_len h1
    rw [h2] at this
    omega
theorem parse_odd {s : List UInt8} (h : s.length % 2 = 1) : parseK s = none := by
  cases hp : parseK s with
  | none => rfl
  | some k =>
    obtain ⟨h1, h2⟩ := parse_iff.1 hp
    have := text_len h1
    rw [h2] at this
    omega
/-! ### The key of a message -/
def clientL (m : M) : List UInt8 := (findL m.os 61).getD []
def ofK (m : M) : List UInt8 × Int :=
  if RightM m then (if 255 < (clientL m).length then ([], 3) else if 1 < (clientL m).length then (105 :: clientL m, 0) else if m.hlen = 0 then ([], 5) else (104 :: byteI m.htype :: m.ch.take m.hlen.toNat, 0)) else ([], 1)
theorem of_wrong {m : M} (h : ¬ RightM m) : ofK m = ([], 1) := by unfold ofK; rw [if_neg h]
theorem of_full {m : M} (h : RightM m) (h1 : 255 < (clientL m).length) : ofK m = ([], 3) := by unfold ofK; rw [if_pos h, if_pos h1]
theorem of_client {m : M} (h : RightM m) (h1 : ¬ 255 < (clientL m).length) (h2 : 1 < (clientL m).length) : ofK m = (105 :: clientL m, 0) := by unfold ofK; rw [if_pos h, if_neg h1, if_pos h2]
theorem of_none {m : M} (h : RightM m) (h2 : ¬ 1 < (clientL m).length) (h3 : m.hlen = 0) : ofK m = ([], 5) := by unfold ofK; rw [if_pos h, if_neg (by omega), if_neg h2, if_pos h3]
theorem of_head {m : M} (h : RightM m) (h2 : ¬ 1 < (clientL m).length) (h3 : m.hlen ≠ 0) : ofK m = (104 :: byteI m.htype :: m.ch.take m.hlen.toNat, 0) := by unfold ofK; rw [if_pos h, if_neg (by omega), if_neg h2, if_neg h3]
/-- A key that is told is right. -/
theorem of_right {m : M} (h : (ofK m).2 = 0) : rightK (ofK m).1 = true := by
  by_cases h0 : RightM m
  · by_cases h1 : 255 < (clientL m).length
    · rw [of_full h0 h1] at h; cases h
    · by_cases h2 : 1 < (clientL m).length
      · rw [of_client h0 h1 h2]
        unfold rightK
        simp only [Bool.or_eq_true, Bool.and_eq_true, decide_eq_true_eq]
        exact .inl ⟨rfl, by omega, by omega⟩
      · by_cases h3 : m.hlen = 0
        · rw [of_none h0 h2 h3] at h; cases h
        · rw [of_head h0 h2 h3]
          obtain ⟨hh, hc, _⟩ := h0
          obtain ⟨_, _, ⟨a, b⟩, _⟩ := hh
          unfold rightK
          simp only [Bool.or_eq_true, Bool.and_eq_true, decide_eq_true_eq]
          refine .inr ⟨rfl, ?_, ?_⟩ <;> rw [List.length_cons, List.length_take, hc] <;> omega
  · rw [of_wrong h0] at h; cases h
/-- P7.4: with such an option the key hangs on the options alone. -/
theorem hangs_client {m n : M} (hm : RightM m) (hn : RightM n) (h : 1 < (clientL m).length) : ofK { n with os := m.os } = ofK m := by
  have hx : RightM { n with os := m.os } := ⟨hn.1, hn.2.1, hm.2.2⟩
  have hc : clientL { n with os := m.os } = clientL m := rfl
  by_cases h1 : 255 < (clientL m).length
  · rw [of_full hm h1, of_full hx (by rw [hc]; exact h1)]
  · rw [of_client hm h1 h, of_client hx (by rw [hc]; exact h1) (by rw [hc]; exact h), hc]
/-- P7.4: without it the key hangs on the head alone. -/
theorem hangs_head {m : M} (hm : RightM m) (h : ¬ 1 < (clientL m).length) : ofK { m with os := [] } = ofK m := by
  have hx : RightM { m with os := [] } := ⟨hm.1, hm.2.1, rfl, rfl⟩
  have hc : ¬ 1 < (clientL { m with os := [] }).length := by show ¬ 1 < 0; omega
  by_cases h3 : m.hlen = 0
  · rw [of_none hm h h3, of_none hx hc h3]
  · rw [of_head hm h h3, of_head hx hc h3]
end Go.Proofs.YtabjcgchcnnjjaaGreat.Ky
end
/- The mathematics of layer 13 (conf): configurations, what is wrong with them, what is found in them; and what follows (P13.4; the order of the networks). No program. -/
section
namespace Go.Proofs.YtabjcgchcnnjjaaGreat.Cf
open Ad Ky

structure Pl where
  first : Int
  last : Int
structure Rs where
  key : List UInt8
  addr : Int
structure Sn where
  base : Int
  bits : Int
  pools : List Pl
  res : List Rs
  iface : Int
  router : Int
  time : Int
structure Cf where
  server : Int
  prob : Int
  nets : List (List Sn)

/-! ### Pairs -/
section
variable {α β : Type}
def pairB (p : α → α → Bool) : List α → Bool
  | [] => false
  | a :: l => l.any (fun b => p b a) || pairB p l
theorem pair_iff {p : α → α → Bool} : ∀ {l : List α}, pairB p l = false ↔ l.Pairwise fun a b => p b a = false
  | [] => ⟨fun _ => List.Pairwise.nil, fun _ => rfl⟩
  | a :: l => by rw [pairB, Bool.or_eq_false_iff, pair_iff, List.pairwise_cons, List.any_eq_false]; simp
theorem pair_snoc (p : α → α → Bool) : ∀ (l : List α) (b : α), pairB p (l ++ [b]) = (pairB p l || l.any fun a => p b a)
  | [], b => rfl
  | a :: l, b => by
    rw [List.cons_append, pairB, pair_snoc, pairB, List.any_append, List.any_cons, List.any_cons, List.any_nil, Bool.or_false]
    ac_rfl
theorem pair_app (p : α → α → Bool) (l m : List α) : pairB p (l ++ m) = (pairB p l || (pairB p m || m.any fun b => l.any fun a => p b a)) := by
  induction l with
  | nil => simp [pairB]
  | cons a l ih =>
    rw [List.cons_append, pairB, ih, pairB, List.any_append]
    have : (m.any fun b => (a :: l).any fun a => p b a) = (m.any (fun b => p b a) || m.any fun b => l.any fun a => p b a) := by
      clear ih
      induction m with
      | nil => rfl
      | cons b m ih =>
        rw [List.any_cons, List.any_cons, List.any_cons, List.any_cons, ih]
        ac_rfl
    rw [this]
    ac_rfl
theorem pair_mem {R : α → α → Prop} : ∀ {l : List α}, l.Pairwise R → ∀ {a b}, a ∈ l → b ∈ l → a = b ∨ R a b ∨ R b a
  | c :: l, h, a, b, ha, hb => by
    obtain ⟨h1, h2⟩ := List.pairwise_cons.1 h
    rcases List.mem_cons.1 ha with e | k <;> rcases List.mem_cons.1 hb with f | q
    · exact .inl (e.trans f.symm)
    · exact .inr (.inl (e ▸ h1 b q))
    · exact .inr (.inr (f ▸ h1 a k))
    · exact pair_mem h2 k q
theorem pair_perm {p : α → α → Bool} (sym : ∀ a b, p a b = p b a) {l m : List α} (h : l.Perm m) : pairB p l = pairB p m := by
  have k : pairB p l = false ↔ pairB p m = false := by
    rw [pair_iff, pair_iff]
    exact List.Perm.pairwise_iff (R := fun a b => p b a = false) (fun {x y} hx => by rw [sym]; exact hx) h
  cases hm : pairB p m with
  | false => exact k.2 hm
  | true =>
    cases hl : pairB p l with
    | false => rw [k.1 hl] at hm; cases hm
    | true => rfl
theorem pair_map {p : α → α → Bool} {q : β → β → Bool} (f : α → β) (h : ∀ a b, q (f a) (f b) = p a b) : ∀ l : List α, pairB q (l.map f) = pairB p l
  | [] => rfl
  | a :: l => by
    rw [List.map_cons, pairB, pairB, pair_map f h l, List.any_map]
    congr 1
    exact congrArg (l.any ·) (funext fun b => h b a)
theorem any_perm {p : α → Bool} {l m : List α} (h : l.Perm m) : l.any p = m.any p := by
  rw [Bool.eq_iff_iff, List.any_eq_true, List.any_eq_true]
  exact ⟨fun ⟨x, hx, e⟩ => ⟨x, h.mem_iff.1 hx, e⟩, fun ⟨x, hx, e⟩ => ⟨x, h.mem_iff.2 hx, e⟩⟩
theorem all_mem {p : α → Bool} {l m : List α} (h : ∀ x, x ∈ l ↔ x ∈ m) : l.all p = m.all p := by
  rw [Bool.eq_iff_iff, List.all_eq_true, List.all_eq_true]
  exact ⟨fun k x hx => k x ((h x).2 hx), fun k x hx => k x ((h x).1 hx)⟩
end

/-! ### What is wrong -/
def resF (r : Rs) : Bool := rightK r.key
def poolF (p : Pl) : Bool := decide (p.first ≤ p.last)
def snF (s : Sn) : Bool :=
  fairB s.base s.bits && decide (8 ≤ s.bits ∧ s.bits ≤ 30) && decide (s.pools.length ≤ 4) && decide (s.res.length ≤ 8) &&
    decide (0 ≤ s.iface ∧ s.iface ≤ 99) && decide (1 ≤ s.time ∧ s.time ≤ 2147483648) && s.pools.all poolF && s.res.all resF
def netF (n : List Sn) : Bool := decide (1 ≤ n.length ∧ n.length ≤ 4) && n.all snF
def formC (c : Cf) : Bool := rightB c.server && decide (1 ≤ c.prob ∧ c.prob ≤ 2147483648) && decide (c.nets.length ≤ 4) && c.nets.all netF
def lendsB (s : Sn) (a : Int) : Bool := decide (s.base < a ∧ a < s.base + sz s.bits - 1)
def inPl (p : Pl) (a : Int) : Bool := decide (p.first ≤ a ∧ a ≤ p.last)
def poolO (srv : Int) (s : Sn) (p : Pl) : Bool := lendsB s p.first && lendsB s p.last && !inPl p srv
def resO (srv : Int) (s : Sn) (r : Rs) : Bool := lendsB s r.addr && !decide (r.addr = srv)
def snO (srv : Int) (s : Sn) : Bool := s.pools.all (poolO srv s) && s.res.all (resO srv s) && (decide (s.router = 0) || hasB s.base s.bits s.router)
def placesC (c : Cf) : Bool := c.nets.all fun n => n.all (snO c.server)
/-- All subnets, and of each its network. -/
def flatN : Nat → List (List Sn) → List (Nat × Sn)
  | _, [] => []
  | i, n :: r => n.map (fun s => (i, s)) ++ flatN (i + 1) r
def resN (x : Nat × Sn) : List (Nat × Rs) := x.2.res.map fun r => (x.1, r)
def resA (l : List (Nat × Sn)) : List (Nat × Rs) := l.flatMap resN
def plMeet (p q : Pl) : Bool := decide (p.first ≤ q.last ∧ q.first ≤ p.last)
def snClash (x y : Nat × Sn) : Bool := meetB x.2.base x.2.bits y.2.base y.2.bits || (decide (x.1 ≠ y.1) && decide (0 < x.2.iface) && decide (x.2.iface = y.2.iface))
def rsClash (x y : Nat × Rs) : Bool := decide (x.2.addr = y.2.addr) || (decide (x.1 = y.1) && decide (x.2.key = y.2.key))
def pooledB (s : Sn) : Bool := pairB plMeet s.pools
def twiceL (l : List (Nat × Sn)) : Bool := l.any (fun x => pooledB x.2) || pairB snClash l || pairB rsClash (resA l)
def twiceC (c : Cf) : Bool := twiceL (flatN 0 c.nets)
def checkC (c : Cf) : Int := if formC c = true then (if placesC c = true then (if twiceC c = true then 8 else 0) else 9) else 1
theorem check_ok {c : Cf} : checkC c = 0 ↔ formC c = true ∧ placesC c = true ∧ twiceC c = false := by
  unfold checkC
  by_cases h1 : formC c = true
  · by_cases h2 : placesC c = true
    · by_cases h3 : twiceC c = true
      · simp [h1, h2, h3]
      · simp [h1, h2, h3]
    · simp [h1, h2]
  · simp [h1]

/-! ### What is found -/
def findN (p : Sn → Bool) : Nat → List (List Sn) → Option (Nat × Nat)
  | _, [] => none
  | i, n :: r => match n.findIdx? p with
    | some k => some (i, k)
    | none => findN p (i + 1) r
def ansP : Option (Nat × Nat) → Int × Int × Bool
  | some (i, k) => (i, k, true)
  | none => (0, 0, false)
def findC (c : Cf) (a : Int) : Int × Int × Bool := if checkC c = 0 then ansP (findN (fun s => hasB s.base s.bits a) 0 c.nets) else (0, 0, false)
def wireC (c : Cf) (iface : Int) : Int × Int × Bool := if checkC c = 0 ∧ 1 ≤ iface then ansP (findN (fun s => decide (s.iface = iface)) 0 c.nets) else (0, 0, false)
/-- The network with an index; none, if the configuration isn't valid. -/
def netC (c : Cf) (net : Int) : List Sn := if checkC c = 0 ∧ 0 ≤ net ∧ net < c.nets.length then c.nets.getD net.toNat [] else []
def keptN (n : List Sn) (k : List UInt8) : Option Rs := (n.flatMap fun s => s.res).find? fun r => decide (r.key = k)
def ansA : Option Rs → Int × Bool
  | some r => (r.addr, true)
  | none => (0, false)
def keptC (c : Cf) (net : Int) (k : List UInt8) : Int × Bool := ansA (keptN (netC c net) k)
def ansK : Option Rs → List UInt8 × Bool
  | some r => (r.key, true)
  | none => ([], false)
def keeperN (n : List Sn) (a : Int) : Option Rs := (n.flatMap fun s => s.res).find? fun r => decide (r.addr = a)
def keeperC (c : Cf) (a : Int) : List UInt8 × Bool := if checkC c = 0 then ansK (keeperN c.nets.flatten a) else ([], false)
def pooledN (n : List Sn) (a : Int) : Bool := n.any fun s => s.pools.any fun p => inPl p a
def inPoolC (c : Cf) (net a : Int) : Bool := pooledN (netC c net) a
theorem net_at {c : Cf} {net : Int} {s : Sn} (h : s ∈ netC c net) : checkC c = 0 ∧ ∃ i : Nat, net = i ∧ ∃ hi : i < c.nets.length, s ∈ c.nets[i] := by
  unfold netC at h
  split at h
  · next hh =>
    refine ⟨hh.1, net.toNat, by omega, by omega, ?_⟩
    rw [List.getD_eq_getElem?_getD, List.getElem?_eq_getElem (by omega)] at h
    exact h
  · cases h

/-! ### All subnets -/
theorem mem_flatN {x : Nat × Sn} : ∀ {l : List (List Sn)} {i : Nat}, x ∈ flatN i l ↔ i ≤ x.1 ∧ ∃ h : x.1 - i < l.length, x.2 ∈ l[x.1 - i]
  | [], i => ⟨fun h => (by cases h), fun ⟨_, h, _⟩ => absurd h (Nat.not_lt_zero _)⟩
  | n :: r, i => by
    rw [flatN, List.mem_append, mem_flatN, List.mem_map]
    constructor
    · rintro (⟨s, hs, rfl⟩ | ⟨h1, h2, h3⟩)
      · exact ⟨Nat.le_refl _, by simp, by simpa using hs⟩
      · refine ⟨by omega, by rw [List.length_cons]; omega, ?_⟩
        rw [List.getElem_cons]
        rw [dif_neg (by omega)]
        have e : x.1 - i - 1 = x.1 - (i + 1) := by omega
        simp only [e]
        exact h3
    · rintro ⟨h1, h2, h3⟩
      rw [List.getElem_cons] at h3
      split at h3
      · next h0 => exact .inl ⟨x.2, h3, by rw [show i = x.1 by omega]⟩
      · next h0 =>
        have e : x.1 - i - 1 = x.1 - (i + 1) := by omega
        simp only [e] at h3
        exact .inr ⟨by omega, by rw [List.length_cons] at h2; omega, h3⟩
theorem mem_flat {c : Cf} {i : Nat} {s : Sn} : (i, s) ∈ flatN 0 c.nets ↔ ∃ h : i < c.nets.length, s ∈ c.nets[i] := by
  rw [mem_flatN]
  exact ⟨fun h => h.2, fun h => ⟨Nat.zero_le _, h⟩⟩
theorem find_some {p : Sn → Bool} : ∀ {l : List (List Sn)} {i : Nat} {x : Nat × Nat}, findN p i l = some x → ∃ s, (x.1, s) ∈ flatN i l ∧ p s = true ∧ ∃ n, l[x.1 - i]? = some n ∧ n[x.2]? = some s
  | [], i, x, h => by cases h
  | n :: r, i, x, h => by
    rw [findN] at h
    cases hf : n.findIdx? p with
    | some k =>
      rw [hf] at h
      injection h with h
      obtain ⟨hk, hp, _⟩ := List.findIdx?_eq_some_iff_getElem.1 hf
      rw [← h]
      exact ⟨n[k], List.mem_append_left _ (List.mem_map.2 ⟨n[k], List.getElem_mem hk, rfl⟩), hp, n, by simp, by simp [hk]⟩
    | none =>
      rw [hf] at h
      obtain ⟨s, h1, h2, m, h3, h4⟩ := find_some h
      have := (mem_flatN.1 h1).1
      simp only at this
      refine ⟨s, List.mem_append_right _ h1, h2, m, ?_, h4⟩
      rw [show x.1 - i = (x.1 - (i + 1)) + 1 by omega, List.getElem?_cons_succ]
      exact h3
theorem find_none {p : Sn → Bool} : ∀ {l : List (List Sn)} {i : Nat}, findN p i l = none → ∀ x ∈ flatN i l, p x.2 = false
  | [], i, _, x, hx => by cases hx
  | n :: r, i, h, x, hx => by
    rw [findN] at h
    cases hf : n.findIdx? p with
    | some k => rw [hf] at h; cases h
    | none =>
      rw [hf] at h
      rcases List.mem_append.1 hx with k | k
      · obtain ⟨s, hs, rfl⟩ := List.mem_map.1 k
        exact List.findIdx?_eq_none_iff.1 hf s hs
      · exact find_none h x k

/-! ### P13.4 -/
theorem twice_no {c : Cf} (h : twiceC c = false) : (flatN 0 c.nets).Pairwise (fun x y => snClash y x = false) ∧ (resA (flatN 0 c.nets)).Pairwise (fun x y => rsClash y x = false) ∧ ∀ x ∈ flatN 0 c.nets, pooledB x.2 = false := by
  unfold twiceC twiceL at h
  rw [Bool.or_eq_false_iff, Bool.or_eq_false_iff] at h
  exact ⟨pair_iff.1 h.1.2, pair_iff.1 h.2, by simpa using h.1.1⟩
theorem meet_of {b k d l a : Int} (h1 : hasB b k a = true) (h2 : hasB d l a = true) : meetB b k d l = true := by
  obtain ⟨f1, _, h3⟩ := hasB_iff.1 h1
  obtain ⟨f2, _, h4⟩ := hasB_iff.1 h2
  exact meetB_iff.2 ⟨f1, f2, by omega, by omega⟩
/-- An address is in one subnet at most. -/
theorem one_sn {c : Cf} (h : checkC c = 0) {x y : Nat × Sn} (hx : x ∈ flatN 0 c.nets) (hy : y ∈ flatN 0 c.nets) {a : Int} (ha : hasB x.2.base x.2.bits a = true) (hb : hasB y.2.base y.2.bits a = true) : x = y := by
  rcases pair_mem (twice_no (check_ok.1 h).2.2).1 hx hy with e | k | k
  · exact e
  · unfold snClash at k
    rw [meet_of hb ha] at k
    cases k
  · unfold snClash at k
    rw [meet_of ha hb] at k
    cases k
theorem one_rs {c : Cf} (h : checkC c = 0) {x y : Nat × Rs} (hx : x ∈ resA (flatN 0 c.nets)) (hy : y ∈ resA (flatN 0 c.nets)) (ha : x.2.addr = y.2.addr) : x = y := by
  rcases pair_mem (twice_no (check_ok.1 h).2.2).2.1 hx hy with e | k | k
  · exact e
  · unfold rsClash at k
    rw [decide_eq_true ha.symm] at k
    cases k
  · unfold rsClash at k
    rw [decide_eq_true ha] at k
    cases k
theorem sn_form {c : Cf} (h : checkC c = 0) {x : Nat × Sn} (hx : x ∈ flatN 0 c.nets) : snF x.2 = true ∧ snO c.server x.2 = true := by
  obtain ⟨h1, h2, _⟩ := check_ok.1 h
  obtain ⟨hi, hs⟩ := mem_flat (i := x.1) (s := x.2).1 hx
  unfold formC at h1
  rw [Bool.and_eq_true, List.all_eq_true] at h1
  have h3 := h1.2 _ (List.getElem_mem hi)
  unfold netF at h3
  rw [Bool.and_eq_true, List.all_eq_true] at h3
  unfold placesC at h2
  rw [List.all_eq_true] at h2
  have h4 := h2 _ (List.getElem_mem hi)
  rw [List.all_eq_true] at h4
  exact ⟨h3.2 _ hs, h4 _ hs⟩
theorem sn_fair {s : Sn} (h : snF s = true) : fairB s.base s.bits = true := by
  unfold snF at h
  simp only [Bool.and_eq_true] at h
  exact h.1.1.1.1.1.1.1
theorem lends_has {s : Sn} (hf : fairB s.base s.bits = true) {a : Int} (h : s.base < a ∧ a < s.base + sz s.bits - 1) : hasB s.base s.bits a = true := by
  have hl := last_le hf
  obtain ⟨_, ⟨hb, _⟩, _⟩ := fairB_iff.1 hf
  exact hasB_iff.2 ⟨hf, ⟨by omega, by omega⟩, by omega, by omega⟩
/-- What is in a pool is in its subnet, and is not the server. -/
theorem pool_has {c : Cf} (h : checkC c = 0) {x : Nat × Sn} (hx : x ∈ flatN 0 c.nets) {p : Pl} (hp : p ∈ x.2.pools) {a : Int} (ha : inPl p a = true) : hasB x.2.base x.2.bits a = true ∧ a ≠ c.server := by
  obtain ⟨h1, h2⟩ := sn_form h hx
  unfold snO at h2
  rw [Bool.and_eq_true, Bool.and_eq_true, List.all_eq_true] at h2
  have h3 := h2.1.1 p hp
  unfold poolO at h3
  rw [Bool.and_eq_true, Bool.and_eq_true] at h3
  obtain ⟨⟨h4, h5⟩, h6⟩ := h3
  unfold lendsB at h4 h5
  rw [decide_eq_true_iff] at h4 h5
  unfold inPl at ha h6
  rw [decide_eq_true_iff] at ha
  refine ⟨lends_has (sn_fair h1) ⟨by omega, by omega⟩, fun e => ?_⟩
  rw [← e, decide_eq_true ha] at h6
  cases h6
theorem res_has {c : Cf} (h : checkC c = 0) {x : Nat × Sn} (hx : x ∈ flatN 0 c.nets) {r : Rs} (hr : r ∈ x.2.res) : hasB x.2.base x.2.bits r.addr = true ∧ r.addr ≠ c.server := by
  obtain ⟨h1, h2⟩ := sn_form h hx
  unfold snO at h2
  rw [Bool.and_eq_true, Bool.and_eq_true, List.all_eq_true (l := x.2.res)] at h2
  have h3 := h2.1.2 r hr
  unfold resO at h3
  rw [Bool.and_eq_true] at h3
  obtain ⟨h4, h6⟩ := h3
  unfold lendsB at h4
  rw [decide_eq_true_iff] at h4
  refine ⟨lends_has (sn_fair h1) h4, fun e => ?_⟩
  rw [decide_eq_true e] at h6
  cases h6
/-- What a subnet has is found there. -/
theorem find_has {c : Cf} (h : checkC c = 0) {x : Nat × Sn} (hx : x ∈ flatN 0 c.nets) {a : Int} (ha : hasB x.2.base x.2.bits a = true) : ∃ k : Nat, findC c a = ((x.1 : Int), (k : Int), true) := by
  unfold findC
  rw [if_pos h]
  cases hf : findN (fun s => hasB s.base s.bits a) 0 c.nets with
  | none => rw [find_none hf x hx] at ha; cases ha
  | some y =>
    obtain ⟨s, h1, h2, _⟩ := find_some hf
    have := one_sn h hx h1 ha h2
    exact ⟨y.2, by rw [this]; rfl⟩
theorem keeper_has {c : Cf} (h : checkC c = 0) {x : Nat × Sn} (hx : x ∈ flatN 0 c.nets) {r : Rs} (hr : r ∈ x.2.res) : keeperC c r.addr = (r.key, true) := by
  have hm : ∀ {y : Nat × Sn}, y ∈ flatN 0 c.nets → ∀ q ∈ y.2.res, (y.1, q) ∈ resA (flatN 0 c.nets) := fun {y} hy q hq => List.mem_flatMap.2 ⟨y, hy, List.mem_map.2 ⟨q, hq, rfl⟩⟩
  unfold keeperC
  rw [if_pos h]
  unfold keeperN
  cases hf : ((c.nets.flatten.flatMap fun s => s.res).find? fun q => decide (q.addr = r.addr)) with
  | none =>
    rw [List.find?_eq_none] at hf
    obtain ⟨hi, hs⟩ := mem_flat (i := x.1) (s := x.2).1 hx
    exact absurd (by simp) (hf r (List.mem_flatMap.2 ⟨x.2, List.mem_flatten.2 ⟨_, List.getElem_mem hi, hs⟩, hr⟩))
  | some q =>
    have h1 := List.mem_of_find?_eq_some hf
    have h2 : q.addr = r.addr := by simpa using List.find?_some hf
    obtain ⟨s, hs, hq⟩ := List.mem_flatMap.1 h1
    obtain ⟨n, hn, hs⟩ := List.mem_flatten.1 hs
    obtain ⟨i, hi, rfl⟩ := List.mem_iff_getElem.1 hn
    have hy : (i, s) ∈ flatN 0 c.nets := mem_flat.2 ⟨hi, hs⟩
    have := one_rs h (hm hx r hr) (hm hy q hq) h2.symm
    have : r = q := congrArg Prod.snd this
    rw [← this]
    rfl
/-- P13.4, of pools. -/
theorem pool_one {c : Cf} {net a : Int} (h : inPoolC c net a = true) : (∃ k : Nat, findC c a = (net, (k : Int), true)) ∧ a ≠ c.server ∧ ∀ other, other ≠ net → inPoolC c other a = false := by
  unfold inPoolC pooledN at h
  rw [List.any_eq_true] at h
  obtain ⟨s, hs, h⟩ := h
  rw [List.any_eq_true] at h
  obtain ⟨p, hp, h⟩ := h
  obtain ⟨hc, i, rfl, hi⟩ := net_at hs
  have hx : (i, s) ∈ flatN 0 c.nets := mem_flat.2 hi
  obtain ⟨h1, h2⟩ := pool_has hc hx hp h
  refine ⟨find_has hc hx h1, h2, fun other ho => ?_⟩
  unfold inPoolC pooledN
  rw [List.any_eq_false]
  intro t ht k
  rw [List.any_eq_true] at k
  obtain ⟨q, hq, k⟩ := k
  obtain ⟨_, j, rfl, hj⟩ := net_at ht
  have hy : (j, t) ∈ flatN 0 c.nets := mem_flat.2 hj
  have := one_sn hc hx hy h1 (pool_has hc hy hq k).1
  have : i = j := congrArg Prod.fst this
  exact ho (by rw [this])
/-- P13.4, of what is reserved. -/
theorem kept_one {c : Cf} {net : Int} {k : List UInt8} (h : (keptC c net k).2 = true) : (∃ j : Nat, findC c (keptC c net k).1 = (net, (j : Int), true)) ∧ keeperC c (keptC c net k).1 = (k, true) ∧ (keptC c net k).1 ≠ c.server := by
  unfold keptC at h ⊢
  cases hf : keptN (netC c net) k with
  | none => rw [hf] at h; cases h
  | some r =>
    unfold keptN at hf
    have h1 := List.mem_of_find?_eq_some hf
    have h2 : r.key = k := by simpa using List.find?_some hf
    obtain ⟨s, hs, hr⟩ := List.mem_flatMap.1 h1
    obtain ⟨hc, i, rfl, hi⟩ := net_at hs
    have hx : (i, s) ∈ flatN 0 c.nets := mem_flat.2 hi
    obtain ⟨h3, h4⟩ := res_has hc hx hr
    have h5 := keeper_has hc hx hr
    rw [h2] at h5
    exact ⟨find_has hc hx h3, h5, h4⟩
theorem keeper_one {c : Cf} {a : Int} (h : (keeperC c a).2 = true) : (findC c a).2.2 = true := by
  unfold keeperC at h
  split at h
  · next hc =>
    cases hf : keeperN c.nets.flatten a with
    | none => rw [hf] at h; cases h
    | some q =>
      unfold keeperN at hf
      have h1 := List.mem_of_find?_eq_some hf
      have h2 : q.addr = a := by simpa using List.find?_some hf
      obtain ⟨s, hs, hq⟩ := List.mem_flatMap.1 h1
      obtain ⟨n, hn, hs⟩ := List.mem_flatten.1 hs
      obtain ⟨i, hi, rfl⟩ := List.mem_iff_getElem.1 hn
      have hy : (i, s) ∈ flatN 0 c.nets := mem_flat.2 ⟨hi, hs⟩
      have h3 := (res_has hc hy hq).1
      rw [h2] at h3
      obtain ⟨k, e⟩ := find_has hc hy h3
      rw [e]
  · cases h

/-! ### The networks in another order -/
def swapN (i k m : Nat) : Nat := if m = i then k else if m = k then i else m
theorem swap_swap (i k m : Nat) : swapN i k (swapN i k m) = m := by
  unfold swapN
  split <;> split <;> (try split) <;> omega
theorem swap_inj {i k m n : Nat} (h : swapN i k m = swapN i k n) : m = n := by rw [← swap_swap i k m, h, swap_swap]
theorem swap_lt {i k m n : Nat} (hi : i < n) (hk : k < n) (hm : m < n) : swapN i k m < n := by
  unfold swapN
  split
  · exact hk
  · split <;> assumption
def swapL (l : List (List Sn)) (i k : Nat) : List (List Sn) := (l.set i (l.getD k [])).set k (l.getD i [])
theorem swap_len (l : List (List Sn)) (i k : Nat) : (swapL l i k).length = l.length := by unfold swapL; simp
theorem swap_at {l : List (List Sn)} {i k : Nat} (hi : i < l.length) (hk : k < l.length) (m : Nat) : (swapL l i k).getD m [] = l.getD (swapN i k m) [] := by
  unfold swapL swapN
  simp only [List.getD_eq_getElem?_getD]
  rw [List.getElem?_set, List.length_set, List.getElem?_set]
  by_cases h1 : k = m
  · rw [if_pos h1, if_pos (by omega)]
    by_cases h2 : m = i
    · rw [if_pos h2, show i = k by omega]; rfl
    · rw [if_neg h2, if_pos h1.symm]; rfl
  · rw [if_neg h1]
    by_cases h2 : i = m
    · rw [if_pos h2, if_pos hi, if_pos h2.symm]; rfl
    · rw [if_neg h2, if_neg (by omega), if_neg (by omega)]
theorem mem_swap {l : List (List Sn)} {i k : Nat} (hi : i < l.length) (hk : k < l.length) (x : List Sn) : x ∈ swapL l i k ↔ x ∈ l := by
  have go : ∀ {l : List (List Sn)}, x ∈ l ↔ ∃ m, m < l.length ∧ l.getD m [] = x := fun {l} => by
    rw [List.mem_iff_getElem]
    constructor
    · rintro ⟨m, hm, e⟩
      exact ⟨m, hm, by rw [List.getD_eq_getElem?_getD, List.getElem?_eq_getElem hm]; exact e⟩
    · rintro ⟨m, hm, e⟩
      exact ⟨m, hm, by rw [List.getD_eq_getElem?_getD, List.getElem?_eq_getElem hm] at e; exact e⟩
  rw [go, go, swap_len]
  constructor
  · rintro ⟨m, hm, e⟩
    exact ⟨swapN i k m, swap_lt hi hk hm, by rw [← swap_at hi hk]; exact e⟩
  · rintro ⟨m, hm, e⟩
    exact ⟨swapN i k m, swap_lt hi hk hm, by rw [swap_at hi hk, swap_swap]; exact e⟩
def rowN (l : List (List Sn)) (m : Nat) : List (Nat × Sn) := (l.getD m []).map fun s => (m, s)
theorem flat_range : ∀ (l : List (List Sn)) (i : Nat), flatN i l = (List.range l.length).flatMap fun m => (l.getD m []).map fun s => (i + m, s)
  | [], _ => rfl
  | n :: r, i => by
    rw [flatN, flat_range r (i + 1), List.length_cons, List.range_succ_eq_map, List.flatMap_cons, List.flatMap_map]
    congr 1
    refine congrArg (List.flatMap · _) (funext fun m => ?_)
    show ((r.getD m []).map fun s => (i + 1 + m, s)) = (r.getD m []).map fun s => (i + (m + 1), s)
    rw [show i + 1 + m = i + (m + 1) by omega]
theorem flat_rows (l : List (List Sn)) : flatN 0 l = (List.range l.length).flatMap (rowN l) := by
  rw [flat_range]
  refine congrArg (List.flatMap · _) (funext fun m => ?_)
  unfold rowN
  rw [Nat.zero_add]
theorem range_swap {i k n : Nat} (hi : i < n) (hk : k < n) : ((List.range n).map (swapN i k)).Perm (List.range n) := by
  refine (List.perm_ext_iff_of_nodup ?_ List.nodup_range).2 fun m => ?_
  · exact List.Pairwise.map (swapN i k) (fun a b h e => h (swap_inj e)) List.nodup_range
  · rw [List.mem_map, List.mem_range]
    constructor
    · rintro ⟨q, hq, rfl⟩
      exact swap_lt hi hk (List.mem_range.1 hq)
    · intro hm
      exact ⟨swapN i k m, List.mem_range.2 (swap_lt hi hk hm), swap_swap i k m⟩
/-- All subnets, with the networks in another order: the same, but for their networks' numbers. -/
theorem flat_swap {l : List (List Sn)} {i k : Nat} (hi : i < l.length) (hk : k < l.length) : ((flatN 0 l).map fun x => (swapN i k x.1, x.2)).Perm (flatN 0 (swapL l i k)) := by
  have h1 : ((flatN 0 l).map fun x => (swapN i k x.1, x.2)) = ((List.range l.length).map (swapN i k)).flatMap (rowN (swapL l i k)) := by
    rw [flat_rows, List.map_flatMap, List.flatMap_map]
    refine congrArg (List.flatMap · _) (funext fun m => ?_)
    unfold rowN
    rw [swap_at hi hk, swap_swap, List.map_map]
    rfl
  rw [h1, flat_rows (swapL l i k), swap_len]
  exact List.Perm.flatMap_right _ (range_swap hi hk)
theorem res_swap {i k : Nat} : ∀ l : List (Nat × Sn), resA (l.map fun x => (swapN i k x.1, x.2)) = (resA l).map fun x => (swapN i k x.1, x.2)
  | [] => rfl
  | a :: l => by
    unfold resA
    rw [List.map_cons, List.flatMap_cons, List.flatMap_cons, List.map_append]
    congr 1
    · unfold resN
      rw [List.map_map]
      rfl
    · exact res_swap l
theorem meet_sym (b k d l : Int) : meetB b k d l = meetB d l b k := by
  rw [Bool.eq_iff_iff, meetB_iff, meetB_iff]
  exact ⟨fun ⟨a, b, c, d⟩ => ⟨b, a, d, c⟩, fun ⟨a, b, c, d⟩ => ⟨b, a, d, c⟩⟩
theorem sn_sym (x y : Nat × Sn) : snClash x y = snClash y x := by
  unfold snClash
  rw [meet_sym, Bool.eq_iff_iff]
  simp only [Bool.or_eq_true, Bool.and_eq_true, decide_eq_true_iff]
  constructor
  · rintro (h | ⟨⟨h1, h2⟩, h3⟩)
    · exact .inl h
    · exact .inr ⟨⟨fun e => h1 e.symm, by omega⟩, h3.symm⟩
  · rintro (h | ⟨⟨h1, h2⟩, h3⟩)
    · exact .inl h
    · exact .inr ⟨⟨fun e => h1 e.symm, by omega⟩, h3.symm⟩
theorem rs_sym (x y : Nat × Rs) : rsClash x y = rsClash y x := by
  unfold rsClash
  rw [Bool.eq_iff_iff]
  simp only [Bool.or_eq_true, Bool.and_eq_true, decide_eq_true_iff]
  constructor
  · rintro (h | ⟨h1, h2⟩)
    · exact .inl h.symm
    · exact .inr ⟨h1.symm, h2.symm⟩
  · rintro (h | ⟨h1, h2⟩)
    · exact .inl h.symm
    · exact .inr ⟨h1.symm, h2.symm⟩
theorem swap_dec {i k m n : Nat} : decide (swapN i k m = swapN i k n) = decide (m = n) := by
  rw [decide_eq_decide]
  exact ⟨swap_inj, fun e => by rw [e]⟩
theorem twice_swap {l : List (List Sn)} {i k : Nat} (hi : i < l.length) (hk : k < l.length) : twiceL (flatN 0 (swapL l i k)) = twiceL (flatN 0 l) := by
  have hp := flat_swap hi hk
  unfold twiceL
  have hq : (resA ((flatN 0 l).map fun x => (swapN i k x.1, x.2))).Perm (resA (flatN 0 (swapL l i k))) := List.Perm.flatMap_right resN hp
  rw [← any_perm hp, ← pair_perm sn_sym hp, ← pair_perm rs_sym hq, res_swap, List.any_map]
  rw [pair_map (p := snClash) (q := snClash) (fun x : Nat × Sn => (swapN i k x.1, x.2)) fun a b => by
    unfold snClash
    simp only [ne_eq, decide_not, swap_dec]]
  rw [pair_map (p := rsClash) (q := rsClash) (fun x : Nat × Rs => (swapN i k x.1, x.2)) fun a b => by
    unfold rsClash
    simp only [swap_dec]]
  rfl
/-- What is wrong with a configuration doesn't hang on the order of its networks. -/
theorem check_swap (c : Cf) {i k : Nat} (hi : i < c.nets.length) (hk : k < c.nets.length) : checkC ⟨c.server, c.prob, swapL c.nets i k⟩ = checkC c := by
  have h1 : formC ⟨c.server, c.prob, swapL c.nets i k⟩ = formC c := by
    unfold formC
    simp only
    rw [swap_len, all_mem (mem_swap hi hk)]
  have h2 : placesC ⟨c.server, c.prob, swapL c.nets i k⟩ = placesC c := by
    unfold placesC
    simp only
    rw [all_mem (mem_swap hi hk)]
  have h3 : twiceC ⟨c.server, c.prob, swapL c.nets i k⟩ = twiceC c := twice_swap hi hk
  unfold checkC
  rw [h1, h2, h3]
end Go.Proofs.YtabjcgchcnnjjaaGreat.Cf
end
/- The mathematics of layer 18 (reply): a reply and its options; it is right and fits a packet (P18.3), what comes back (P18.4), what it tells (P18.5). No program. -/
section
namespace Go.Proofs.YtabjcgchcnnjjaaGreat.Rp
open Tl Co Ms Cf Ad

def asksL (l : List O) (c : Int) : Bool := (findL l 55).isNone || ((findL l 55).getD []).any fun x => (x.toNat : Int) == c
def echoL (l : List O) (c : Int) : List O :=
  match findL l c with
  | none => []
  | some d => [(c, d)]
def ifL (p : Bool) (c : Int) (d : List UInt8) : List O := if p = true then [(c, d)] else []
def optsR (srv : Int) (s : Sn) (l : List O) (kind yi : Int) : List O :=
  [((53 : Int), [byteI kind])] ++ ([((54 : Int), numB srv 4)] ++ (ifL (!decide (kind = 6) && decide (0 < yi)) 51 (numB s.time 4) ++
    (ifL (!decide (kind = 6) && asksL l 1) 1 (numB (4294967296 - sz s.bits) 4) ++ (ifL (!decide (kind = 6) && (asksL l 3 && decide (0 < s.router))) 3 (numB s.router 4) ++ (echoL l 61 ++ echoL l 82)))))
def flagsR (m : M) (kind : Int) : Int := if kind = 6 ∧ m.gi ≠ 0 ∧ m.flags < 32768 then m.flags + 32768 else m.flags
def makeR (srv : Int) (s : Sn) (m : M) (kind yi : Int) : M :=
  ⟨2, m.htype, m.hlen, 0, m.xid, 0, flagsR m kind, if kind = 5 then m.ci else 0, if kind = 6 then 0 else yi, 0, m.gi, m.ch, optsR srv s m.os kind yi⟩
/-- May there be such a reply? -/
def fairR (c : Cf) (net sub : Int) (m : M) (kind yi : Int) : Bool :=
  decide (checkC c = 0) && (decide (0 ≤ net ∧ net < c.nets.length) && (decide (0 ≤ sub ∧ sub < (c.nets.getD net.toNat []).length) && (rightM m && (rightB yi && decide (kind = 2 ∨ kind = 5 ∨ kind = 6)))))

/-! ### What is found -/
theorem find_app (l m : List O) (c : Int) : findL (l ++ m) c = (findL l c).or (findL m c) := by
  unfold findL
  rw [List.find?_append]
  cases List.find? (fun o : O => o.1 == c) l <;> rfl
theorem find_one (k c : Int) (d : List UInt8) : findL [(k, d)] c = if k = c then some d else none := by
  unfold findL
  by_cases h : k = c
  · rw [if_pos h, List.find?_cons_of_pos (by simp [h])]; rfl
  · rw [if_neg h, List.find?_cons_of_neg (by simp [h])]; rfl
theorem find_cons (k c : Int) (d : List UInt8) (l : List O) : findL ((k, d) :: l) c = if k = c then some d else findL l c := by
  have := find_app [(k, d)] l c
  rw [find_one] at this
  rw [show (k, d) :: l = [(k, d)] ++ l from rfl, this]
  split <;> rfl
theorem find_if (p : Bool) (k c : Int) (d : List UInt8) : findL (ifL p k d) c = if p = true ∧ k = c then some d else none := by
  unfold ifL
  cases p with
  | false => simp [findL]
  | true => simp [find_one]
theorem find_echo (l : List O) (k c : Int) : findL (echoL l k) c = if k = c then findL l k else none := by
  unfold echoL
  cases h : findL l k with
  | none => simp [findL]
  | some d => simp [find_one]
theorem find_82 (srv : Int) (s : Sn) (l : List O) (kind yi : Int) : findL (optsR srv s l kind yi) 82 = findL l 82 := by
  unfold optsR
  simp [find_app, find_cons, find_if, find_echo]
theorem find_61 (srv : Int) (s : Sn) (l : List O) (kind yi : Int) : findL (optsR srv s l kind yi) 61 = findL l 61 := by
  unfold optsR
  simp [find_app, find_cons, find_if, find_echo]
theorem find_53 (srv : Int) (s : Sn) (l : List O) (kind yi : Int) : findL (optsR srv s l kind yi) 53 = some [byteI kind] := by
  unfold optsR
  simp [find_cons]
theorem find_54 (srv : Int) (s : Sn) (l : List O) (kind yi : Int) : findL (optsR srv s l kind yi) 54 = some (numB srv 4) := by
  unfold optsR
  simp [find_cons]
theorem find_51 (srv : Int) (s : Sn) (l : List O) (kind yi : Int) : findL (optsR srv s l kind yi) 51 = if kind ≠ 6 ∧ 0 < yi then some (numB s.time 4) else none := by
  unfold optsR
  simp [find_app, find_cons, find_if, find_echo]
theorem find_52 (srv : Int) (s : Sn) (l : List O) (kind yi : Int) : findL (optsR srv s l kind yi) 52 = none := by
  unfold optsR
  simp [find_app, find_cons, find_if, find_echo]

/-! ### It is right -/
theorem codes_if (p : Bool) (k : Int) (d : List UInt8) : (codesL (ifL p k d)).Sublist [k] := by
  unfold ifL
  cases p with
  | false => exact List.nil_sublist _
  | true => exact List.Sublist.refl _
theorem codes_echo (l : List O) (k : Int) : (codesL (echoL l k)).Sublist [k] := by
  unfold echoL
  cases findL l k with
  | none => exact List.nil_sublist _
  | some d => exact List.Sublist.refl _
theorem codes_opts (srv : Int) (s : Sn) (l : List O) (kind yi : Int) : (codesL (optsR srv s l kind yi)).Sublist [53, 54, 51, 1, 3, 61, 82] := by
  unfold optsR
  simp only [codes_app]
  exact (List.Sublist.refl [(53 : Int)]).append ((List.Sublist.refl [(54 : Int)]).append ((codes_if _ 51 _).append ((codes_if _ 1 _).append ((codes_if _ 3 _).append ((codes_echo l 61).append (codes_echo l 82))))))
theorem mem_if {p : Bool} {k : Int} {d : List UInt8} {o : O} (h : o ∈ ifL p k d) : o.2 = d := by
  unfold ifL at h
  cases p with
  | false => exact absurd h (by simp)
  | true => rcases List.mem_singleton.1 (by simpa using h) with rfl; rfl
theorem find_len {l : List O} (h : rightL l = true) {c : Int} {d : List UInt8} (hf : findL l c = some d) : d.length ≤ 600 := by
  unfold findL at hf
  obtain ⟨o, ho, e⟩ := Option.map_eq_some_iff.1 hf
  exact e ▸ (right_fit h (List.mem_of_find?_eq_some ho)).2.2
theorem mem_echo {l : List O} (h : rightL l = true) {k : Int} {o : O} (ho : o ∈ echoL l k) : o.2.length ≤ 600 := by
  unfold echoL at ho
  cases hf : findL l k with
  | none => rw [hf] at ho; cases ho
  | some d =>
    rw [hf] at ho
    rcases List.mem_singleton.1 ho with rfl
    exact find_len h hf
theorem opts_small {l : List O} (h : rightL l = true) (srv : Int) (s : Sn) (kind yi : Int) : ∀ o ∈ optsR srv s l kind yi, o.2.length ≤ 600 := by
  intro o ho
  unfold optsR at ho
  simp only [List.mem_append] at ho
  rcases ho with ho | ho | ho | ho | ho | ho | ho
  · rcases List.mem_singleton.1 ho with rfl; simp
  · rcases List.mem_singleton.1 ho with rfl; simp [numB_len]
  · rw [mem_if ho, numB_len]; omega
  · rw [mem_if ho, numB_len]; omega
  · rw [mem_if ho, numB_len]; omega
  · exact mem_echo h ho
  · exact mem_echo h ho
theorem opts_right {l : List O} (h : rightL l = true) (srv : Int) (s : Sn) (kind yi : Int) : rightL (optsR srv s l kind yi) = true := by
  have hs := codes_opts srv s l kind yi
  refine (right_iff _).2 ⟨?_, fun o ho => ?_, hs.nodup (by decide)⟩
  · have := hs.length_le
    rw [codes_len] at this
    simp only [List.length_cons, List.length_nil] at this
    omega
  · have hc := hs.subset (codes_mem ho)
    simp only [List.mem_cons, List.not_mem_nil, or_false] at hc
    exact ⟨by omega, by omega, opts_small h srv s kind yi o ho⟩
theorem opts_52 (srv : Int) (s : Sn) (l : List O) (kind yi : Int) : hasL (optsR srv s l kind yi) 52 = 0 := by
  refine has_zero.2 fun hm => ?_
  have hc := (codes_opts srv s l kind yi).subset hm
  simp at hc
theorem make_right {m : M} (h : RightM m) (srv : Int) (s : Sn) {kind yi : Int} (hy : rightB yi = true) : RightM (makeR srv s m kind yi) := by
  obtain ⟨⟨h1, h2, h3, h4, h5, h6, h7, h8, h9, h10, h11⟩, hc, ho, _⟩ := h
  have hy' := rightB_iff.1 hy
  refine ⟨⟨by show (0 : Int) ≤ 2 ∧ (2 : Int) ≤ 255; omega, h2, h3, by show (0 : Int) ≤ 0 ∧ (0 : Int) ≤ 255; omega, h5, by show (0 : Int) ≤ 0 ∧ (0 : Int) ≤ 65535; omega, ?_, ?_, ?_, by show (0 : Int) ≤ 0 ∧ (0 : Int) ≤ 4294967295; omega, h11⟩, hc, opts_right ho srv s kind yi, opts_52 srv s m.os kind yi⟩
  · show 0 ≤ flagsR m kind ∧ flagsR m kind ≤ 65535
    unfold flagsR
    split <;> omega
  · show 0 ≤ (if kind = 5 then m.ci else 0) ∧ (if kind = 5 then m.ci else 0) ≤ 4294967295
    split <;> omega
  · show 0 ≤ (if kind = 6 then 0 else yi) ∧ (if kind = 6 then 0 else yi) ≤ 4294967295
    split <;> omega

/-! ### It fits a packet -/
theorem one_len3 {c : Int} {d : List UInt8} (h : d.length ≤ 600) : (oneL c d).length ≤ d.length + 6 := by
  by_cases h1 : d.length ≤ 255
  · rw [one_small h1]; simp
  · rw [one_big (by omega)]
    by_cases h2 : (d.drop 255).length ≤ 255
    · rw [one_small h2]
      simp only [List.length_cons, List.length_append, List.length_take, List.length_drop]
      rw [List.length_drop] at h2
      omega
    · rw [one_big (by omega)]
      rw [List.length_drop] at h2
      have h3 : ((d.drop 255).drop 255).length ≤ 255 := by rw [List.length_drop, List.length_drop]; omega
      rw [one_small h3]
      simp only [List.length_cons, List.length_append, List.length_take, List.length_drop]
      omega
theorem body_one (o : O) : bodyL [o] = oneL o.1 o.2 := by simp [bodyL]
theorem body_if (p : Bool) (k v : Int) : (bodyL (ifL p k (numB v 4))).length ≤ 6 := by
  unfold ifL
  cases p with
  | false => simp [bodyL]
  | true =>
    simp only [if_true, body_one]
    rw [one_small (by rw [numB_len]; omega)]
    simp [numB_len]
theorem body_echo {l : List O} (h : rightL l = true) (k : Int) : (bodyL (echoL l k)).length ≤ 606 := by
  unfold echoL
  cases hf : findL l k with
  | none => simp [bodyL]
  | some d =>
    simp only [body_one]
    have h1 := find_len h hf
    have := one_len3 (c := k) h1
    omega
theorem opts_len {l : List O} (h : rightL l = true) (srv : Int) (s : Sn) (kind yi : Int) : (writeL (optsR srv s l kind yi)).length ≤ 1240 := by
  unfold writeL optsR
  simp only [body_app, List.length_append, body_one]
  have h1 : (oneL 53 [byteI kind]).length = 3 := by rw [one_small (by simp)]; rfl
  have h2 : (oneL 54 (numB srv 4)).length = 6 := by rw [one_small (by rw [numB_len]; omega)]; simp [numB_len]
  have h3 := body_if (!decide (kind = 6) && decide (0 < yi)) 51 s.time
  have h4 := body_if (!decide (kind = 6) && asksL l 1) 1 (4294967296 - sz s.bits)
  have h5 := body_if (!decide (kind = 6) && (asksL l 3 && decide (0 < s.router))) 3 s.router
  have h6 := body_echo h 61
  have h7 := body_echo h 82
  simp only [List.length_cons, List.length_nil]
  omega
theorem make_len {m : M} (h : RightM m) (srv : Int) (s : Sn) (kind yi : Int) : (bytesM (makeR srv s m kind yi)).length ≤ 1500 := by
  have h1 : (bodyM (makeR srv s m kind yi)).length = 240 + (writeL (optsR srv s m.os kind yi)).length := body_lenM (m := makeR srv s m kind yi) h.2.1
  have h2 := opts_len h.2.2.1 srv s kind yi
  unfold bytesM padL
  rw [List.length_append, List.length_replicate]
  omega
/-- P18.3: written and read, it is the reply. -/
theorem make_back {m : M} (h : RightM m) (srv : Int) (s : Sn) {kind yi : Int} (hy : rightB yi = true) : readM (bytesM (makeR srv s m kind yi)) = (makeR srv s m kind yi, 0) :=
  read_backM (make_right h srv s hy) (make_len h srv s kind yi)

/-! ### What it tells -/
theorem num_told {v : Int} (h : rightB v = true) : ((valL (numB v 4) : Nat) : Int) = v := by
  have := rightB_iff.1 h
  have p4 : p256 4 = 4294967296 := by decide
  exact num_back this.1 (by omega)
theorem kind_told {kind : Int} (h : kind = 2 ∨ kind = 5 ∨ kind = 6) : ((valL [byteI kind] : Nat) : Int) = kind := by
  rcases h with rfl | rfl | rfl <;> rfl
/-- What the places of a configuration that may be are. -/
theorem sub_of {c : Cf} (h : checkC c = 0) {n : List Sn} (hn : n ∈ c.nets) {s : Sn} (hs : s ∈ n) : rightB c.server = true ∧ snF s = true ∧ snO c.server s = true := by
  obtain ⟨h1, h2, _⟩ := check_ok.1 h
  simp only [formC, Bool.and_eq_true, decide_eq_true_eq] at h1
  have h3 := List.all_eq_true.1 h1.2 n hn
  simp only [netF, Bool.and_eq_true] at h3
  exact ⟨h1.1.1.1, List.all_eq_true.1 h3.2 s hs, List.all_eq_true.1 (List.all_eq_true.1 h2 n hn) s hs⟩
theorem time_of {s : Sn} (h : snF s = true) : rightB s.time = true := by
  simp only [snF, Bool.and_eq_true, decide_eq_true_eq] at h
  exact rightB_iff.2 ⟨by omega, by omega⟩
theorem router_of {srv : Int} {s : Sn} (h : snO srv s = true) : rightB s.router = true := by
  simp only [snO, Bool.and_eq_true, Bool.or_eq_true, decide_eq_true_eq] at h
  rcases h.2 with h | h
  · exact rightB_iff.2 ⟨by omega, by omega⟩
  · exact rightB_iff.2 (hasB_iff.1 h).2.1
theorem mask_of {s : Sn} (h : snF s = true) : rightB (4294967296 - sz s.bits) = true := by
  simp only [snF, Bool.and_eq_true, decide_eq_true_eq] at h
  have h1 := sz_pos (k := s.bits)
  have h2 := sz_le (k := s.bits) (by omega)
  exact rightB_iff.2 ⟨by omega, by omega⟩
end Go.Proofs.YtabjcgchcnnjjaaGreat.Rp
end
/- The mathematics of how conf's Check asks: of all subnets in a row. No program. -/
section
namespace Go.Proofs.YtabjcgchcnnjjaaGreat.Cf
open Ad Ky

theorem any_or {α : Type} (f g : α → Bool) : ∀ l : List α, (l.any fun a => f a || g a) = (l.any f || l.any g)
  | [] => rfl
  | a :: l => by
    rw [List.any_cons, List.any_cons, List.any_cons, any_or f g l]
    cases f a <;> cases g a <;> cases l.any f <;> rfl
theorem not_all {α : Type} (f : α → Bool) : ∀ l : List α, (!l.all f) = l.any fun a => !f a
  | [] => rfl
  | a :: l => by rw [List.all_cons, List.any_cons, Bool.not_and, not_all f l]
def spanB (t : Int) : Bool := decide (1 ≤ t ∧ t ≤ 2147483648)
def sizeN (n : List Sn) : Bool := decide (1 ≤ n.length ∧ n.length ≤ 4)
def wrongC (c : Cf) : Bool := !rightB c.server || !spanB c.prob || decide (4 < c.nets.length) || c.nets.any fun n => !sizeN n
def strayB (s : Sn) : Bool := (!decide (s.router = 0) && !hasB s.base s.bits s.router) || (s.pools.any fun p => !lendsB s p.first || !lendsB s p.last) || s.res.any fun r => !lendsB s r.addr
def takesB (s : Sn) (a : Int) : Bool := (s.pools.any fun p => inPl p a) || s.res.any fun r => decide (r.addr = a)
theorem flat_any (f : Sn → Bool) : ∀ (l : List (List Sn)) (i : Nat), ((flatN i l).any fun x => f x.2) = l.any fun n => n.any f
  | [], _ => rfl
  | n :: r, i => by rw [flatN, List.any_append, flat_any f r, List.any_map, List.any_cons]; rfl
theorem out_code (s : Sn) (srv : Int) : (strayB s || takesB s srv) = !snO srv s := by
  unfold strayB takesB snO
  rw [Bool.not_and, Bool.not_and, not_all, not_all]
  have h1 : (s.pools.any fun a => !poolO srv s a) = ((s.pools.any fun p => !lendsB s p.first || !lendsB s p.last) || s.pools.any fun p => inPl p srv) := by
    rw [← any_or]
    refine congrArg (s.pools.any ·) (funext fun p => ?_)
    unfold poolO
    rw [Bool.not_and, Bool.not_and, Bool.not_not]
  have h2 : (s.res.any fun a => !resO srv s a) = ((s.res.any fun r => !lendsB s r.addr) || s.res.any fun r => decide (r.addr = srv)) := by
    rw [← any_or]
    refine congrArg (s.res.any ·) (funext fun r => ?_)
    unfold resO
    rw [Bool.not_and, Bool.not_not]
  rw [h1, h2, Bool.not_or]
  ac_rfl
theorem form_code (c : Cf) : (!formC c) = (wrongC c || (flatN 0 c.nets).any fun x => !snF x.2) := by
  rw [flat_any fun s => !snF s]
  unfold formC wrongC
  rw [Bool.not_and, Bool.not_and, Bool.not_and, not_all]
  have h1 : (c.nets.any fun a => !netF a) = ((c.nets.any fun n => !sizeN n) || c.nets.any fun n => n.any fun s => !snF s) := by
    rw [← any_or]
    refine congrArg (c.nets.any ·) (funext fun n => ?_)
    unfold netF sizeN
    rw [Bool.not_and, not_all]
  have h2 : (!decide (c.nets.length ≤ 4)) = decide (4 < c.nets.length) := by
    rw [← decide_not, decide_eq_decide]
    omega
  rw [h1, h2, ← Bool.or_assoc]
  rfl
theorem places_code (c : Cf) : (!placesC c) = (flatN 0 c.nets).any fun x => strayB x.2 || takesB x.2 c.server := by
  rw [flat_any fun s => strayB s || takesB s c.server]
  unfold placesC
  rw [not_all]
  refine congrArg (c.nets.any ·) (funext fun n => ?_)
  rw [not_all]
  exact congrArg (n.any ·) (funext fun s => (out_code s c.server).symm)
theorem twice_code (l : List (Nat × Sn)) : (pairB snClash l || pairB rsClash (resA l) || l.any fun x => pooledB x.2) = twiceL l := by
  unfold twiceL
  ac_rfl
end Go.Proofs.YtabjcgchcnnjjaaGreat.Cf
end
/- The mathematics of boarderlaw13's Great: how much of a configuration is looked at. No program. -/
section
namespace Go.Proofs.YtabjcgchcnnjjaaGreat.Cf

def greatS (s : Sn) : Bool := decide (20 < s.pools.length) || decide (20 < s.res.length) || s.res.any fun r => decide (1000 < r.key.length)
def greatN (n : List Sn) : Bool := decide (10 < n.length) || n.any greatS
def greatC (c : Cf) : Bool := decide (10 < c.nets.length) || c.nets.any greatN
structure Small (c : Cf) : Prop where
  nets : c.nets.length ≤ 10
  sns : ∀ n ∈ c.nets, n.length ≤ 10
  pools : ∀ n ∈ c.nets, ∀ s ∈ n, s.pools.length ≤ 20
  res : ∀ n ∈ c.nets, ∀ s ∈ n, s.res.length ≤ 20
  keys : ∀ n ∈ c.nets, ∀ s ∈ n, ∀ r ∈ s.res, r.key.length ≤ 1000
theorem small_iff {c : Cf} : greatC c = false ↔ Small c := by
  unfold greatC greatN greatS
  simp only [Bool.or_eq_false_iff, decide_eq_false_iff_not, List.any_eq_false, Bool.not_eq_true, Nat.not_lt]
  constructor
  · rintro ⟨h1, h2⟩
    exact ⟨h1, fun n hn => (h2 n hn).1, fun n hn s hs => ((h2 n hn).2 s hs).1.1, fun n hn s hs => ((h2 n hn).2 s hs).1.2, fun n hn s hs r hr => ((h2 n hn).2 s hs).2 r hr⟩
  · rintro ⟨h1, h2, h3, h4, h5⟩
    exact ⟨h1, fun n hn => ⟨h2 n hn, fun s hs => ⟨⟨h3 n hn s hs, h4 n hn s hs⟩, fun r hr => h5 n hn s hs r hr⟩⟩⟩
end Go.Proofs.YtabjcgchcnnjjaaGreat.Cf
end
