/- Plain mathematics of layer 2: numbers in bytes, the CRC-32 bit by bit, and that a burst of at most 32 bits turns it. No program. No conditions but those that each theorem names. -/
import Derived.Below
namespace Go.Proofs.Ytoobijefjljnjaa.Co

/-! ### Numbers in bytes -/
def byteV (v : Nat) : UInt8 := UInt8.ofNat (v % 256)
theorem byteV_toNat (v : Nat) : (byteV v).toNat = v % 256 := by
  unfold byteV
  rw [UInt8.toNat_ofNat']
  omega
/-- 256 to the n-th. -/
def p256 (n : Nat) : Nat := 256 ^ n
theorem p256_succ (n : Nat) : p256 (n + 1) = p256 n * 256 := Nat.pow_succ 256 n
theorem p256_le {m n : Nat} (h : m ≤ n) : p256 m ≤ p256 n := Nat.pow_le_pow_right (by omega) h
theorem p256_two (n : Nat) : p256 n = 2 ^ (8 * n) := by
  have h : (2 : Nat) ^ 8 = 256 := by decide
  unfold p256
  rw [Nat.pow_mul, h]
def putL : Nat → Nat → List UInt8
  | _, 0 => []
  | v, n + 1 => putL (v / 256) n ++ [byteV v]
theorem putL_length : ∀ (n v : Nat), (putL v n).length = n
  | 0, _ => rfl
  | n + 1, v => by simp [putL, putL_length n]
def valL (l : List UInt8) : Nat := l.foldl (fun a b => a * 256 + b.toNat) 0
theorem valL_snoc (l : List UInt8) (b : UInt8) : valL (l ++ [b]) = valL l * 256 + b.toNat := by simp [valL]
theorem valL_nil : valL [] = 0 := rfl
theorem valL_putL : ∀ (n v : Nat), v < p256 n → valL (putL v n) = v
  | 0, v, h => by simp [p256] at h; subst h; rfl
  | n + 1, v, h => by
    rw [putL, valL_snoc, valL_putL n (v / 256) (by rw [p256_succ] at h; omega), byteV_toNat]
    omega
theorem foldl_val_lt : ∀ (l : List UInt8) (a : Nat), l.foldl (fun a b => a * 256 + b.toNat) a < (a + 1) * 256 ^ l.length
  | [], a => by simp
  | b :: l, a => by
    simp only [List.foldl_cons, List.length_cons]
    have h := foldl_val_lt l (a * 256 + b.toNat)
    have hb := b.toNat_lt
    refine Nat.lt_of_lt_of_le h ?_
    rw [Nat.pow_succ, Nat.mul_comm (256 ^ l.length) 256, ← Nat.mul_assoc]
    exact Nat.mul_le_mul_right _ (by omega)
theorem valL_lt (l : List UInt8) : valL l < p256 l.length := by
  unfold valL p256
  simpa using foldl_val_lt l 0
theorem putL_valL : ∀ (n : Nat) (l : List UInt8), l.length = n → putL (valL l) n = l
  | 0, l, h => by simp [List.length_eq_zero_iff.1 h, putL]
  | n + 1, l, h => by
    obtain ⟨r, b, rfl⟩ : ∃ r b, l = r ++ [b] := ⟨l.dropLast, l.getLast (by intro e; simp [e] at h), (List.dropLast_concat_getLast _).symm⟩
    have hb := b.toNat_lt
    rw [valL_snoc, putL, show (valL r * 256 + b.toNat) / 256 = valL r by omega, putL_valL n r (by simpa using h)]
    congr 1
    unfold byteV
    rw [show (valL r * 256 + b.toNat) % 256 = b.toNat by omega, UInt8.ofNat_toNat]

theorem putL_cons : ∀ (k v : Nat), putL v (k + 1) = byteV (v / p256 k) :: putL v k
  | 0, v => by simp [putL, p256]
  | k + 1, v => by
    rw [putL, putL_cons k (v / 256), Nat.div_div_eq_div_mul, Nat.mul_comm 256, ← p256_succ]
    rfl
/-- Bytes that were noughts, the last k of them written. -/
def partL (v n k : Nat) : List UInt8 := List.replicate (n - k) 0 ++ putL v k
theorem partL_length {v n k : Nat} (h : k ≤ n) : (partL v n k).length = n := by simp [partL, putL_length]; omega
theorem partL_next {v n k : Nat} (h : k < n) : (partL v n k).set (n - 1 - k) (byteV (v / p256 k)) = partL v n (k + 1) := by
  unfold partL
  rw [putL_cons, show n - k = (n - (k + 1)) + 1 by omega, List.replicate_succ', List.append_assoc, List.set_append_right _ _ (by simp; omega)]
  simp
  rw [show n - 1 - k - (n - (k + 1)) = 0 by omega]
  rfl
theorem partL_all (v n : Nat) : partL v n n = putL v n := by simp [partL]

/-! ### The CRC-32 -/
theorem xor_cancel {a b c : Nat} (h : a ^^^ b = a ^^^ c) : b = c := by
  have := congrArg (a ^^^ ·) h
  simpa only [← Nat.xor_assoc, Nat.xor_self, Nat.zero_xor] using this
theorem xor_cancel' {a b c : Nat} (h : b ^^^ a = c ^^^ a) : b = c := xor_cancel (a := a) (by rw [Nat.xor_comm, h, Nat.xor_comm])
theorem xor_even (x y : Nat) : (x ^^^ 2 * y) % 2 = x % 2 := by
  have h := @Nat.xor_mod_two_eq_one x (2 * y)
  have : 2 * y % 2 = 0 := by omega
  simp only [this] at h
  by_cases e : x % 2 = 1
  · rw [e]; exact h.2 (by simp [e])
  · have h1 : ¬ (x ^^^ 2 * y) % 2 = 1 := fun k => (h.1 k) (by simp [e])
    omega
def polyN : Nat := 0xedb88320
def stepN (c : Nat) : Nat := if c % 2 = 1 then (c / 2) ^^^ polyN else c / 2
def stepsN : Nat → Nat → Nat
  | 0, c => c
  | n + 1, c => stepsN n (stepN c)
theorem stepsN_add : ∀ (m n c : Nat), stepsN (m + n) c = stepsN n (stepsN m c)
  | 0, n, c => by rw [Nat.zero_add]; rfl
  | m + 1, n, c => by
    rw [show m + 1 + n = (m + n) + 1 by omega]
    exact stepsN_add m n (stepN c)
theorem stepsN_succ (n c : Nat) : stepsN (n + 1) c = stepN (stepsN n c) := stepsN_add n 1 c
theorem stepN_lt (c : Nat) (h : c < 4294967296) : stepN c < 4294967296 := by
  unfold stepN
  split
  · exact Nat.xor_lt_two_pow (n := 32) (by omega) (by decide)
  · omega
theorem stepsN_lt : ∀ (n c : Nat), c < 4294967296 → stepsN n c < 4294967296
  | 0, _, h => h
  | n + 1, c, h => stepsN_lt n _ (stepN_lt c h)
theorem stepN_xor2 (x y : Nat) : stepN (x ^^^ 2 * y) = stepN x ^^^ y := by
  have h1 := xor_even x y
  have h2 : (x ^^^ 2 * y) / 2 = x / 2 ^^^ y := by
    rw [Nat.xor_div_two]
    congr 1
    omega
  unfold stepN
  rw [h1, h2]
  split
  · rw [Nat.xor_assoc, Nat.xor_comm y, Nat.xor_assoc]
  · rfl
theorem stepN_top (c : Nat) (h : c < 4294967296) : (stepN c).testBit 31 = decide (c % 2 = 1) := by
  have h31 : (c / 2).testBit 31 = false := Nat.testBit_lt_two_pow (by omega)
  unfold stepN
  split
  · next e => rw [Nat.testBit_xor, h31]; simp [e, polyN, Nat.testBit]
  · next e => rw [h31]; simp [e]
theorem stepN_inj {a b : Nat} (ha : a < 4294967296) (hb : b < 4294967296) (h : stepN a = stepN b) : a = b := by
  have ht := stepN_top a ha
  rw [h, stepN_top b hb] at ht
  have hm : a % 2 = 1 ↔ b % 2 = 1 := by
    exact (decide_eq_decide.1 ht).symm
  have hd : a / 2 = b / 2 := by
    unfold stepN at h
    by_cases e : a % 2 = 1
    · rw [if_pos e, if_pos (hm.1 e)] at h
      exact xor_cancel' h
    · rw [if_neg e, if_neg (fun k => e (hm.2 k))] at h
      exact h
  omega
theorem stepsN_inj : ∀ (n : Nat) {a b : Nat}, a < 4294967296 → b < 4294967296 → stepsN n a = stepsN n b → a = b
  | 0, _, _, _, _, h => h
  | n + 1, _, _, ha, hb, h => stepN_inj ha hb (stepsN_inj n (stepN_lt _ ha) (stepN_lt _ hb) h)
/-- The sum's state behind bytes. -/
def crcFrom (c : Nat) (l : List UInt8) : Nat := l.foldl (fun c b => stepsN 8 (c ^^^ b.toNat)) c
def sumL (l : List UInt8) : Nat := crcFrom 4294967295 l ^^^ 4294967295
theorem xor_byte_lt (c : Nat) (b : UInt8) (h : c < 4294967296) : c ^^^ b.toNat < 4294967296 :=
  Nat.xor_lt_two_pow (n := 32) (by omega) (by have := b.toNat_lt; omega)
theorem crcFrom_lt : ∀ (l : List UInt8) (c : Nat), c < 4294967296 → crcFrom c l < 4294967296
  | [], _, h => h
  | b :: l, c, h => crcFrom_lt l _ (stepsN_lt 8 _ (xor_byte_lt c b h))
theorem crcFrom_snoc (c : Nat) (l : List UInt8) (b : UInt8) : crcFrom c (l ++ [b]) = stepsN 8 (crcFrom c l ^^^ b.toNat) := by simp [crcFrom]
theorem sumL_lt (l : List UInt8) : sumL l < 4294967296 := Nat.xor_lt_two_pow (n := 32) (by have := crcFrom_lt l 4294967295 (by omega); omega) (by omega)
theorem xor_ones {a b : Nat} (h : a ^^^ 4294967295 = b ^^^ 4294967295) : a = b := xor_cancel' h

/-! ### Bit by bit -/
def bitN (b : Bool) : Nat := if b then 1 else 0
def run1 (f : Nat → Bool) : Nat → Nat → Nat → Nat
  | _, 0, d => d
  | p, n + 1, d => run1 f (p + 1) n (stepN (d ^^^ bitN (f p)))
def numF (f : Nat → Bool) : Nat → Nat → Nat
  | _, 0 => 0
  | p, n + 1 => bitN (f p) ^^^ 2 * numF f (p + 1) n
theorem numF_lt (f : Nat → Bool) : ∀ (n p : Nat), numF f p n < 2 ^ n
  | 0, _ => by simp [numF]
  | n + 1, p => by
    have := numF_lt f n (p + 1)
    unfold numF
    refine Nat.xor_lt_two_pow ?_ (by rw [Nat.pow_succ]; omega)
    have : 0 < 2 ^ n := Nat.two_pow_pos n
    unfold bitN
    rw [Nat.pow_succ]
    split <;> omega
theorem run1_steps (f : Nat → Bool) : ∀ (n p d : Nat), run1 f p n d = stepsN n (d ^^^ numF f p n)
  | 0, _, d => by simp [run1, stepsN, numF]
  | n + 1, p, d => by
    unfold run1 numF stepsN
    rw [run1_steps f n, ← Nat.xor_assoc, stepN_xor2]
theorem run1_add (f : Nat → Bool) : ∀ (m n p d : Nat), run1 f p (m + n) d = run1 f (p + m) n (run1 f p m d)
  | 0, n, p, d => by simp [run1]
  | m + 1, n, p, d => by
    rw [show m + 1 + n = (m + n) + 1 by omega]
    show run1 f (p + 1) (m + n) _ = run1 f (p + (m + 1)) n (run1 f (p + 1) m _)
    rw [run1_add f m n, show p + 1 + m = p + (m + 1) by omega]
theorem bitN_lt (b : Bool) : bitN b < 4294967296 := by unfold bitN; split <;> omega
theorem run1_lt (f : Nat → Bool) : ∀ (n p d : Nat), d < 4294967296 → run1 f p n d < 4294967296
  | 0, _, _, h => h
  | n + 1, p, d, h => run1_lt f n _ _ (stepN_lt _ (Nat.xor_lt_two_pow (n := 32) (by omega) (by have := bitN_lt (f p); omega)))
theorem run1_inj (f : Nat → Bool) : ∀ (n p : Nat) {a b : Nat}, a < 4294967296 → b < 4294967296 → run1 f p n a = run1 f p n b → a = b
  | 0, _, _, _, _, _, h => h
  | n + 1, p, a, b, ha, hb, h => by
    have hx : ∀ x, x < 4294967296 → x ^^^ bitN (f p) < 4294967296 := fun x hx => Nat.xor_lt_two_pow (n := 32) (by omega) (by have := bitN_lt (f p); omega)
    have h1 := run1_inj f n (p + 1) (stepN_lt _ (hx a ha)) (stepN_lt _ (hx b hb)) h
    exact xor_cancel' (stepN_inj (hx a ha) (hx b hb) h1)
theorem run1_congr {f g : Nat → Bool} : ∀ (n p d : Nat), (∀ i, i < n → f (p + i) = g (p + i)) → run1 f p n d = run1 g p n d
  | 0, _, _, _ => rfl
  | n + 1, p, d, h => by
    unfold run1
    have h0 := h 0 (by omega)
    rw [Nat.add_zero] at h0
    rw [h0]
    exact run1_congr n (p + 1) _ fun i hi => by
      have := h (i + 1) (by omega)
      rwa [show p + 1 + i = p + (i + 1) by omega]
theorem numF_inj {f g : Nat → Bool} : ∀ (n p : Nat), numF f p n = numF g p n → ∀ i, i < n → f (p + i) = g (p + i)
  | 0, _, _, _, hi => by omega
  | n + 1, p, h, i, hi => by
    unfold numF at h
    have h1 := congrArg (· % 2) h
    have h2 := congrArg (· / 2) h
    simp only [xor_even, Nat.xor_div_two] at h1 h2
    have e0 : f p = g p := by
      unfold bitN at h1
      cases hf : f p <;> cases hg : g p <;> simp [hf, hg] at h1 ⊢
    have e1 : numF f (p + 1) n = numF g (p + 1) n := by
      rw [e0] at h2
      have := xor_cancel h2
      omega
    match i with
    | 0 => simpa using e0
    | i + 1 =>
      have := numF_inj n (p + 1) e1 i (by omega)
      rwa [show p + 1 + i = p + (i + 1) by omega] at this
/-- Bits of two streams that differ within 32 places at most: the same state behind them only if they are the same. -/
theorem burst {f g : Nat → Bool} {N first k c : Nat} (hc : c < 4294967296) (hk : k ≤ 32) (hN : first + k ≤ N) (hout : ∀ p, p < first ∨ first + k ≤ p → f p = g p)
    (h : run1 f 0 N c = run1 g 0 N c) : ∀ p, f p = g p := by
  have e : N = first + (k + (N - first - k)) := by omega
  rw [e, run1_add f, run1_add g, run1_add f, run1_add g] at h
  simp only [Nat.zero_add] at h
  have e1 : run1 f 0 first c = run1 g 0 first c := run1_congr first 0 c fun i hi => hout _ (by omega)
  rw [e1] at h
  generalize hd : run1 g 0 first c = d at h
  have hdl : d < 4294967296 := by rw [← hd]; exact run1_lt g _ _ _ hc
  have e2 : ∀ x, run1 f (first + k) (N - first - k) x = run1 g (first + k) (N - first - k) x := fun x => run1_congr _ _ x fun i _ => hout _ (by omega)
  rw [e2] at h
  have e3 := run1_inj g _ _ (run1_lt f k first d hdl) (run1_lt g k first d hdl) h
  rw [run1_steps, run1_steps] at e3
  have hn : ∀ (u : Nat → Bool), numF u first k < 4294967296 := fun u => Nat.lt_of_lt_of_le (numF_lt u k first) (by
    have := Nat.pow_le_pow_right (n := 2) (by omega) hk
    simpa using this)
  have hx : ∀ (u : Nat → Bool), d ^^^ numF u first k < 4294967296 := fun u => Nat.xor_lt_two_pow (n := 32) (by omega) (by have := hn u; omega)
  have e4 := xor_cancel (stepsN_inj k (hx f) (hx g) e3)
  intro p
  by_cases hp : p < first ∨ first + k ≤ p
  · exact hout p hp
  · have := numF_inj k first e4 (p - first) (by omega)
    rwa [show first + (p - first) = p by omega] at this

/-! ### Bytes as bits, the lowest one of a byte first -/
def bt (l : List UInt8) (p : Nat) : Bool := (l.getD (p / 8) 0).toNat.testBit (p % 8)
theorem numF_byte : ∀ (n x p : Nat) (f : Nat → Bool), x < 2 ^ n → (∀ i, i < n → f (p + i) = x.testBit i) → numF f p n = x
  | 0, x, _, _, h, _ => by simp at h; simp [numF, h]
  | n + 1, x, p, f, h, hf => by
    have h0 := hf 0 (by omega)
    rw [Nat.add_zero] at h0
    have ih := numF_byte n (x / 2) (p + 1) f (by rw [Nat.pow_succ] at h; omega) fun i hi => by
      have := hf (i + 1) (by omega)
      rw [show p + 1 + i = p + (i + 1) by omega, this, Nat.testBit_succ]
    unfold numF
    rw [ih, h0]
    unfold bitN
    apply Nat.eq_of_testBit_eq
    intro i
    rw [Nat.testBit_xor]
    cases i with
    | zero =>
      rw [Nat.testBit_zero, Nat.testBit_zero, Nat.testBit_zero]
      by_cases e : x % 2 = 1 <;> simp [e] 
    | succ i =>
      rw [Nat.testBit_succ, Nat.testBit_succ, Nat.testBit_succ, show 2 * (x / 2) / 2 = x / 2 by omega]
      split <;> simp
theorem crc_bits : ∀ (l : List UInt8) (c : Nat), crcFrom c l = run1 (bt l) 0 (8 * l.length) c := by
  intro l
  suffices h : ∀ (n : Nat), n ≤ l.length → ∀ c, crcFrom c (l.take n) = run1 (bt l) 0 (8 * n) c by
    intro c
    have := h l.length (Nat.le_refl _) c
    rwa [List.take_length] at this
  intro n
  induction n with
  | zero => intro _ c; simp [crcFrom, run1]
  | succ n ih =>
    intro hn c
    rw [List.take_succ_eq_append_getElem (by omega), crcFrom_snoc, ih (by omega), show 8 * (n + 1) = 8 * n + 8 by omega, run1_add, run1_steps (bt l) 8]
    congr 2
    rw [Nat.zero_add]
    symm
    apply numF_byte 8 _ _ _ (by have := (l[n]).toNat_lt; omega)
    intro i hi
    unfold bt
    rw [show (8 * n + i) / 8 = n by omega, show (8 * n + i) % 8 = i by omega, List.getD_eq_getElem?_getD, List.getElem?_eq_getElem (by omega), Option.getD_some]
theorem bt_ext {a b : List UInt8} (hl : a.length = b.length) (h : ∀ p, bt a p = bt b p) : a = b := by
  apply List.ext_getElem hl
  intro i h1 h2
  apply UInt8.toNat_inj.1
  apply Nat.eq_of_testBit_eq
  intro s
  by_cases hs : s < 8
  · have := h (8 * i + s)
    unfold bt at this
    rw [show (8 * i + s) / 8 = i by omega, show (8 * i + s) % 8 = s by omega] at this
    simpa [List.getD_eq_getElem?_getD, h1, h2] using this
  · rw [Nat.testBit_lt_two_pow (Nat.lt_of_lt_of_le (a[i]).toNat_lt (Nat.pow_le_pow_right (n := 2) (by omega) (by omega : 8 ≤ s))), Nat.testBit_lt_two_pow (Nat.lt_of_lt_of_le (b[i]).toNat_lt (Nat.pow_le_pow_right (n := 2) (by omega) (by omega : 8 ≤ s)))]
/-- P2.7's mathematics: bytes that differ within 32 consecutive bits have different sums. -/
theorem sum_burst {a b : List UInt8} {first : Nat} (hl : a.length = b.length) (hout : ∀ p, p < first ∨ first + 32 ≤ p → bt a p = bt b p) (h : sumL a = sumL b) : a = b := by
  have h1 := xor_ones h
  rw [crc_bits, crc_bits, hl] at h1
  by_cases hf : first ≤ 8 * b.length
  · have hz : ∀ p, 8 * b.length ≤ p → bt a p = bt b p := by
      intro p hp
      unfold bt
      rw [List.getD_eq_getElem?_getD, List.getD_eq_getElem?_getD, List.getElem?_eq_none (by omega), List.getElem?_eq_none (by omega)]
    have hk : ∃ k, k ≤ 32 ∧ first + k ≤ 8 * b.length ∧ ∀ p, p < first ∨ first + k ≤ p → bt a p = bt b p := by
      by_cases e : first + 32 ≤ 8 * b.length
      · exact ⟨32, Nat.le_refl _, e, hout⟩
      · exact ⟨8 * b.length - first, by omega, by omega, fun p hp => hp.elim (fun h => hout p (.inl h)) (fun h => hz p (by omega))⟩
    obtain ⟨k, hk1, hk2, hk3⟩ := hk
    exact bt_ext hl (burst (by omega) hk1 hk2 hk3 h1)
  · refine bt_ext hl fun p => ?_
    by_cases hp : p < first
    · exact hout p (.inl hp)
    · unfold bt
      rw [List.getD_eq_getElem?_getD, List.getD_eq_getElem?_getD, List.getElem?_eq_none (by omega), List.getElem?_eq_none (by omega)]

/-! ### Frames -/
def frameL (l : List UInt8) : List UInt8 := putL l.length 2 ++ (putL (sumL l) 4 ++ l)
theorem frameL_length (l : List UInt8) : (frameL l).length = l.length + 6 := by simp [frameL, putL_length]; omega
/-- What Open answers: the error, and how many bytes the frame holds. -/
def openE (b : List UInt8) : Nat :=
  if b.length < 6 then 4 else if 2000 < valL (b.take 2) then 2 else if b.length < 6 + valL (b.take 2) then 4 else
  if sumL ((b.drop 6).take (valL (b.take 2))) = valL ((b.drop 2).take 4) then 0 else 6
def heldL (b : List UInt8) : List UInt8 := (b.drop 6).take (valL (b.take 2))
theorem frame_parts (l r : List UInt8) (h : l.length ≤ 2000) :
    valL ((frameL l ++ r).take 2) = l.length ∧ valL (((frameL l ++ r).drop 2).take 4) = sumL l ∧ ((frameL l ++ r).drop 6).take l.length = l := by
  have h2 := putL_length 2 l.length
  have h4 := putL_length 4 (sumL l)
  have hs := sumL_lt l
  refine ⟨?_, ?_, ?_⟩
  · rw [frameL, List.append_assoc, List.take_append_of_le_length (by omega), List.take_of_length_le (by omega), valL_putL 2 _ (by show _ < 65536; omega)]
  · rw [frameL, List.append_assoc, List.drop_append_of_le_length (by omega), List.drop_eq_nil_of_le (by omega), List.nil_append, List.append_assoc, List.take_append_of_le_length (by omega), List.take_of_length_le (by omega), valL_putL 4 _ (by show _ < 4294967296; omega)]
  · rw [frameL, List.append_assoc, List.append_assoc, ← List.append_assoc, List.drop_append, List.drop_eq_nil_of_le (by simp; omega), List.nil_append, List.length_append, h2, h4, Nat.sub_self, List.drop_zero, List.take_append_of_le_length (by omega), List.take_length]
theorem open_frame (l r : List UInt8) (h : l.length ≤ 2000) : openE (frameL l ++ r) = 0 ∧ heldL (frameL l ++ r) = l := by
  obtain ⟨h1, h2, h3⟩ := frame_parts l r h
  have hl := frameL_length l
  unfold openE heldL
  rw [h1, h2, h3, List.length_append, hl]
  refine ⟨?_, rfl⟩
  rw [if_neg (by omega), if_neg (by omega), if_neg (by omega), if_pos rfl]
/-- A beginning of a frame, not the whole: more is wanted. -/
theorem open_part (l : List UInt8) (k : Nat) (h : l.length ≤ 2000) (hk : k < l.length + 6) : openE ((frameL l).take k) = 4 := by
  have hl := frameL_length l
  have hlen : ((frameL l).take k).length = k := by rw [List.length_take]; omega
  unfold openE
  rw [hlen]
  by_cases h6 : k < 6
  · rw [if_pos h6]
  · have h1 := (frame_parts l [] h).1
    rw [List.append_nil] at h1
    rw [if_neg h6, List.take_take, Nat.min_eq_left (by omega), h1, if_neg (by omega), if_pos (by omega)]
/-- A frame whose bytes are other ones of the same number. -/
theorem open_other (l m : List UInt8) (h : l.length ≤ 2000) (hm : m.length = l.length) :
    openE (putL l.length 2 ++ (putL (sumL l) 4 ++ m)) = if sumL m = sumL l then 0 else 6 := by
  have h2 := putL_length 2 l.length
  have h4 := putL_length 4 (sumL l)
  have hs := sumL_lt l
  have e1 : valL ((putL l.length 2 ++ (putL (sumL l) 4 ++ m)).take 2) = l.length := by
    rw [List.take_append_of_le_length (by omega), List.take_of_length_le (by omega), valL_putL 2 _ (by show _ < 65536; omega)]
  have e2 : valL (((putL l.length 2 ++ (putL (sumL l) 4 ++ m)).drop 2).take 4) = sumL l := by
    rw [List.drop_append_of_le_length (by omega), List.drop_eq_nil_of_le (by omega), List.nil_append, List.take_append_of_le_length (by omega), List.take_of_length_le (by omega), valL_putL 4 _ (by show _ < 4294967296; omega)]
  have e3 : ((putL l.length 2 ++ (putL (sumL l) 4 ++ m)).drop 6).take l.length = m := by
    rw [← List.append_assoc, List.drop_append, List.drop_eq_nil_of_le (by simp; omega), List.nil_append, List.length_append, h2, h4, Nat.sub_self, List.drop_zero, List.take_of_length_le (by omega)]
  unfold openE
  rw [e1, e2, e3]
  have e4 : (putL l.length 2 ++ (putL (sumL l) 4 ++ m)).length = l.length + 6 := by simp [h2, h4]; omega
  rw [e4, if_neg (by omega), if_neg (by omega), if_neg (by omega)]
/-- The document's own test of a frame: is it the frame of the bytes that it holds? -/
theorem frame_test (b : List UInt8) (n : Nat) (hn : n = valL (b.take 2)) (h2000 : n ≤ 2000) (hb : 6 + n ≤ b.length) :
    frameL ((b.drop 6).take n) = b.take (6 + n) ↔ sumL ((b.drop 6).take n) = valL ((b.drop 2).take 4) := by
  have hl : ((b.drop 6).take n).length = n := by rw [List.length_take, List.length_drop]; omega
  have hb1 : b.take (6 + n) = b.take 2 ++ ((b.drop 2).take 4 ++ (b.drop 6).take n) := by
    rw [show 6 + n = 2 + (4 + n) by omega, List.take_add, List.take_add, List.drop_drop]
  have hp : putL n 2 = b.take 2 := by rw [hn]; exact putL_valL 2 _ (by rw [List.length_take]; omega)
  have hl4 : ((b.drop 2).take 4).length = 4 := by rw [List.length_take, List.length_drop]; omega
  rw [hb1, frameL, hl, hp, List.append_cancel_left_eq, List.append_cancel_right_eq]
  constructor
  · intro h
    rw [← h, valL_putL 4 _ (by show _ < 4294967296; exact sumL_lt _)]
  · intro h
    rw [h]
    exact putL_valL 4 _ hl4
end Go.Proofs.Ytoobijefjljnjaa.Co
