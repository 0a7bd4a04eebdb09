/- Plain facts on reading the texts of addresses: the code's way and the document's way come to the same. No conditions. -/
import Derived.Test.YtbnmcplcfbghoaaDoorAdText
import Derived.Lib.Split
import Derived.Lib.SplitLaws
import Derived.Lib.DecodeN
namespace Go.Proofs.YtbnmcplcfbghoaaDoor.Ad
open Go.Lib

/-! ### One part -/

def digitsL : List UInt8 → Nat → Option Nat
  | [], v => some v
  | c :: l, v => if c.toNat < 48 ∨ 57 < c.toNat then none else digitsL l (v * 10 + (c.toNat - 48))

/-- What the code reads of one part. -/
def partL (p : List UInt8) : Option Nat :=
  if p.length = 0 ∨ 3 < p.length then none
  else if p.head? = some 48 ∧ 1 < p.length then none
  else match digitsL p 0 with
    | none => none
    | some v => if 255 < v then none else some v

theorem ofNat_digit {c : UInt8} (h : 48 ≤ c.toNat) : UInt8.ofNat (48 + (c.toNat - 48)) = c := by
  rw [show 48 + (c.toNat - 48) = c.toNat by omega]; simp
theorem digit_toNat {d : Nat} (h : d < 10) : (UInt8.ofNat (48 + d)).toNat = 48 + d := by
  rw [UInt8.toNat_ofNat']; omega
theorem eq48 {c : UInt8} (h : c.toNat = 48) : c = 48 := by
  apply UInt8.toNat_inj.1; rw [h]; rfl

theorem part_dec {v : Nat} (h : v < 256) : partL (decDigits v) = some v := by
  rcases Nat.lt_or_ge v 10 with h1 | h1
  · rw [dec1 h1]
    have e0 := digit_toNat (d := v) (by omega)
    simp only [partL, digitsL, e0, List.length_cons, List.length_nil, List.head?_cons]
    rw [if_neg (by omega), if_neg (by omega), if_neg (by omega)]
    simp only
    rw [if_neg (by omega)]
    congr 1; omega
  · rcases Nat.lt_or_ge v 100 with h2 | h2
    · rw [dec2 h1 h2]
      have e0 := digit_toNat (d := v / 10) (by omega)
      have e1 := digit_toNat (d := v % 10) (by omega)
      have e2 : ¬ UInt8.ofNat (48 + v / 10) = 48 := fun e => by
        have := congrArg UInt8.toNat e; rw [e0] at this; have : 48 + v / 10 = 48 := this; omega
      simp only [partL, digitsL, e0, e1, List.length_cons, List.length_nil, List.head?_cons, Option.some.injEq, e2]
      rw [if_neg (by omega), if_neg (by simp), if_neg (by omega), if_neg (by omega)]
      simp only
      rw [if_neg (by omega)]
      congr 1; omega
    · rw [dec3 h2 (by omega)]
      have e0 := digit_toNat (d := v / 100) (by omega)
      have e1 := digit_toNat (d := v / 10 % 10) (by omega)
      have e3 := digit_toNat (d := v % 10) (by omega)
      have e2 : ¬ UInt8.ofNat (48 + v / 100) = 48 := fun e => by
        have := congrArg UInt8.toNat e; rw [e0] at this; have : 48 + v / 100 = 48 := this; omega
      simp only [partL, digitsL, e0, e1, e3, List.length_cons, List.length_nil, List.head?_cons, Option.some.injEq, e2]
      rw [if_neg (by omega), if_neg (by simp), if_neg (by omega), if_neg (by omega), if_neg (by omega)]
      simp only
      rw [if_neg (by omega)]
      congr 1; omega

theorem part_some {p : List UInt8} {v : Nat} (h : partL p = some v) : v < 256 ∧ decDigits v = p := by
  unfold partL at h
  split at h
  · cases h
  · rename_i hl
    split at h
    · cases h
    · rename_i hz
      split at h
      · cases h
      · rename_i x hx
        split at h
        · cases h
        · rename_i hv
          obtain rfl : x = v := Option.some.inj h
          refine ⟨by omega, ?_⟩
          match p, hl, hz, hx with
          | [], hl, _, _ => exact absurd (Or.inl rfl) hl
          | [c], _, _, hx =>
            simp only [digitsL] at hx
            split at hx
            · cases hx
            · have := Option.some.inj hx
              have e : x = c.toNat - 48 := by omega
              rw [dec1 (by omega), e, ofNat_digit (by omega)]
          | [c, d], _, hz, hx =>
            simp only [digitsL] at hx
            split at hx
            · cases hx
            · split at hx
              · cases hx
              · have := Option.some.inj hx
                have hc : c.toNat ≠ 48 := fun e => hz ⟨by rw [eq48 e]; rfl, by simp⟩
                rw [dec2 (by omega) (by omega), show x / 10 = c.toNat - 48 by omega, show x % 10 = d.toNat - 48 by omega, ofNat_digit (by omega), ofNat_digit (by omega)]
          | [c, d, f], _, hz, hx =>
            simp only [digitsL] at hx
            split at hx
            · cases hx
            · split at hx
              · cases hx
              · split at hx
                · cases hx
                · have := Option.some.inj hx
                  have hc : c.toNat ≠ 48 := fun e => hz ⟨by rw [eq48 e]; rfl, by simp⟩
                  rw [dec3 (by omega) (by omega), show x / 100 = c.toNat - 48 by omega, show x / 10 % 10 = d.toNat - 48 by omega, show x % 10 = f.toNat - 48 by omega, ofNat_digit (by omega), ofNat_digit (by omega), ofNat_digit (by omega)]
          | _ :: _ :: _ :: _ :: _, hl, _, _ => exact absurd (Or.inr (by simp)) hl

theorem part_iff {p : List UInt8} {v : Nat} : partL p = some v ↔ v < 256 ∧ decDigits v = p :=
  ⟨part_some, fun ⟨h, e⟩ => e ▸ part_dec h⟩

/-! ### The parts of a text -/

theorem no46_dec {v : Nat} (h : v < 256) : (46 : UInt8) ∉ decDigits v := by
  have key : ∀ d, d < 10 → ¬ (46 : UInt8) = UInt8.ofNat (48 + d) := fun d hd e => by
    have := congrArg UInt8.toNat e; rw [digit_toNat hd] at this; have : 46 = 48 + d := this; omega
  rcases Nat.lt_or_ge v 10 with h1 | h1
  · rw [dec1 h1]; simp only [List.mem_singleton]; exact key _ (by omega)
  · rcases Nat.lt_or_ge v 100 with h2 | h2
    · rw [dec2 h1 h2]; simp only [List.mem_cons, List.not_mem_nil, or_false, not_or]; exact ⟨key _ (by omega), key _ (by omega)⟩
    · rw [dec3 h2 (by omega)]; simp only [List.mem_cons, List.not_mem_nil, or_false, not_or]; exact ⟨key _ (by omega), key _ (by omega), key _ (by omega)⟩

theorem index_at (p r : List UInt8) (h : (46 : UInt8) ∉ p) : index (p ++ 46 :: r) [46] = p.length := by
  induction p with
  | nil => rfl
  | cons b l ih =>
    have hb : ¬ (46 : UInt8) = b := fun e => h (by simp [e])
    have hl : (46 : UInt8) ∉ l := fun e => h (by simp [e])
    have e1 : List.isPrefixOf [46] (b :: (l ++ 46 :: r)) = false := by simp [List.isPrefixOf, hb]
    rw [List.cons_append, index, e1, ih hl]
    simp

/-- A text with a dot is cut at its first one. -/
theorem first46 : ∀ {s : List UInt8} {k : Nat}, s.count 46 = k + 1 → ∃ p r, (46 : UInt8) ∉ p ∧ s = p ++ 46 :: r ∧ r.count 46 = k
  | [], k, h => by simp at h
  | b :: l, k, h => by
    by_cases hb : b = 46
    · subst hb
      exact ⟨[], l, by simp, rfl, by simpa using h⟩
    · rw [List.count_cons_of_ne hb] at h
      obtain ⟨p, r, h1, h2, h3⟩ := first46 h
      exact ⟨b :: p, r, by simp only [List.mem_cons, not_or]; exact ⟨fun e => hb e.symm, h1⟩, by rw [h2]; rfl, h3⟩

theorem splitK_at (p r : List UInt8) (k : Nat) (h : (46 : UInt8) ∉ p) : splitK [46] 0 (k + 1) (p ++ 46 :: r) = p :: splitK [46] 0 k r := by
  rw [splitK, index_at p r h, if_neg (by simp)]
  simp

/-- The four parts of a text with three dots. -/
theorem four {s : List UInt8} (h : s.count 46 = 3) : ∃ p q r t, (46 : UInt8) ∉ p ∧ (46 : UInt8) ∉ q ∧ (46 : UInt8) ∉ r ∧ s = p ++ 46 :: (q ++ 46 :: (r ++ 46 :: t)) ∧ splitK [46] 0 3 s = [p, q, r, t] := by
  obtain ⟨p, s1, h1, rfl, h2⟩ := first46 h
  obtain ⟨q, s2, h3, rfl, h4⟩ := first46 h2
  obtain ⟨r, t, h5, rfl, _⟩ := first46 h4
  exact ⟨p, q, r, t, h1, h3, h5, rfl, by rw [splitK_at _ _ _ h1, splitK_at _ _ _ h3, splitK_at _ _ _ h5]; rfl⟩

def foldParts : List (List UInt8) → Nat → Option Nat
  | [], a => some a
  | p :: l, a => match partL p with
    | none => none
    | some v => foldParts l (a * 256 + v)

/-- What the code reads of a text. -/
def parseL (s : List UInt8) : Option Nat := if s.count 46 = 3 then foldParts (splitK [46] 0 3 s) 0 else none

theorem first_unique {p r p' r' : List UInt8} (h : (46 : UInt8) ∉ p) (h' : (46 : UInt8) ∉ p') (e : p ++ 46 :: r = p' ++ 46 :: r') : p = p' ∧ r = r' := by
  induction p generalizing p' with
  | nil =>
    cases p' with
    | nil => simpa using e
    | cons b l => simp at e; exact absurd (by simp [e.1]) h'
  | cons b l ih =>
    cases p' with
    | nil => simp at e; exact absurd (by simp [e.1]) h
    | cons c m =>
      simp only [List.cons_append, List.cons.injEq] at e
      have := ih (fun x => h (by simp [x])) (p' := m) (fun x => h' (by simp [x])) e.2
      exact ⟨by rw [e.1, this.1], this.2⟩

theorem textL_of (a b c d : Nat) (hb : b < 256) (hc : c < 256) (hd : d < 256) :
    textL (((a * 256 + b) * 256 + c) * 256 + d) = decDigits a ++ 46 :: (decDigits b ++ 46 :: (decDigits c ++ 46 :: decDigits d)) := by
  unfold textL
  rw [show (((a * 256 + b) * 256 + c) * 256 + d) / 16777216 = a by omega, show (((a * 256 + b) * 256 + c) * 256 + d) / 65536 % 256 = b by omega,
    show (((a * 256 + b) * 256 + c) * 256 + d) / 256 % 256 = c by omega, show (((a * 256 + b) * 256 + c) * 256 + d) % 256 = d by omega]

theorem count46_text {v : Nat} (h : v < 4294967296) : (textL v).count 46 = 3 := by
  unfold textL
  have c1 := List.count_eq_zero.2 (no46_dec (v := v / 16777216) (by omega))
  have c2 := List.count_eq_zero.2 (no46_dec (v := v / 65536 % 256) (by omega))
  have c3 := List.count_eq_zero.2 (no46_dec (v := v / 256 % 256) (by omega))
  have c4 := List.count_eq_zero.2 (no46_dec (v := v % 256) (by omega))
  simp only [List.count_append, List.count_cons_self, c1, c2, c3, c4]

theorem parse_some {s : List UInt8} {v : Nat} (h : parseL s = some v) : v < 4294967296 ∧ textL v = s := by
  unfold parseL at h
  split at h
  · rename_i hc
    obtain ⟨p, q, r, t, _, _, _, rfl, hk⟩ := four hc
    rw [hk] at h
    simp only [foldParts] at h
    split at h
    · cases h
    · rename_i a ha
      split at h
      · cases h
      · rename_i b hb
        split at h
        · cases h
        · rename_i c hc
          split at h
          · cases h
          · rename_i d hd
            obtain ⟨a1, a2⟩ := part_some ha
            obtain ⟨b1, b2⟩ := part_some hb
            obtain ⟨c1, c2⟩ := part_some hc
            obtain ⟨d1, d2⟩ := part_some hd
            have := Option.some.inj h
            rw [Nat.zero_mul, Nat.zero_add] at this
            subst this
            refine ⟨by omega, ?_⟩
            rw [textL_of a b c d b1 c1 d1, a2, b2, c2, d2]
  · cases h

theorem parse_text {v : Nat} (h : v < 4294967296) : parseL (textL v) = some v := by
  have hc := count46_text h
  obtain ⟨p, q, r, t, hp, hq, hr, he, hk⟩ := four hc
  unfold parseL
  rw [if_pos hc, hk]
  have he' := he
  unfold textL at he'
  obtain ⟨e1, he'⟩ := first_unique (no46_dec (by omega)) hp he'
  obtain ⟨e2, he'⟩ := first_unique (no46_dec (by omega)) hq he'
  obtain ⟨e3, e4⟩ := first_unique (no46_dec (by omega)) hr he'
  rw [← e1, ← e2, ← e3, ← e4]
  simp only [foldParts, part_dec (show v / 16777216 < 256 by omega), part_dec (show v / 65536 % 256 < 256 by omega), part_dec (show v / 256 % 256 < 256 by omega), part_dec (show v % 256 < 256 by omega)]
  congr 1; omega

theorem parse_iff {s : List UInt8} {v : Nat} : parseL s = some v ↔ v < 4294967296 ∧ textL v = s :=
  ⟨parse_some, fun ⟨h, e⟩ => e ▸ parse_text h⟩

/-! ### The document's way -/

def refFold : List UInt8 → Nat → Nat → Option (Nat × Nat)
  | [], a, p => some (a, p)
  | c :: l, a, p =>
    if c.toNat = 46 then (if 16777215 < a * 256 + p then none else refFold l (a * 256 + p) 0)
    else if c.toNat < 48 ∨ 57 < c.toNat then none
    else if 255 < p * 10 + c.toNat - 48 ∨ 16777215 < a then none else refFold l a (p * 10 + c.toNat - 48)

def refParse (s : List UInt8) : Option Nat :=
  match refFold s 0 0 with
  | none => none
  | some (a, p) => if textL (a * 256 + p) = s then some (a * 256 + p) else none

theorem refFold_bound : ∀ {s : List UInt8} {a p a' p' : Nat}, a ≤ 16777215 → p ≤ 255 → refFold s a p = some (a', p') → a' ≤ 16777215 ∧ p' ≤ 255
  | [], a, p, a', p', ha, hp, h => by
    simp only [refFold, Option.some.injEq, Prod.mk.injEq] at h
    omega
  | c :: l, a, p, a', p', ha, hp, h => by
    simp only [refFold] at h
    split at h
    · split at h
      · cases h
      · exact refFold_bound (by omega) (by omega) h
    · split at h
      · cases h
      · split at h
        · cases h
        · exact refFold_bound ha (by omega) h

theorem refFold_digit (d a p : Nat) (r : List UInt8) (hd : d < 10) (ha : a ≤ 16777215) (hp : p * 10 + d ≤ 255) : refFold (UInt8.ofNat (48 + d) :: r) a p = refFold r a (p * 10 + d) := by
  have e0 := digit_toNat hd
  rw [refFold, e0, if_neg (by omega), if_neg (by omega), if_neg (by omega)]
  congr 1; omega
theorem refFold_dec (d a : Nat) (r : List UInt8) (hd : d < 256) (ha : a ≤ 16777215) : refFold (decDigits d ++ r) a 0 = refFold r a d := by
  rcases Nat.lt_or_ge d 10 with h1 | h1
  · rw [dec1 h1, List.singleton_append, refFold_digit _ _ _ _ h1 ha (by omega)]; congr 1; omega
  · rcases Nat.lt_or_ge d 100 with h2 | h2
    · rw [dec2 h1 h2, List.cons_append, List.singleton_append, refFold_digit _ _ _ _ (by omega) ha (by omega), refFold_digit _ _ _ _ (by omega) ha (by omega)]
      congr 1; omega
    · rw [dec3 h2 (by omega), List.cons_append, List.cons_append, List.singleton_append, refFold_digit _ _ _ _ (by omega) ha (by omega), refFold_digit _ _ _ _ (by omega) ha (by omega), refFold_digit _ _ _ _ (by omega) ha (by omega)]
      congr 1; omega
theorem refFold_dot (a p : Nat) (r : List UInt8) (h : a * 256 + p ≤ 16777215) : refFold (46 :: r) a p = refFold r (a * 256 + p) 0 := by
  rw [refFold, if_pos (show UInt8.toNat 46 = 46 from rfl), if_neg (by omega)]

theorem refFold_text {v : Nat} (h : v < 4294967296) : refFold (textL v) 0 0 = some (v / 256, v % 256) := by
  unfold textL
  rw [refFold_dec _ _ _ (by omega) (by omega), refFold_dot _ _ _ (by omega), refFold_dec _ _ _ (by omega) (by omega), refFold_dot _ _ _ (by omega),
    refFold_dec _ _ _ (by omega) (by omega), refFold_dot _ _ _ (by omega)]
  have := refFold_dec (v % 256) (((0 * 256 + v / 16777216) * 256 + v / 65536 % 256) * 256 + v / 256 % 256) [] (by omega) (by omega)
  rw [List.append_nil] at this
  rw [this, refFold]
  congr 2; omega

theorem refParse_iff {s : List UInt8} {v : Nat} : refParse s = some v ↔ v < 4294967296 ∧ textL v = s := by
  constructor
  · intro h
    unfold refParse at h
    split at h
    · cases h
    · rename_i a p hf
      split at h
      · rename_i ht
        have := refFold_bound (by omega) (by omega) hf
        have e := Option.some.inj h
        subst e
        exact ⟨by omega, ht⟩
      · cases h
  · rintro ⟨h, rfl⟩
    unfold refParse
    rw [refFold_text h]
    simp only
    rw [if_pos (by congr 1; omega)]
    congr 1; omega

theorem refParse_eq (s : List UInt8) : refParse s = parseL s := by
  cases h : refParse s with
  | some v => exact (parse_iff.2 (refParse_iff.1 h)).symm
  | none =>
    cases h2 : parseL s with
    | none => rfl
    | some v => rw [refParse_iff.2 (parse_iff.1 h2)] at h; cases h

/-! ### Dots and runes -/

theorem decodeN_high (n b0 b1 b2 b3 : Nat) (h : 128 ≤ b0) (hn : 1 ≤ n) : ∃ k, (decodeN n b0 b1 b2 b3).2 = k ∧ 1 ≤ k ∧ k ≤ 4 ∧ k ≤ n ∧ (2 ≤ k → 128 ≤ b1) ∧ (3 ≤ k → 128 ≤ b2) ∧ (4 ≤ k → 128 ≤ b3) := by
  refine ⟨_, rfl, ?_⟩
  unfold decodeN
  repeat' split
  all_goals (simp only; omega)

theorem take_count (s : ByteArray) (p : Nat) (h : p < s.size) : (s.data.toList.take (p + 1)).count 46 = (s.data.toList.take p).count 46 + (if s[p] = 46 then 1 else 0) := by
  rw [List.take_succ_eq_append_getElem (by simpa using h), List.count_append]
  congr 1
  show [s[p]].count 46 = _
  simp [List.count_singleton, beq_iff_eq]

theorem high_ne {s : ByteArray} {p : Nat} (h : p < s.size) (hb : 128 ≤ (s.get! p).toNat) : ¬ s[p] = 46 := by
  intro e
  rw [show s.get! p = s[p] from get_at s p h, e] at hb
  exact absurd hb (by decide)

/-- No dot lies in the bytes of a rune that begins with a byte of 128 or more. -/
theorem dots_rune (s : ByteArray) (pos : Nat) (h : pos < s.size) (ha : 128 ≤ (s[pos]'h).toNat) :
    pos + (Utf8.decode s pos).2 ≤ s.size ∧ 1 ≤ (Utf8.decode s pos).2 ∧ (s.data.toList.take (pos + (Utf8.decode s pos).2)).count 46 = (s.data.toList.take pos).count 46 := by
  have h0 : 128 ≤ (s.get! pos).toNat := by rw [show s.get! pos = s[pos] from get_at s pos h]; exact ha
  rw [decode_at]
  obtain ⟨k, hk, k1, k4, kn, q1, q2, q3⟩ := decodeN_high (s.size - pos) (s.get! pos).toNat (s.get! (pos + 1)).toNat (s.get! (pos + 2)).toNat (s.get! (pos + 3)).toNat h0 (by omega)
  rw [hk]
  refine ⟨by omega, k1, ?_⟩
  have t0 := take_count s pos h
  rw [if_neg (high_ne h h0)] at t0
  have hk4 : k = 1 ∨ k = 2 ∨ k = 3 ∨ k = 4 := by omega
  rcases hk4 with rfl | rfl | rfl | rfl
  · exact t0
  · have t1 := take_count s (pos + 1) (by omega)
    rw [if_neg (high_ne (by omega) (q1 (by omega)))] at t1
    exact t1.trans t0
  · have t1 := take_count s (pos + 1) (by omega)
    rw [if_neg (high_ne (by omega) (q1 (by omega)))] at t1
    have t2 := take_count s (pos + 2) (by omega)
    rw [if_neg (high_ne (by omega) (q2 (by omega)))] at t2
    exact t2.trans (t1.trans t0)
  · have t1 := take_count s (pos + 1) (by omega)
    rw [if_neg (high_ne (by omega) (q1 (by omega)))] at t1
    have t2 := take_count s (pos + 2) (by omega)
    rw [if_neg (high_ne (by omega) (q2 (by omega)))] at t2
    have t3 := take_count s (pos + 3) (by omega)
    rw [if_neg (high_ne (by omega) (q3 (by omega)))] at t3
    exact t3.trans (t2.trans (t1.trans t0))
end Go.Proofs.YtbnmcplcfbghoaaDoor.Ad
