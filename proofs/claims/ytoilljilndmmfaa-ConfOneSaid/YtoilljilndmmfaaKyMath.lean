/- The mathematics of layer 7 (key): keys, their texts, what is read of a text, the key of a message. No program. -/
import Derived.Test.YtoilljilndmmfaaMsMath
namespace Go.Proofs.Ytoilljilndmmfaa.Ky
open Tl Ms

def rightK : List UInt8 → Bool
  | [] => false
  | x :: t => (x == 105 && decide (2 ≤ t.length ∧ t.length ≤ 255)) || (x == 104 && decide (2 ≤ t.length ∧ t.length ≤ 17))
def hexD (n : Nat) : UInt8 := if n < 10 then UInt8.ofNat (48 + n) else UInt8.ofNat (87 + n)
def hexL (t : List UInt8) : List UInt8 := t.flatMap fun b => [hexD (b.toNat / 16), hexD (b.toNat % 16)]
def textK : List UInt8 → List UInt8
  | [] => []
  | x :: t => x :: 45 :: hexL t
/-- What a digit stands for. -/
def digV (c : UInt8) : Option Nat := if 48 ≤ c.toNat ∧ c.toNat ≤ 57 then some (c.toNat - 48) else if 97 ≤ c.toNat ∧ c.toNat ≤ 102 then some (c.toNat - 87) else none
def unhexL : List UInt8 → Option (List UInt8)
  | [] => some []
  | [_] => none
  | a :: b :: r => match digV a, digV b with
    | some u, some v => (unhexL r).map (UInt8.ofNat (16 * u + v) :: ·)
    | _, _ => none
def parseK : List UInt8 → Option (List UInt8)
  | x :: y :: r => if y = 45 then (unhexL r).bind fun t => if rightK (x :: t) = true then some (x :: t) else none else none
  | _ => none

theorem hexL_nil : hexL [] = [] := rfl
theorem hexL_cons (b : UInt8) (t : List UInt8) : hexL (b :: t) = hexD (b.toNat / 16) :: hexD (b.toNat % 16) :: hexL t := by simp [hexL]
theorem hexL_snoc (t : List UInt8) (b : UInt8) : hexL (t ++ [b]) = hexL t ++ [hexD (b.toNat / 16), hexD (b.toNat % 16)] := by simp [hexL]
theorem hexL_len : ∀ t : List UInt8, (hexL t).length = 2 * t.length
  | [] => rfl
  | b :: t => by rw [hexL_cons, List.length_cons, List.length_cons, List.length_cons, hexL_len t]; omega
theorem hexD_nat {n : Nat} (h : n < 16) : (hexD n).toNat = if n < 10 then 48 + n else 87 + n := by
  unfold hexD
  split <;> rw [UInt8.toNat_ofNat'] <;> omega
theorem dig_hex {n : Nat} (h : n < 16) : digV (hexD n) = some n := by
  unfold digV
  rw [hexD_nat h]
  by_cases h1 : n < 10
  · rw [if_pos h1, if_pos (by omega)]
    congr 1
    omega
  · rw [if_neg h1, if_neg (by omega), if_pos (by omega)]
    congr 1
    omega
theorem hex_dig {c : UInt8} {n : Nat} (h : digV c = some n) : n < 16 ∧ hexD n = c := by
  unfold digV at h
  split at h
  · next h1 =>
    injection h with h
    have hn : n < 16 := by omega
    exact ⟨hn, UInt8.toNat_inj.1 (by rw [hexD_nat hn, if_pos (by omega)]; omega)⟩
  · split at h
    · next h1 =>
      injection h with h
      have hn : n < 16 := by omega
      exact ⟨hn, UInt8.toNat_inj.1 (by rw [hexD_nat hn, if_neg (by omega)]; omega)⟩
    · cases h
theorem unhex_hex : ∀ t : List UInt8, unhexL (hexL t) = some t
  | [] => rfl
  | b :: t => by
    have hb := b.toNat_lt
    rw [hexL_cons, unhexL, dig_hex (by omega), dig_hex (by omega)]
    show (unhexL (hexL t)).map _ = _
    rw [unhex_hex t]
    show some (UInt8.ofNat (16 * (b.toNat / 16) + b.toNat % 16) :: t) = some (b :: t)
    rw [show 16 * (b.toNat / 16) + b.toNat % 16 = b.toNat by omega, UInt8.ofNat_toNat]
theorem unhex_cons {a b : UInt8} {r t : List UInt8} (h : unhexL (a :: b :: r) = some t) : ∃ u v t', digV a = some u ∧ digV b = some v ∧ unhexL r = some t' ∧ t = UInt8.ofNat (16 * u + v) :: t' := by
  rw [unhexL] at h
  cases ha : digV a with
  | none => rw [ha] at h; cases h
  | some u =>
    cases hb : digV b with
    | none => rw [ha, hb] at h; cases h
    | some v =>
      rw [ha, hb] at h
      cases hr : unhexL r with
      | none => rw [hr] at h; cases h
      | some t' =>
        rw [hr] at h
        injection h with h
        exact ⟨u, v, t', rfl, rfl, rfl, h.symm⟩
theorem hex_unhex : ∀ {r t : List UInt8}, unhexL r = some t → hexL t = r
  | [], t, h => by injection h with h; subst h; rfl
  | [_], _, h => by cases h
  | a :: b :: r, t, h => by
    obtain ⟨u, v, t', ha, hb, hr, rfl⟩ := unhex_cons h
    obtain ⟨hu, eu⟩ := hex_dig ha
    obtain ⟨hv, ev⟩ := hex_dig hb
    rw [hexL_cons, hex_unhex hr, UInt8.toNat_ofNat', show (16 * u + v) % 2 ^ 8 / 16 = u by omega, show (16 * u + v) % 2 ^ 8 % 16 = v by omega, eu, ev]
theorem right_cons {k : List UInt8} (h : rightK k = true) : ∃ x t, k = x :: t ∧ 2 ≤ t.length ∧ t.length ≤ 255 := by
  match k, h with
  | x :: t, h =>
    unfold rightK at h
    simp only [Bool.or_eq_true, Bool.and_eq_true, decide_eq_true_eq] at h
    exact ⟨x, t, rfl, by omega, by omega⟩
/-- A text is read as k just if it is k's text, and k is right. -/
theorem parse_iff {s k : List UInt8} : parseK s = some k ↔ rightK k = true ∧ textK k = s := by
  constructor
  · intro h
    match s, h with
    | [], h => cases h
    | [_], h => cases h
    | x :: y :: r, h =>
      rw [parseK] at h
      split at h
      · next hy =>
        subst hy
        cases hr : unhexL r with
        | none => rw [hr] at h; cases h
        | some t =>
          rw [hr] at h
          change (if rightK (x :: t) = true then some (x :: t) else none) = some k at h
          split at h
          · next hk =>
            injection h with h
            subst h
            exact ⟨hk, by rw [textK, hex_unhex hr]⟩
          · cases h
      · cases h
  · rintro ⟨hk, rfl⟩
    obtain ⟨x, t, rfl, _, _⟩ := right_cons hk
    rw [textK, parseK, if_pos rfl, unhex_hex]
    show (if rightK (x :: t) = true then some (x :: t) else none) = _
    rw [if_pos hk]
theorem text_len {k : List UInt8} (h : rightK k = true) : (textK k).length = 2 * k.length ∧ 3 ≤ k.length ∧ k.length ≤ 256 := by
  obtain ⟨x, t, rfl, h1, h2⟩ := right_cons h
  rw [textK, List.length_cons, List.length_cons, hexL_len, List.length_cons]
  omega
/-! ### The document's way of reading: what it may be the text of has just this text -/
def valU (c : UInt8) : UInt8 := if 97 ≤ c.toNat then c - 87 else c - 48
def pairsU : List UInt8 → List UInt8
  | a :: b :: r => (valU a * 16 + valU b) :: pairsU r
  | _ => []
theorem val_dig {c : UInt8} {n : Nat} (h : digV c = some n) : valU c = UInt8.ofNat n := by
  unfold digV at h
  unfold valU
  split at h
  · next h1 =>
    injection h with h
    rw [if_neg (by omega)]
    apply UInt8.toNat_inj.1
    rw [UInt8.toNat_sub, UInt8.toNat_ofNat']
    show (2 ^ 8 - 48 + c.toNat) % 2 ^ 8 = n % 2 ^ 8
    omega
  · split at h
    · next h1 =>
      injection h with h
      rw [if_pos (by omega)]
      apply UInt8.toNat_inj.1
      rw [UInt8.toNat_sub, UInt8.toNat_ofNat']
      show (2 ^ 8 - 87 + c.toNat) % 2 ^ 8 = n % 2 ^ 8
      omega
    · cases h
theorem pairs_unhex : ∀ {r t : List UInt8}, unhexL r = some t → pairsU r = t
  | [], t, h => by injection h with h
  | [_], _, h => by cases h
  | a :: b :: r, t, h => by
    obtain ⟨u, v, t', ha, hb, hr, rfl⟩ := unhex_cons h
    obtain ⟨hu, _⟩ := hex_dig ha
    obtain ⟨hv, _⟩ := hex_dig hb
    rw [pairsU, pairs_unhex hr, val_dig ha, val_dig hb]
    congr 1
    apply UInt8.toNat_inj.1
    rw [UInt8.toNat_add, UInt8.toNat_mul, UInt8.toNat_ofNat', UInt8.toNat_ofNat', UInt8.toNat_ofNat']
    show (u % 2 ^ 8 * 16 % 2 ^ 8 + v % 2 ^ 8) % 2 ^ 8 = (16 * u + v) % 2 ^ 8
    omega
/-- The document's Parse, of a text of two letters or more. -/
theorem parse_ref (x y : UInt8) (r : List UInt8) : parseK (x :: y :: r) = if rightK (x :: pairsU r) = true ∧ textK (x :: pairsU r) = x :: y :: r then some (x :: pairsU r) else none := by
  split
  · next h => exact parse_iff.2 h
  · next h =>
    cases hp : parseK (x :: y :: r) with
    | none => rfl
    | some k =>
      exfalso
      obtain ⟨h1, h2⟩ := parse_iff.1 hp
      obtain ⟨x', t, rfl, _, _⟩ := right_cons h1
      rw [textK] at h2
      injection h2 with e1 e2
      injection e2 with e2 e3
      subst e1; subst e3
      rw [pairs_unhex (unhex_hex t)] at h
      exact h ⟨h1, by rw [textK, e2]⟩
theorem parse_short {s : List UInt8} (h : s.length < 4) : parseK s = none := by
  cases hp : parseK s with
  | none => rfl
  | some k =>
    obtain ⟨h1, h2⟩ := parse_iff.1 hp
    have := text_len h1
    rw [h2] at this
    omega
theorem parse_long {s : List UInt8} (h : 512 < s.length) : parseK s = none := by
  cases hp : parseK s with
  | none => rfl
  | some k =>
    obtain ⟨h1, h2⟩ := parse_iff.1 hp
    have := text_len h1
    rw [h2] at this
    omega
theorem parse_odd {s : List UInt8} (h : s.length % 2 = 1) : parseK s = none := by
  cases hp : parseK s with
  | none => rfl
  | some k =>
    obtain ⟨h1, h2⟩ := parse_iff.1 hp
    have := text_len h1
    rw [h2] at this
    omega
/-! ### The key of a message -/
def clientL (m : M) : List UInt8 := (findL m.os 61).getD []
def ofK (m : M) : List UInt8 × Int :=
  if RightM m then (if 255 < (clientL m).length then ([], 3) else if 1 < (clientL m).length then (105 :: clientL m, 0) else if m.hlen = 0 then ([], 5) else (104 :: byteI m.htype :: m.ch.take m.hlen.toNat, 0)) else ([], 1)
theorem of_wrong {m : M} (h : ¬ RightM m) : ofK m = ([], 1) := by unfold ofK; rw [if_neg h]
theorem of_full {m : M} (h : RightM m) (h1 : 255 < (clientL m).length) : ofK m = ([], 3) := by unfold ofK; rw [if_pos h, if_pos h1]
theorem of_client {m : M} (h : RightM m) (h1 : ¬ 255 < (clientL m).length) (h2 : 1 < (clientL m).length) : ofK m = (105 :: clientL m, 0) := by unfold ofK; rw [if_pos h, if_neg h1, if_pos h2]
theorem of_none {m : M} (h : RightM m) (h2 : ¬ 1 < (clientL m).length) (h3 : m.hlen = 0) : ofK m = ([], 5) := by unfold ofK; rw [if_pos h, if_neg (by omega), if_neg h2, if_pos h3]
theorem of_head {m : M} (h : RightM m) (h2 : ¬ 1 < (clientL m).length) (h3 : m.hlen ≠ 0) : ofK m = (104 :: byteI m.htype :: m.ch.take m.hlen.toNat, 0) := by unfold ofK; rw [if_pos h, if_neg (by omega), if_neg h2, if_neg h3]
/-- A key that is told is right. -/
theorem of_right {m : M} (h : (ofK m).2 = 0) : rightK (ofK m).1 = true := by
  by_cases h0 : RightM m
  · by_cases h1 : 255 < (clientL m).length
    · rw [of_full h0 h1] at h; cases h
    · by_cases h2 : 1 < (clientL m).length
      · rw [of_client h0 h1 h2]
        unfold rightK
        simp only [Bool.or_eq_true, Bool.and_eq_true, decide_eq_true_eq]
        exact .inl ⟨rfl, by omega, by omega⟩
      · by_cases h3 : m.hlen = 0
        · rw [of_none h0 h2 h3] at h; cases h
        · rw [of_head h0 h2 h3]
          obtain ⟨hh, hc, _⟩ := h0
          obtain ⟨_, _, ⟨a, b⟩, _⟩ := hh
          unfold rightK
          simp only [Bool.or_eq_true, Bool.and_eq_true, decide_eq_true_eq]
          refine .inr ⟨rfl, ?_, ?_⟩ <;> rw [List.length_cons, List.length_take, hc] <;> omega
  · rw [of_wrong h0] at h; cases h
/-- P7.4: with such an option the key hangs on the options alone. -/
theorem hangs_client {m n : M} (hm : RightM m) (hn : RightM n) (h : 1 < (clientL m).length) : ofK { n with os := m.os } = ofK m := by
  have hx : RightM { n with os := m.os } := ⟨hn.1, hn.2.1, hm.2.2⟩
  have hc : clientL { n with os := m.os } = clientL m := rfl
  by_cases h1 : 255 < (clientL m).length
  · rw [of_full hm h1, of_full hx (by rw [hc]; exact h1)]
  · rw [of_client hm h1 h, of_client hx (by rw [hc]; exact h1) (by rw [hc]; exact h), hc]
/-- P7.4: without it the key hangs on the head alone. -/
theorem hangs_head {m : M} (hm : RightM m) (h : ¬ 1 < (clientL m).length) : ofK { m with os := [] } = ofK m := by
  have hx : RightM { m with os := [] } := ⟨hm.1, hm.2.1, rfl, rfl⟩
  have hc : ¬ 1 < (clientL { m with os := [] }).length := by show ¬ 1 < 0; omega
  by_cases h3 : m.hlen = 0
  · rw [of_none hm h h3, of_none hx hc h3]
  · rw [of_head hm h h3, of_head hx hc h3]
end Go.Proofs.Ytoilljilndmmfaa.Ky
