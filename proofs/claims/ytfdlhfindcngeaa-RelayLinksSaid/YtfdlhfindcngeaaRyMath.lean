/- The mathematics of layer 6 (relay): parts and their bytes. No program. -/
import Derived.Test.YtfdlhfindcngeaaTlMath
import Derived.Test.YtfdlhfindcngeaaCoMath
namespace Go.Proofs.Ytfdlhfindcngeaa.Ry
open Tl Co

/-- The parts of bytes; none: they are no parts. -/
def partsF : Nat → List UInt8 → Option (List O)
  | 0, _ => some []
  | _ + 1, [] => some []
  | _ + 1, [_] => none
  | f + 1, c :: n :: r => if r.length < n.toNat then none else (partsF f (r.drop n.toNat)).map (((c.toNat : Int), r.take n.toNat) :: ·)
def partsL (b : List UInt8) : Option (List O) := partsF b.length b
theorem partsF_more : ∀ (f g : Nat) (b : List UInt8), b.length ≤ f → b.length ≤ g → partsF f b = partsF g b
  | 0, 0, _, _, _ => rfl
  | 0, g + 1, b, h, _ => by
    obtain rfl : b = [] := List.length_eq_zero_iff.1 (by omega)
    rfl
  | f + 1, 0, b, _, h => by
    obtain rfl : b = [] := List.length_eq_zero_iff.1 (by omega)
    rfl
  | f + 1, g + 1, b, h1, h2 => by
    match b with
    | [] => rfl
    | [_] => rfl
    | c :: n :: r =>
      simp only [List.length_cons] at h1 h2
      simp only [partsF]
      split
      · rfl
      · rw [partsF_more f g (r.drop n.toNat) (by rw [List.length_drop]; omega) (by rw [List.length_drop]; omega)]
theorem parts_nil : partsL [] = some [] := rfl
theorem parts_lone (c : UInt8) : partsL [c] = none := rfl
theorem parts_short {c n : UInt8} {r : List UInt8} (h : r.length < n.toNat) : partsL (c :: n :: r) = none := by
  unfold partsL
  simp only [List.length_cons, partsF, if_pos h]
theorem parts_step {c n : UInt8} {r : List UInt8} (h : n.toNat ≤ r.length) : partsL (c :: n :: r) = (partsL (r.drop n.toNat)).map (((c.toNat : Int), r.take n.toNat) :: ·) := by
  unfold partsL
  simp only [List.length_cons, partsF]
  rw [if_neg (by omega), partsF_more (r.length + 1) (r.drop n.toNat).length _ (by rw [List.length_drop]; omega) (Nat.le_refl _)]
def encO (o : O) : List UInt8 := codeB o.1 :: UInt8.ofNat o.2.length :: o.2
def encL (l : List O) : List UInt8 := l.flatMap encO
def FitR (o : O) : Prop := 0 ≤ o.1 ∧ o.1 ≤ 255 ∧ o.2.length ≤ 255
instance (o : O) : Decidable (FitR o) := by unfold FitR; infer_instance
theorem enc_nil : encL [] = [] := rfl
theorem enc_cons (o : O) (l : List O) : encL (o :: l) = encO o ++ encL l := by simp [encL]
theorem enc_app (l m : List O) : encL (l ++ m) = encL l ++ encL m := by unfold encL; rw [List.flatMap_append]
theorem encO_len (o : O) : (encO o).length = o.2.length + 2 := by simp [encO]
theorem enc_next {l : List O} {k : Nat} (h : k < l.length) : encL (l.take (k + 1)) = encL (l.take k) ++ encO l[k] := by
  rw [take_snocO h, enc_app]
  simp [encL]
theorem enc_mono {l : List O} (k : Nat) : (encL (l.take k)).length ≤ (encL l).length := by
  have e : encL l = encL (l.take k) ++ encL (l.drop k) := by rw [← enc_app, List.take_append_drop]
  rw [e, List.length_append]
  omega
theorem codeB_back {c : Int} (h1 : 0 ≤ c) (h2 : c ≤ 255) : ((codeB c).toNat : Int) = c := by
  unfold codeB
  rw [UInt8.toNat_ofNat']
  omega
theorem lenB_back {n : Nat} (h : n ≤ 255) : (UInt8.ofNat n).toNat = n := by
  rw [UInt8.toNat_ofNat']
  omega
/-- What is put ahead is read ahead. -/
theorem parts_enc : ∀ {l : List O} (_ : ∀ o ∈ l, FitR o) (r : List UInt8), partsL (encL l ++ r) = (partsL r).map (l ++ ·)
  | [], _, r => by simp [encL]
  | o :: l, h, r => by
    obtain ⟨h1, h2, h3⟩ := h o (.head _)
    have e : encL (o :: l) ++ r = codeB o.1 :: UInt8.ofNat o.2.length :: (o.2 ++ (encL l ++ r)) := by rw [enc_cons]; simp [encO]
    rw [e, parts_step (by rw [lenB_back h3, List.length_append]; omega), lenB_back h3, List.drop_left, List.take_left, codeB_back h1 h2, parts_enc (fun x hx => h x (.tail _ hx)) r]
    cases partsL r <;> rfl
theorem parts_back {l : List O} (h : ∀ o ∈ l, FitR o) : partsL (encL l) = some l := by
  have := parts_enc h []
  rw [List.append_nil, parts_nil] at this
  rw [this]
  simp
theorem enc_parts : ∀ (f : Nat) {b : List UInt8} {l : List O}, b.length ≤ f → partsL b = some l → encL l = b ∧ ∀ o ∈ l, FitR o := by
  intro f
  induction f with
  | zero =>
    intro b l hf h
    obtain rfl : b = [] := List.length_eq_zero_iff.1 (by omega)
    rw [parts_nil] at h
    cases h
    exact ⟨rfl, fun o ho => by cases ho⟩
  | succ f ih =>
    intro b l hf h
    match b, hf, h with
    | [], _, h =>
      rw [parts_nil] at h
      cases h
      exact ⟨rfl, fun o ho => by cases ho⟩
    | [c], _, h => rw [parts_lone] at h; cases h
    | c :: n :: r, hf, h =>
      by_cases hn : r.length < n.toNat
      · rw [parts_short hn] at h; cases h
      · rw [parts_step (by omega)] at h
        cases hq : partsL (r.drop n.toNat) with
        | none => rw [hq] at h; cases h
        | some q =>
          rw [hq] at h
          simp only [Option.map_some, Option.some.injEq] at h
          subst h
          obtain ⟨h1, h2⟩ := ih (by rw [List.length_drop]; simp only [List.length_cons] at hf; omega) hq
          have hlt := n.toNat_lt
          have hct := c.toNat_lt
          have hl : (r.take n.toNat).length = n.toNat := by rw [List.length_take]; omega
          refine ⟨?_, fun o ho => ?_⟩
          · rw [enc_cons, h1]
            unfold encO codeB
            simp only [hl, Int.toNat_natCast, UInt8.ofNat_toNat]
            simp [List.take_append_drop]
          · rcases List.mem_cons.1 ho with rfl | ho
            · exact ⟨by simp, by show ((c.toNat : Nat) : Int) ≤ 255; omega, by show (r.take n.toNat).length ≤ 255; rw [hl]; omega⟩
            · exact h2 o ho
/-! ### The answers -/
def partsR (b : List UInt8) : List O × Int := if 600 < b.length then ([], 3) else match partsL b with
  | none => ([], 2)
  | some l => (l, 0)
def bytesR (l : List O) : List UInt8 × Int := if ∀ o ∈ l, FitR o then (if 600 < (encL l).length then ([], 3) else (encL l, 0)) else ([], 1)
def linkR (b : List UInt8) : Option Nat := (findL (partsR b).1 5).bind fun d => if d.length = 4 then some (valL d) else none
theorem partsR_long {b : List UInt8} (h : 600 < b.length) : partsR b = ([], 3) := by unfold partsR; rw [if_pos h]
theorem partsR_bad {b : List UInt8} (h : ¬ 600 < b.length) (hp : partsL b = none) : partsR b = ([], 2) := by unfold partsR; rw [if_neg h, hp]
theorem partsR_ok {b : List UInt8} {l : List O} (h : ¬ 600 < b.length) (hp : partsL b = some l) : partsR b = (l, 0) := by unfold partsR; rw [if_neg h, hp]
theorem partsR_good {b : List UInt8} (h : (partsR b).2 = 0) : ¬ 600 < b.length ∧ partsL b = some (partsR b).1 := by
  by_cases h6 : 600 < b.length
  · rw [partsR_long h6] at h; cases h
  · refine ⟨h6, ?_⟩
    cases hp : partsL b with
    | none => rw [partsR_bad h6 hp] at h; cases h
    | some l => rw [partsR_ok h6 hp]
theorem partsR_err {b : List UInt8} (h : (partsR b).2 ≠ 0) : (partsR b).1 = [] := by
  by_cases h6 : 600 < b.length
  · rw [partsR_long h6]
  · cases hp : partsL b with
    | none => rw [partsR_bad h6 hp]
    | some l => rw [partsR_ok h6 hp] at h; exact absurd rfl h
theorem bytesR_arg {l : List O} {o : O} (ho : o ∈ l) (h : ¬ FitR o) : bytesR l = ([], 1) := by unfold bytesR; rw [if_neg fun k => h (k o ho)]
theorem bytesR_full {l : List O} (h : ∀ o ∈ l, FitR o) (h6 : 600 < (encL l).length) : bytesR l = ([], 3) := by unfold bytesR; rw [if_pos h, if_pos h6]
theorem bytesR_ok {l : List O} (h : ∀ o ∈ l, FitR o) (h6 : ¬ 600 < (encL l).length) : bytesR l = (encL l, 0) := by unfold bytesR; rw [if_pos h, if_neg h6]
theorem bytesR_err {l : List O} (h : (bytesR l).2 ≠ 0) : (bytesR l).1 = [] := by
  unfold bytesR at h ⊢
  by_cases h1 : ∀ o ∈ l, FitR o
  · rw [if_pos h1] at h ⊢
    by_cases h2 : 600 < (encL l).length
    · rw [if_pos h2]
    · rw [if_neg h2] at h; exact absurd rfl h
  · rw [if_neg h1]
/-- P6.3: parts come back from their bytes. -/
theorem back {l : List O} (h : (bytesR l).2 = 0) : partsR (bytesR l).1 = (l, 0) := by
  by_cases h1 : ∀ o ∈ l, FitR o
  · by_cases h2 : 600 < (encL l).length
    · rw [bytesR_full h1 h2] at h; cases h
    · rw [bytesR_ok h1 h2]
      exact partsR_ok h2 (parts_back h1)
  · unfold bytesR at h; rw [if_neg h1] at h; cases h
/-- P6.3: bytes come back from their parts. -/
theorem again {b : List UInt8} (h : (partsR b).2 = 0) : bytesR (partsR b).1 = (b, 0) := by
  obtain ⟨h6, hp⟩ := partsR_good h
  obtain ⟨e, hf⟩ := enc_parts b.length (Nat.le_refl _) hp
  rw [bytesR_ok hf (by rw [e]; exact h6), e]
/-- P6.4: a link ahead of all parts is the one that is told. -/
theorem first {b : List UInt8} (h : (partsR b).2 = 0) (h5 : b.length ≤ 500) {a : Nat} (ha : a < 4294967296) : linkR ([5, 4] ++ putL a 4 ++ b) = some a := by
  obtain ⟨_, hp⟩ := partsR_good h
  have hl : (putL a 4).length = 4 := putL_length 4 a
  have e : [5, 4] ++ putL a 4 ++ b = encL [(5, putL a 4)] ++ b := by
    simp only [encL, List.flatMap_cons, List.flatMap_nil, List.append_nil, encO, hl]
    rfl
  have hfit : ∀ o ∈ ([(5, putL a 4)] : List O), FitR o := fun o ho => by
    simp only [List.mem_singleton] at ho
    subst ho
    exact ⟨by show (0 : Int) ≤ 5; decide, by show (5 : Int) ≤ 255; decide, by show (putL a 4).length ≤ 255; omega⟩
  have hpp : partsL ([5, 4] ++ putL a 4 ++ b) = some ([(5, putL a 4)] ++ (partsR b).1) := by rw [e, parts_enc hfit b, hp]; rfl
  unfold linkR
  rw [partsR_ok (by simp only [List.length_append, hl, List.length_cons, List.length_nil]; omega) hpp]
  have hf : findL ([(5, putL a 4)] ++ (partsR b).1) 5 = some (putL a 4) := rfl
  simp only [hf]
  show (if (putL a 4).length = 4 then some (valL (putL a 4)) else none) = some a
  rw [if_pos hl, valL_putL 4 a (by show a < 4294967296; exact ha)]
end Go.Proofs.Ytfdlhfindcngeaa.Ry
