/- Plain mathematics of layer 2: numbers in bytes, the CRC-32 bit by bit, and that a burst of at most 32 bits turns it. No program. No conditions but those that each theorem names. -/
import Derived.Below
import Derived.Lib.Hide
import Derived.WalkKit
section
namespace Go.Proofs.YtoldppbakapohaaGreatDoor.Co

/-! ### Numbers in bytes -/
def byteV (v : Nat) : UInt8 := UInt8.ofNat (v % 256)
theorem byteV_toNat (v : Nat) : (byteV v).toNat = v % 256 := by
  unfold byteV
  rw [UInt8.toNat_ofNat']
  omega
/-- 256 to the n-th. -/
def p256 (n : Nat) : Nat := 256 ^ n
theorem p256_succ (n : Nat) : p256 (n + 1) = p256 n * 256 := Nat.pow_succ 256 n
theorem p256_le {m n : Nat} (h : m ≤ n) : p256 m ≤ p256 n := Nat.pow_le_pow_right (by omega) h
theorem p256_two (n : Nat) : p256 n = 2 ^ (8 * n) := by
  have h : (2 : Nat) ^ 8 = 256 := by decide
  unfold p256
  rw [Nat.pow_mul, h]
def putL : Nat → Nat → List UInt8
  | _, 0 => []
  | v, n + 1 => putL (v / 256) n ++ [byteV v]
theorem putL_length : ∀ (n v : Nat), (putL v n).length = n
  | 0, _ => rfl
  | n + 1, v => by simp [putL, putL_length n]
def valL (l : List UInt8) : Nat := l.foldl (fun a b => a * 256 + b.toNat) 0
theorem valL_snoc (l : List UInt8) (b : UInt8) : valL (l ++ [b]) = valL l * 256 + b.toNat := by simp [valL]
theorem valL_putL : ∀ (n v : Nat), v < p256 n → valL (putL v n) = v
  | 0, v, h => by simp [p256] at h; subst h; rfl
  | n + 1, v, h => by
    rw [putL, valL_snoc, valL_putL n (v / 256) (by rw [p256_succ] at h; omega), byteV_toNat]
    omega
theorem foldl_val_lt : ∀ (l : List UInt8) (a : Nat), l.foldl (fun a b => a * 256 + b.toNat) a < (a + 1) * 256 ^ l.length
  | [], a => by simp
  | b :: l, a => by
    simp only [List.foldl_cons, List.length_cons]
    have h := foldl_val_lt l (a * 256 + b.toNat)
    have hb := b.toNat_lt
    refine Nat.lt_of_lt_of_le h ?_
    rw [Nat.pow_succ, Nat.mul_comm (256 ^ l.length) 256, ← Nat.mul_assoc]
    exact Nat.mul_le_mul_right _ (by omega)
theorem valL_lt (l : List UInt8) : valL l < p256 l.length := by
  unfold valL p256
  simpa using foldl_val_lt l 0

theorem putL_cons : ∀ (k v : Nat), putL v (k + 1) = byteV (v / p256 k) :: putL v k
  | 0, v => by simp [putL, p256]
  | k + 1, v => by
    rw [putL, putL_cons k (v / 256), Nat.div_div_eq_div_mul, Nat.mul_comm 256, ← p256_succ]
    rfl
/-- Bytes that were noughts, the last k of them written. -/
def partL (v n k : Nat) : List UInt8 := List.replicate (n - k) 0 ++ putL v k
theorem partL_length {v n k : Nat} (h : k ≤ n) : (partL v n k).length = n := by simp [partL, putL_length]; omega
theorem partL_next {v n k : Nat} (h : k < n) : (partL v n k).set (n - 1 - k) (byteV (v / p256 k)) = partL v n (k + 1) := by
  unfold partL
  rw [putL_cons, show n - k = (n - (k + 1)) + 1 by omega, List.replicate_succ', List.append_assoc, List.set_append_right _ _ (by simp; omega)]
  simp
  rw [show n - 1 - k - (n - (k + 1)) = 0 by omega]
  rfl
theorem partL_all (v n : Nat) : partL v n n = putL v n := by simp [partL]

/-! ### The CRC-32 -/

/-! ### Bit by bit -/

/-! ### Bytes as bits, the lowest one of a byte first -/

/-! ### Frames -/
end Go.Proofs.YtoldppbakapohaaGreatDoor.Co
end
/- Options as lists: which are right, what is found, written, joined and read. Plain mathematics, no program. -/
section
namespace Go.Proofs.YtoldppbakapohaaGreatDoor.Tl

abbrev O := Int × List UInt8
def codesL (l : List O) : List Int := l.map (·.1)
def fitO (o : O) : Bool := decide (1 ≤ o.1) && (decide (o.1 ≤ 254) && decide (o.2.length ≤ 600))
def rightL (l : List O) : Bool := decide (l.length ≤ 60) && (l.all fitO && decide (codesL l).Nodup)
def hasL (l : List O) (c : Int) : Nat := (codesL l).count c
def placeN : List O → Int → Nat
  | [], _ => 0
  | o :: l, c => if o.1 = c then 0 else placeN l c + 1
def placeL (l : List O) (c : Int) : Int := if c ∈ codesL l then (placeN l c : Nat) else -1
def findL (l : List O) (c : Int) : Option (List UInt8) := (l.find? fun o => o.1 == c).map (·.2)
def joinO (c : Int) (d : List UInt8) (o : O) : O := if o.1 = c then (o.1, o.2 ++ d) else o
def joinedL (l : List O) (c : Int) (d : List UInt8) : List O := l.map (joinO c d) ++ (if c ∈ codesL l then [] else [(c, d)])
def joinAll (l m : List O) : List O := m.foldl (fun a o => joinedL a o.1 o.2) l
def joinL (l m : List O) : List O × Int := if rightL l = true ∧ rightL m = true then (if rightL (joinAll l m) = true then (joinAll l m, 0) else ([], 3)) else ([], 1)
def codeB (c : Int) : UInt8 := UInt8.ofNat c.toNat
def oneL (c : Int) (d : List UInt8) : List UInt8 :=
  if _h : d.length ≤ 255 then codeB c :: UInt8.ofNat d.length :: d else codeB c :: 255 :: (d.take 255 ++ oneL c (d.drop 255))
termination_by d.length
decreasing_by rw [List.length_drop]; omega
def bodyL (l : List O) : List UInt8 := l.flatMap fun o => oneL o.1 o.2
def writeL (l : List O) : List UInt8 := bodyL l ++ [255]
def readF : Nat → List O → List UInt8 → List O × Int
  | 0, l, _ => (l, 0)
  | _ + 1, l, [] => (l, 0)
  | f + 1, l, c :: t =>
    if c = 255 then (l, 0) else if c = 0 then readF f l t else
      match t with
      | [] => ([], 2)
      | n :: r => if r.length < n.toNat then ([], 2) else
          if rightL (joinedL l (c.toNat : Int) (r.take n.toNat)) = true then readF f (joinedL l (c.toNat : Int) (r.take n.toNat)) (r.drop n.toNat) else ([], 3)
def readL (l : List O) (b : List UInt8) : List O × Int := readF b.length l b

/-! ### Right -/
theorem fit_iff (o : O) : fitO o = true ↔ 1 ≤ o.1 ∧ o.1 ≤ 254 ∧ o.2.length ≤ 600 := by simp [fitO]
theorem right_iff (l : List O) : rightL l = true ↔ l.length ≤ 60 ∧ (∀ o ∈ l, 1 ≤ o.1 ∧ o.1 ≤ 254 ∧ o.2.length ≤ 600) ∧ (codesL l).Nodup := by
  unfold rightL
  rw [Bool.and_eq_true, Bool.and_eq_true, decide_eq_true_eq, decide_eq_true_eq, List.all_eq_true]
  constructor
  · rintro ⟨a, b, c⟩; exact ⟨a, fun o ho => (fit_iff o).1 (b o ho), c⟩
  · rintro ⟨a, b, c⟩; exact ⟨a, fun o ho => (fit_iff o).2 (b o ho), c⟩
theorem right_no {l : List O} (h : ¬ (l.length ≤ 60 ∧ (∀ o ∈ l, 1 ≤ o.1 ∧ o.1 ≤ 254 ∧ o.2.length ≤ 600) ∧ (codesL l).Nodup)) : rightL l = false := by
  cases e : rightL l with
  | false => rfl
  | true => exact absurd ((right_iff l).1 e) h
theorem right_len {l : List O} (h : rightL l = true) : l.length ≤ 60 := ((right_iff l).1 h).1
theorem right_fit {l : List O} (h : rightL l = true) {o : O} (ho : o ∈ l) : 1 ≤ o.1 ∧ o.1 ≤ 254 ∧ o.2.length ≤ 600 := ((right_iff l).1 h).2.1 o ho
theorem right_nodup {l : List O} (h : rightL l = true) : (codesL l).Nodup := ((right_iff l).1 h).2.2
theorem codes_len (l : List O) : (codesL l).length = l.length := by simp [codesL]
theorem codes_app (l m : List O) : codesL (l ++ m) = codesL l ++ codesL m := by simp [codesL]
theorem codes_take (l : List O) (k : Nat) : codesL (l.take k) = (codesL l).take k := by simp [codesL, List.map_take]
theorem codes_mem {l : List O} {o : O} (h : o ∈ l) : o.1 ∈ codesL l := List.mem_map.2 ⟨o, h, rfl⟩
theorem right_long {l : List O} (h : 60 < l.length) : rightL l = false := right_no fun ⟨a, _⟩ => by omega
theorem right_unfit {l : List O} {i : Nat} (h : i < l.length) (hf : ¬ (1 ≤ (l[i]).1 ∧ (l[i]).1 ≤ 254 ∧ (l[i]).2.length ≤ 600)) : rightL l = false :=
  right_no fun ⟨_, a, _⟩ => hf (a _ (List.getElem_mem h))
theorem take_snocO {l : List O} {k : Nat} (h : k < l.length) : l.take (k + 1) = l.take k ++ [l[k]] := List.take_succ_eq_append_getElem h
theorem nodup_snoc {α : Type} {l : List α} {a : α} : (l ++ [a]).Nodup ↔ l.Nodup ∧ a ∉ l := by
  rw [List.nodup_append]
  simp
  intro _
  constructor
  · intro h k; exact h a k rfl
  · intro h b hb e; subst e; exact h hb
theorem right_twice {l : List O} {i : Nat} (h : i < l.length) (hd : (l[i]).1 ∈ codesL (l.take i)) : rightL l = false := right_no fun ⟨_, _, hn⟩ => by
  have h1 : (codesL (l.take (i + 1))).Nodup := by
    rw [codes_take]
    exact List.Nodup.sublist (List.take_sublist _ _) hn
  rw [take_snocO h, codes_app] at h1
  exact (nodup_snoc.1 h1).2 hd
theorem right_step {l : List O} {i : Nat} (h : i < l.length) (hl : l.length ≤ 60) (hr : rightL (l.take i) = true) (hf : 1 ≤ (l[i]).1 ∧ (l[i]).1 ≤ 254 ∧ (l[i]).2.length ≤ 600) (hd : (l[i]).1 ∉ codesL (l.take i)) : rightL (l.take (i + 1)) = true := by
  rw [right_iff, take_snocO h, codes_app]
  refine ⟨by rw [List.length_append, List.length_take]; simp; omega, fun o ho => ?_, nodup_snoc.2 ⟨right_nodup hr, hd⟩⟩
  rcases List.mem_append.1 ho with ho | ho
  · exact right_fit hr ho
  · simp at ho; subst ho; exact hf
theorem right_has {l : List O} {i : Nat} (h : i < l.length) (hd : 1 < hasL l (l[i]).1) : rightL l = false := right_no fun ⟨_, _, hn⟩ => by
  have := List.nodup_iff_count.1 hn (l[i]).1
  unfold hasL at hd
  omega
theorem right_all {l : List O} (hl : l.length ≤ 60) (h : ∀ i (h : i < l.length), (1 ≤ (l[i]).1 ∧ (l[i]).1 ≤ 254 ∧ (l[i]).2.length ≤ 600) ∧ hasL l (l[i]).1 ≤ 1) : rightL l = true := by
  refine (right_iff l).2 ⟨hl, fun o ho => ?_, List.nodup_iff_count.2 fun a => ?_⟩
  · obtain ⟨i, hi, rfl⟩ := List.mem_iff_getElem.1 ho
    exact (h i hi).1
  · by_cases ha : a ∈ codesL l
    · obtain ⟨o, ho, rfl⟩ := List.mem_map.1 ha
      obtain ⟨i, hi, rfl⟩ := List.mem_iff_getElem.1 ho
      exact (h i hi).2
    · rw [List.count_eq_zero_of_not_mem ha]; omega
theorem has_next {l : List O} {k : Nat} (h : k < l.length) (c : Int) : hasL (l.take (k + 1)) c = hasL (l.take k) c + if (l[k]).1 = c then 1 else 0 := by
  unfold hasL
  rw [take_snocO h, codes_app, List.count_append]
  simp [codesL, List.count_cons]
theorem has_le (l : List O) (c : Int) : hasL l c ≤ l.length := by
  have := List.count_le_length (a := c) (l := codesL l)
  rw [codes_len] at this
  exact this
theorem has_zero {l : List O} {c : Int} : hasL l c = 0 ↔ c ∉ codesL l := List.count_eq_zero

/-! ### Place, find -/
theorem placeN_hit : ∀ {l : List O} {k : Nat} {c : Int} (h : k < l.length), (l[k]).1 = c → c ∉ codesL (l.take k) → placeN l c = k
  | o :: l, 0, c, _, hk, _ => by simp at hk; simp [placeN, hk]
  | o :: l, k + 1, c, h, hk, hn => by
    simp [codesL] at hn
    have h1 : ¬ o.1 = c := fun e => hn.1 e.symm
    have h2 := placeN_hit (l := l) (k := k) (c := c) (by simpa using h) (by simpa using hk) (by simpa [codesL] using hn.2)
    simp [placeN, h1, h2]
theorem placeN_mem : ∀ {l : List O} {c : Int}, c ∈ codesL l → ∃ (h : placeN l c < l.length), (l[placeN l c]).1 = c ∧ c ∉ codesL (l.take (placeN l c))
  | [], c, h => by simp [codesL] at h
  | o :: l, c, h => by
    by_cases h1 : o.1 = c
    · have e : placeN (o :: l) c = 0 := by simp [placeN, h1]
      rw [e]
      exact ⟨by simp, by simpa using h1, by simp [codesL]⟩
    · have e : placeN (o :: l) c = placeN l c + 1 := by simp [placeN, h1]
      have hm : c ∈ codesL l := by
        simp only [codesL, List.map_cons, List.mem_cons] at h
        rcases h with h | h
        · exact absurd h.symm h1
        · exact h
      obtain ⟨a, b, d⟩ := placeN_mem hm
      rw [e]
      refine ⟨by simpa using a, by simpa using b, ?_⟩
      rw [List.take_succ_cons]
      simp only [codesL, List.map_cons, List.mem_cons, not_or] at d ⊢
      exact ⟨fun e => h1 e.symm, d⟩
theorem place_hit {l : List O} {k : Nat} {c : Int} (h : k < l.length) (hk : (l[k]).1 = c) (hn : c ∉ codesL (l.take k)) : placeL l c = (k : Int) := by
  have hm : c ∈ codesL l := by rw [← hk]; exact codes_mem (List.getElem_mem h)
  unfold placeL
  rw [if_pos hm, placeN_hit h hk hn]
theorem place_none {l : List O} {c : Int} (hn : c ∉ codesL l) : placeL l c = -1 := by unfold placeL; rw [if_neg hn]
theorem place_mem {l : List O} {c : Int} (h : c ∈ codesL l) : ∃ (i : Nat) (hi : i < l.length), placeL l c = (i : Int) ∧ (l[i]).1 = c ∧ c ∉ codesL (l.take i) := by
  obtain ⟨a, b, d⟩ := placeN_mem h
  exact ⟨placeN l c, a, by unfold placeL; rw [if_pos h], b, d⟩
theorem find_hit {l : List O} {k : Nat} {c : Int} (h : k < l.length) (hk : (l[k]).1 = c) (hn : c ∉ codesL (l.take k)) : findL l c = some (l[k]).2 := by
  unfold findL
  have hs : l = l.take k ++ l[k] :: l.drop (k + 1) := by rw [← List.drop_eq_getElem_cons h, List.take_append_drop]
  have h0 : (l.take k).find? (fun o => o.1 == c) = none := by
    rw [List.find?_eq_none]
    intro o ho e
    exact hn (by simp at e; rw [← e]; exact codes_mem ho)
  have : l.find? (fun o => o.1 == c) = some l[k] := by
    conv => lhs; rw [hs]
    rw [List.find?_append, h0, List.find?_cons_of_pos (by simp [hk])]
    rfl
  rw [this]
  rfl
theorem find_none {l : List O} {c : Int} (hn : c ∉ codesL l) : findL l c = none := by
  unfold findL
  have h0 : l.find? (fun o => o.1 == c) = none := by
    rw [List.find?_eq_none]
    intro o ho e
    exact hn (by simp at e; rw [← e]; exact codes_mem ho)
  rw [h0]
  rfl
theorem not_codes_next {l : List O} {k : Nat} {c : Int} (h : k < l.length) (hn : c ∉ codesL (l.take k)) (hk : (l[k]).1 ≠ c) : c ∉ codesL (l.take (k + 1)) := by
  rw [take_snocO h, codes_app]
  simp [codesL] at hn ⊢
  exact ⟨hn, fun e => hk e.symm⟩

/-! ### Joined -/

/-! ### Written, read -/
theorem one_small {c : Int} {d : List UInt8} (h : d.length ≤ 255) : oneL c d = codeB c :: UInt8.ofNat d.length :: d := by rw [oneL, dif_pos h]
theorem one_big {c : Int} {d : List UInt8} (h : 255 < d.length) : oneL c d = codeB c :: 255 :: (d.take 255 ++ oneL c (d.drop 255)) := by rw [oneL, dif_neg (by omega)]
theorem one_len (c : Int) (d : List UInt8) : (oneL c d).length ≤ 2 * d.length + 2 := by
  by_cases h : d.length ≤ 255
  · rw [one_small h]; simp; omega
  · rw [one_big (by omega)]
    have := one_len c (d.drop 255)
    rw [List.length_drop] at this
    simp
    omega
termination_by d.length
decreasing_by rw [List.length_drop]; omega
theorem body_app (l m : List O) : bodyL (l ++ m) = bodyL l ++ bodyL m := by unfold bodyL; rw [List.flatMap_append]
theorem body_next {l : List O} {k : Nat} (h : k < l.length) : bodyL (l.take (k + 1)) = bodyL (l.take k) ++ oneL (l[k]).1 (l[k]).2 := by
  rw [take_snocO h, body_app]; simp [bodyL]
theorem body_len : ∀ {l : List O}, (∀ o ∈ l, o.2.length ≤ 600) → (bodyL l).length ≤ 1202 * l.length
  | [], _ => by simp [bodyL]
  | o :: l, h => by
    have h1 := one_len o.1 o.2
    have h2 := body_len (l := l) fun x hx => h x (.tail _ hx)
    have h3 := h o (.head _)
    have : bodyL (o :: l) = oneL o.1 o.2 ++ bodyL l := by simp [bodyL]
    rw [this, List.length_append, List.length_cons]
    omega
theorem body_len_right {l : List O} (h : rightL l = true) (k : Nat) : (bodyL (l.take k)).length ≤ 72120 := by
  have h1 := body_len (l := l.take k) fun o ho => (right_fit h (List.mem_of_mem_take ho)).2.2
  have h2 := right_len h
  rw [List.length_take] at h1
  omega
theorem readF_more : ∀ (f g : Nat) (l : List O) (b : List UInt8), b.length ≤ f → b.length ≤ g → readF f l b = readF g l b
  | 0, 0, _, _, _, _ => rfl
  | 0, g + 1, l, [], _, _ => rfl
  | f + 1, 0, l, [], _, _ => rfl
  | f + 1, g + 1, l, [], _, _ => rfl
  | f + 1, g + 1, l, c :: t, hf, hg => by
    simp only [readF]
    simp at hf hg
    by_cases h1 : c = 255
    · rw [if_pos h1, if_pos h1]
    · rw [if_neg h1, if_neg h1]
      by_cases h2 : c = 0
      · rw [if_pos h2, if_pos h2]
        exact readF_more f g l t hf hg
      · rw [if_neg h2, if_neg h2]
        cases t with
        | nil => rfl
        | cons n r =>
          simp only
          simp at hf hg
          by_cases h3 : r.length < n.toNat
          · rw [if_pos h3, if_pos h3]
          · rw [if_neg h3, if_neg h3]
            by_cases h4 : rightL (joinedL l (c.toNat : Int) (r.take n.toNat)) = true
            · rw [if_pos h4, if_pos h4]
              exact readF_more f g _ _ (by rw [List.length_drop]; omega) (by rw [List.length_drop]; omega)
            · rw [if_neg h4, if_neg h4]
theorem read_part (l : List O) {c n : UInt8} {r : List UInt8} (h1 : c ≠ 255) (h2 : c ≠ 0) (h3 : n.toNat ≤ r.length) :
    readL l (c :: n :: r) = if rightL (joinedL l (c.toNat : Int) (r.take n.toNat)) = true then readL (joinedL l (c.toNat : Int) (r.take n.toNat)) (r.drop n.toNat) else ([], 3) := by
  unfold readL
  simp only [List.length_cons, readF, h1, h2, if_false, show ¬ r.length < n.toNat by omega]
  split
  · exact readF_more _ _ _ _ (by rw [List.length_drop]; omega) (Nat.le_refl _)
  · rfl
theorem codeB_nat {c : Int} (h1 : 1 ≤ c) (h2 : c ≤ 254) : ((codeB c).toNat : Int) = c ∧ codeB c ≠ 255 ∧ codeB c ≠ 0 := by
  have h : (codeB c).toNat = c.toNat := by
    unfold codeB
    rw [UInt8.toNat_ofNat']
    omega
  refine ⟨by rw [h]; omega, fun e => ?_, fun e => ?_⟩
  · have : (codeB c).toNat = 255 := by rw [e]; rfl
    omega
  · have : (codeB c).toNat = 0 := by rw [e]; rfl
    omega
end Go.Proofs.YtoldppbakapohaaGreatDoor.Tl
end
/- Messages as lists of bytes: which are right, how they are written and read, options in the file and the name. Plain mathematics, no program. -/
section
namespace Go.Proofs.YtoldppbakapohaaGreatDoor.Ms
open Tl Co

structure M where
  op : Int
  htype : Int
  hlen : Int
  hops : Int
  xid : Int
  secs : Int
  flags : Int
  ci : Int
  yi : Int
  si : Int
  gi : Int
  ch : List UInt8
  os : List O
def zeroM : M := ⟨0, 0, 0, 0, 0, 0, 0, 0, 0, 0, 0, [], []⟩
def HeadOk (m : M) : Prop := (0 ≤ m.op ∧ m.op ≤ 255) ∧ (0 ≤ m.htype ∧ m.htype ≤ 255) ∧ (0 ≤ m.hlen ∧ m.hlen ≤ 16) ∧ (0 ≤ m.hops ∧ m.hops ≤ 255) ∧ (0 ≤ m.xid ∧ m.xid ≤ 4294967295) ∧ (0 ≤ m.secs ∧ m.secs ≤ 65535) ∧ (0 ≤ m.flags ∧ m.flags ≤ 65535) ∧
  (0 ≤ m.ci ∧ m.ci ≤ 4294967295) ∧ (0 ≤ m.yi ∧ m.yi ≤ 4294967295) ∧ (0 ≤ m.si ∧ m.si ≤ 4294967295) ∧ (0 ≤ m.gi ∧ m.gi ≤ 4294967295)
instance (m : M) : Decidable (HeadOk m) := by unfold HeadOk; infer_instance
def RightM (m : M) : Prop := HeadOk m ∧ m.ch.length = 16 ∧ rightL m.os = true ∧ hasL m.os 52 = 0
instance (m : M) : Decidable (RightM m) := by unfold RightM; infer_instance
def rightM (m : M) : Bool := decide (RightM m)
def byteI (v : Int) : UInt8 := UInt8.ofNat v.toNat
def numB (v : Int) (n : Nat) : List UInt8 := putL v.toNat n
def cookieL : List UInt8 := [99, 130, 83, 99]
def headL (m : M) : List UInt8 := [byteI m.op, byteI m.htype, byteI m.hlen, byteI m.hops] ++ (numB m.xid 4 ++ (numB m.secs 2 ++ (numB m.flags 2 ++ (numB m.ci 4 ++ (numB m.yi 4 ++ (numB m.si 4 ++ (numB m.gi 4 ++ m.ch)))))))
def padL (b : List UInt8) : List UInt8 := b ++ List.replicate (300 - b.length) 0
def bodyM (m : M) : List UInt8 := headL m ++ (List.replicate 192 0 ++ (cookieL ++ writeL m.os))
def bytesM (m : M) : List UInt8 := padL (bodyM m)
def sub (b : List UInt8) (i n : Nat) : List UInt8 := (b.drop i).take n
def withoutL (l : List O) (c : Int) : List O := l.filter fun o => !(o.1 == c)
def areaL (l : List O) (a : List UInt8) : List O × Int := if (readL [] a).2 ≠ 0 then ([], (readL [] a).2) else if 0 < hasL (readL [] a).1 52 then ([], 2) else joinL l (readL [] a).1
/-- Behind the cookie's options: the value of overload, the two rooms. -/
def roomsL (l : List O) (x : UInt8) (file name : List UInt8) : List O × Int :=
  if x ≠ 2 then (if (areaL l file).2 ≠ 0 then ([], (areaL l file).2) else if x ≠ 1 then areaL (areaL l file).1 name else ((areaL l file).1, 0)) else areaL l name
def overL (l : List O) (d : List UInt8) (file name : List UInt8) : List O × Int :=
  match d with
  | [x] => if x = 0 ∨ 3 < x then ([], 2) else roomsL (withoutL l 52) x file name
  | _ => ([], 2)
def optionsL (b : List UInt8) : List O × Int :=
  if (readL [] (b.drop 240)).2 ≠ 0 then ([], (readL [] (b.drop 240)).2) else
    match findL (readL [] (b.drop 240)).1 52 with
    | none => ((readL [] (b.drop 240)).1, 0)
    | some d => overL (readL [] (b.drop 240)).1 d (sub b 108 128) (sub b 44 64)

/-! ### Pieces -/
theorem numB_len (v : Int) (n : Nat) : (numB v n).length = n := putL_length n _
theorem head_len {m : M} (h : m.ch.length = 16) : (headL m).length = 44 := by
  unfold headL
  simp only [List.length_append, List.length_cons, List.length_nil, numB_len, h]
theorem body_lenM {m : M} (h : m.ch.length = 16) : (bodyM m).length = 240 + (writeL m.os).length := by
  unfold bodyM
  simp only [List.length_append, head_len h, List.length_replicate]
  show 44 + (192 + (4 + _)) = _
  omega
theorem num_back {v : Int} {n : Nat} (h0 : 0 ≤ v) (h1 : v < ((p256 n : Nat) : Int)) : ((valL (numB v n) : Nat) : Int) = v := by
  unfold numB
  rw [valL_putL n v.toNat (by omega)]
  omega
theorem byteI_back {v : Int} (h0 : 0 ≤ v) (h1 : v ≤ 255) : ((byteI v).toNat : Int) = v := by
  unfold byteI
  rw [UInt8.toNat_ofNat']
  omega

/-! ### Right -/
theorem rightM_iff (m : M) : rightM m = true ↔ RightM m := by unfold rightM; exact decide_eq_true_iff
theorem without_codes (l : List O) (c : Int) : codesL (withoutL l c) = (codesL l).filter fun x => !(x == c) := by
  unfold withoutL codesL
  rw [List.filter_map]
  rfl
theorem one_of_len {d : List UInt8} (h : d.length = 1) : ∃ x, d = [x] := by
  match d, h with
  | [x], _ => exact ⟨x, rfl⟩

/-! ### Back -/
end Go.Proofs.YtoldppbakapohaaGreatDoor.Ms
end
/- Plain facts on numbers, for the layer of addresses and prefixes; no program is spoken of. No conditions. -/
section
namespace Go.Proofs.YtoldppbakapohaaGreatDoor.Ad

/-- How many addresses a prefix of so many bits has. -/
def sz (k : Int) : Int := 2 ^ (32 - k).toNat
def rightB (a : Int) : Bool := decide (0 ≤ a ∧ a ≤ 4294967295)
def bitsB (k : Int) : Bool := decide (0 ≤ k ∧ k ≤ 32)
def fairB (b k : Int) : Bool := bitsB k && rightB b && decide (b % sz k = 0)
def hasB (b k a : Int) : Bool := fairB b k && rightB a && decide (b ≤ a ∧ a < b + sz k)
def meetB (b k c l : Int) : Bool := fairB b k && fairB c l && decide (b ≤ c + sz l - 1 ∧ c ≤ b + sz k - 1)

theorem rightB_iff {a : Int} : rightB a = true ↔ 0 ≤ a ∧ a ≤ 4294967295 := by simp [rightB]
theorem bitsB_iff {a : Int} : bitsB a = true ↔ 0 ≤ a ∧ a ≤ 32 := by simp [bitsB]
theorem fairB_iff {b k : Int} : fairB b k = true ↔ (0 ≤ k ∧ k ≤ 32) ∧ (0 ≤ b ∧ b ≤ 4294967295) ∧ b % sz k = 0 := by
  simp [fairB, rightB, bitsB, and_assoc]
theorem hasB_iff {b k a : Int} : hasB b k a = true ↔ fairB b k = true ∧ (0 ≤ a ∧ a ≤ 4294967295) ∧ (b ≤ a ∧ a < b + sz k) := by
  simp [hasB, rightB, and_assoc]
theorem meetB_iff {b k c l : Int} : meetB b k c l = true ↔ fairB b k = true ∧ fairB c l = true ∧ (b ≤ c + sz l - 1 ∧ c ≤ b + sz k - 1) := by
  simp [meetB, and_assoc]

theorem pow_split (m n : Nat) (h : m ≤ n) : (2 : Int) ^ n = 2 ^ m * 2 ^ (n - m) := by
  rw [← Int.pow_add]; congr 1; omega
theorem sz_pos {k : Int} : 1 ≤ sz k := by
  unfold sz
  have : (0 : Int) < 2 ^ (32 - k).toNat := Int.pow_pos (by omega)
  omega
theorem sz_le {k : Int} (h : 0 ≤ k) : sz k ≤ 4294967296 := by
  unfold sz
  rw [show (4294967296 : Int) = 2 ^ 32 from rfl, pow_split (32 - k).toNat 32 (by omega)]
  have h1 : (0 : Int) < 2 ^ (32 - k).toNat := Int.pow_pos (by omega)
  have h2 : (0 : Int) < 2 ^ (32 - (32 - k).toNat) := Int.pow_pos (by omega)
  have : (2 : Int) ^ (32 - k).toNat * 1 ≤ 2 ^ (32 - k).toNat * 2 ^ (32 - (32 - k).toNat) := Int.mul_le_mul_of_nonneg_left (by omega) (by omega)
  omega
/-- Of two prefixes the one with fewer bits has a multiple of the other one's addresses. -/
theorem sz_dvd {k l : Int} (h : k ≤ l) : sz l ∣ sz k := by
  unfold sz
  rw [pow_split (32 - l).toNat (32 - k).toNat (by omega)]
  exact Int.dvd_mul_right _ _
theorem sz_dvd_top {k : Int} (h : 0 ≤ k) : sz k ∣ 4294967296 := by
  have := sz_dvd (k := 0) (l := k) h
  rwa [show sz 0 = 4294967296 from rfl] at this

/-- A prefix ends within the addresses. -/
theorem last_le {b k : Int} (h : fairB b k = true) : b + sz k ≤ 4294967296 := by
  obtain ⟨⟨k0, k1⟩, ⟨b0, b1⟩, hm⟩ := fairB_iff.1 h
  obtain ⟨t, ht⟩ := sz_dvd_top k0
  obtain ⟨u, hu⟩ := Int.dvd_of_emod_eq_zero hm
  have hp := sz_pos (k := k)
  have : u < t := by
    have : sz k * u < sz k * t := by omega
    exact Int.lt_of_mul_lt_mul_left this (by omega)
  have : sz k * (u + 1) ≤ sz k * t := Int.mul_le_mul_of_nonneg_left (by omega) (by omega)
  rw [Int.mul_add, Int.mul_one] at this
  omega

/-- What the code asks of an address of a prefix, and what the document does. -/
theorem has_code {b k a : Int} (h : fairB b k = true) : (a - a % sz k = b) ↔ (b ≤ a ∧ a < b + sz k) := by
  obtain ⟨_, _, hm⟩ := fairB_iff.1 h
  have hp := sz_pos (k := k)
  obtain ⟨u, hu⟩ := Int.dvd_of_emod_eq_zero hm
  have h1 := Int.emod_nonneg a (b := sz k) (by omega)
  have h2 := Int.emod_lt_of_pos a (b := sz k) (by omega)
  have h3 := Int.emod_add_mul_ediv a (sz k)
  constructor
  · intro e; omega
  · rintro ⟨e1, e2⟩
    have e3 : sz k * u < sz k * (a / sz k + 1) := by rw [Int.mul_add, Int.mul_one]; omega
    have e4 : sz k * (a / sz k) < sz k * (u + 1) := by rw [Int.mul_add, Int.mul_one]; omega
    have e5 := Int.lt_of_mul_lt_mul_left e3 (by omega)
    have e6 := Int.lt_of_mul_lt_mul_left e4 (by omega)
    have e7 : u = a / sz k := by omega
    rw [← e7] at h3
    omega

/-- Two prefixes that meet: the one with fewer bits has all of the other one. -/
theorem nested {b k c l : Int} (hb : fairB b k = true) (hc : fairB c l = true) (hkl : k ≤ l) (h1 : b ≤ c + sz l - 1) (h2 : c ≤ b + sz k - 1) :
    b ≤ c ∧ c + sz l ≤ b + sz k := by
  obtain ⟨_, _, hm⟩ := fairB_iff.1 hb
  obtain ⟨_, _, hn⟩ := fairB_iff.1 hc
  have hp := sz_pos (k := l)
  obtain ⟨t, ht⟩ := sz_dvd hkl
  obtain ⟨u, hu⟩ := Int.dvd_of_emod_eq_zero hm
  obtain ⟨v, hv⟩ := Int.dvd_of_emod_eq_zero hn
  rw [ht, Int.mul_assoc] at hu
  generalize t * u = x at hu
  generalize sz l = z at *
  rw [ht] at h2 ⊢
  subst hu; subst hv
  have e1 : z * x < z * (v + 1) := by rw [Int.mul_add, Int.mul_one]; omega
  have e2 : z * v < z * (x + t) := by rw [Int.mul_add]; omega
  have e3 := Int.lt_of_mul_lt_mul_left e1 (by omega)
  have e4 := Int.lt_of_mul_lt_mul_left e2 (by omega)
  refine ⟨Int.mul_le_mul_of_nonneg_left (by omega) (by omega), ?_⟩
  have : z * (v + 1) ≤ z * (x + t) := Int.mul_le_mul_of_nonneg_left (by omega) (by omega)
  rw [Int.mul_add, Int.mul_add, Int.mul_one] at this
  omega

/-- Two prefixes meet just if one of them has the other one's base. -/
theorem meet_code {b k c l : Int} (hb : fairB b k = true) (hc : fairB c l = true) : (hasB b k c || hasB c l b) = meetB b k c l := by
  obtain ⟨_, ⟨_, _⟩, _⟩ := fairB_iff.1 hb
  obtain ⟨_, ⟨_, _⟩, _⟩ := fairB_iff.1 hc
  have p1 := sz_pos (k := k)
  have p2 := sz_pos (k := l)
  rw [Bool.eq_iff_iff, Bool.or_eq_true, hasB_iff, hasB_iff, meetB_iff]
  constructor
  · rintro (⟨_, _, _, _⟩ | ⟨_, _, _, _⟩) <;> exact ⟨hb, hc, by omega, by omega⟩
  · rintro ⟨_, _, h1, h2⟩
    rcases Int.le_total k l with hkl | hkl
    · have := nested hb hc hkl h1 h2
      exact .inl ⟨hb, ⟨by omega, by omega⟩, by omega, by omega⟩
    · have := nested hc hb hkl h2 h1
      exact .inr ⟨hc, ⟨by omega, by omega⟩, by omega, by omega⟩
end Go.Proofs.YtoldppbakapohaaGreatDoor.Ad
end
/- The mathematics of layer 7 (key): keys, their texts, what is read of a text, the key of a message. No program. -/
section
namespace Go.Proofs.YtoldppbakapohaaGreatDoor.Ky
open Tl Ms

def rightK : List UInt8 → Bool
  | [] => false
  | x :: t => (x == 105 && decide (2 ≤ t.length ∧ t.length ≤ 255)) || (x == 104 && decide (2 ≤ t.length ∧ t.length ≤ 17))
def hexD (n : Nat) : UInt8 := if n < 10 then UInt8.ofNat (48 + n) else UInt8.ofNat (87 + n)
def hexL (t : List UInt8) : List UInt8 := t.flatMap fun b => [hexD (b.toNat / 16), hexD (b.toNat % 16)]
def textK : List UInt8 → List UInt8
  | [] => []
  | x :: t => x :: 45 :: hexL t

theorem hexL_cons (b : UInt8) (t : List UInt8) : hexL (b :: t) = hexD (b.toNat / 16) :: hexD (b.toNat % 16) :: hexL t := by simp [hexL]
theorem hexL_len : ∀ t : List UInt8, (hexL t).length = 2 * t.length
  | [] => rfl
  | b :: t => by rw [hexL_cons, List.length_cons, List.length_cons, List.length_cons, hexL_len t]; omega
theorem right_cons {k : List UInt8} (h : rightK k = true) : ∃ x t, k = x :: t ∧ 2 ≤ t.length ∧ t.length ≤ 255 := by
  match k, h with
  | x :: t, h =>
    unfold rightK at h
    simp only [Bool.or_eq_true, Bool.and_eq_true, decide_eq_true_eq] at h
    exact ⟨x, t, rfl, by omega, by omega⟩
theorem text_len {k : List UInt8} (h : rightK k = true) : (textK k).length = 2 * k.length ∧ 3 ≤ k.length ∧ k.length ≤ 256 := by
  obtain ⟨x, t, rfl, h1, h2⟩ := right_cons h
  rw [textK, List.length_cons, List.length_cons, hexL_len, List.length_cons]
  omega
/-! ### The document's way of reading: what it may be the text of has just this text -/
/-! ### The key of a message -/
def clientL (m : M) : List UInt8 := (findL m.os 61).getD []
def ofK (m : M) : List UInt8 × Int :=
  if RightM m then (if 255 < (clientL m).length then ([], 3) else if 1 < (clientL m).length then (105 :: clientL m, 0) else if m.hlen = 0 then ([], 5) else (104 :: byteI m.htype :: m.ch.take m.hlen.toNat, 0)) else ([], 1)
theorem of_wrong {m : M} (h : ¬ RightM m) : ofK m = ([], 1) := by unfold ofK; rw [if_neg h]
theorem of_full {m : M} (h : RightM m) (h1 : 255 < (clientL m).length) : ofK m = ([], 3) := by unfold ofK; rw [if_pos h, if_pos h1]
theorem of_client {m : M} (h : RightM m) (h1 : ¬ 255 < (clientL m).length) (h2 : 1 < (clientL m).length) : ofK m = (105 :: clientL m, 0) := by unfold ofK; rw [if_pos h, if_neg h1, if_pos h2]
theorem of_none {m : M} (h : RightM m) (h2 : ¬ 1 < (clientL m).length) (h3 : m.hlen = 0) : ofK m = ([], 5) := by unfold ofK; rw [if_pos h, if_neg (by omega), if_neg h2, if_pos h3]
theorem of_head {m : M} (h : RightM m) (h2 : ¬ 1 < (clientL m).length) (h3 : m.hlen ≠ 0) : ofK m = (104 :: byteI m.htype :: m.ch.take m.hlen.toNat, 0) := by unfold ofK; rw [if_pos h, if_neg (by omega), if_neg h2, if_neg h3]
/-- A key that is told is right. -/
theorem of_right {m : M} (h : (ofK m).2 = 0) : rightK (ofK m).1 = true := by
  by_cases h0 : RightM m
  · by_cases h1 : 255 < (clientL m).length
    · rw [of_full h0 h1] at h; cases h
    · by_cases h2 : 1 < (clientL m).length
      · rw [of_client h0 h1 h2]
        unfold rightK
        simp only [Bool.or_eq_true, Bool.and_eq_true, decide_eq_true_eq]
        exact .inl ⟨rfl, by omega, by omega⟩
      · by_cases h3 : m.hlen = 0
        · rw [of_none h0 h2 h3] at h; cases h
        · rw [of_head h0 h2 h3]
          obtain ⟨hh, hc, _⟩ := h0
          obtain ⟨_, _, ⟨a, b⟩, _⟩ := hh
          unfold rightK
          simp only [Bool.or_eq_true, Bool.and_eq_true, decide_eq_true_eq]
          refine .inr ⟨rfl, ?_, ?_⟩ <;> rw [List.length_cons, List.length_take, hc] <;> omega
  · rw [of_wrong h0] at h; cases h
end Go.Proofs.YtoldppbakapohaaGreatDoor.Ky
end
/- The mathematics of layer 13 (conf): configurations, what is wrong with them, what is found in them; and what follows (P13.4; the order of the networks). No program. -/
section
namespace Go.Proofs.YtoldppbakapohaaGreatDoor.Cf
open Ad Ky

structure Pl where
  first : Int
  last : Int
structure Rs where
  key : List UInt8
  addr : Int
structure Sn where
  base : Int
  bits : Int
  pools : List Pl
  res : List Rs
  iface : Int
  router : Int
  time : Int
structure Cf where
  server : Int
  prob : Int
  nets : List (List Sn)

/-! ### Pairs -/
section
variable {α β : Type}
def pairB (p : α → α → Bool) : List α → Bool
  | [] => false
  | a :: l => l.any (fun b => p b a) || pairB p l
theorem pair_iff {p : α → α → Bool} : ∀ {l : List α}, pairB p l = false ↔ l.Pairwise fun a b => p b a = false
  | [] => ⟨fun _ => List.Pairwise.nil, fun _ => rfl⟩
  | a :: l => by rw [pairB, Bool.or_eq_false_iff, pair_iff, List.pairwise_cons, List.any_eq_false]; simp
theorem pair_snoc (p : α → α → Bool) : ∀ (l : List α) (b : α), pairB p (l ++ [b]) = (pairB p l || l.any fun a => p b a)
  | [], b => rfl
  | a :: l, b => by
    rw [List.cons_append, pairB, pair_snoc, pairB, List.any_append, List.any_cons, List.any_cons, List.any_nil, Bool.or_false]
    ac_rfl
theorem pair_app (p : α → α → Bool) (l m : List α) : pairB p (l ++ m) = (pairB p l || (pairB p m || m.any fun b => l.any fun a => p b a)) := by
  induction l with
  | nil => simp [pairB]
  | cons a l ih =>
    rw [List.cons_append, pairB, ih, pairB, List.any_append]
    have : (m.any fun b => (a :: l).any fun a => p b a) = (m.any (fun b => p b a) || m.any fun b => l.any fun a => p b a) := by
      clear ih
      induction m with
      | nil => rfl
      | cons b m ih =>
        rw [List.any_cons, List.any_cons, List.any_cons, List.any_cons, ih]
        ac_rfl
    rw [this]
    ac_rfl
theorem pair_mem {R : α → α → Prop} : ∀ {l : List α}, l.Pairwise R → ∀ {a b}, a ∈ l → b ∈ l → a = b ∨ R a b ∨ R b a
  | c :: l, h, a, b, ha, hb => by
    obtain ⟨h1, h2⟩ := List.pairwise_cons.1 h
    rcases List.mem_cons.1 ha with e | k <;> rcases List.mem_cons.1 hb with f | q
    · exact .inl (e.trans f.symm)
    · exact .inr (.inl (e ▸ h1 b q))
    · exact .inr (.inr (f ▸ h1 a k))
    · exact pair_mem h2 k q
theorem pair_map {p : α → α → Bool} {q : β → β → Bool} (f : α → β) (h : ∀ a b, q (f a) (f b) = p a b) : ∀ l : List α, pairB q (l.map f) = pairB p l
  | [] => rfl
  | a :: l => by
    rw [List.map_cons, pairB, pairB, pair_map f h l, List.any_map]
    congr 1
    exact congrArg (l.any ·) (funext fun b => h b a)
end

/-! ### What is wrong -/
def resF (r : Rs) : Bool := rightK r.key
def poolF (p : Pl) : Bool := decide (p.first ≤ p.last)
def snF (s : Sn) : Bool :=
  fairB s.base s.bits && decide (8 ≤ s.bits ∧ s.bits ≤ 30) && decide (s.pools.length ≤ 4) && decide (s.res.length ≤ 8) &&
    decide (0 ≤ s.iface ∧ s.iface ≤ 99) && decide (1 ≤ s.time ∧ s.time ≤ 2147483648) && s.pools.all poolF && s.res.all resF
def netF (n : List Sn) : Bool := decide (1 ≤ n.length ∧ n.length ≤ 4) && n.all snF
def formC (c : Cf) : Bool := rightB c.server && decide (1 ≤ c.prob ∧ c.prob ≤ 2147483648) && decide (c.nets.length ≤ 4) && c.nets.all netF
def lendsB (s : Sn) (a : Int) : Bool := decide (s.base < a ∧ a < s.base + sz s.bits - 1)
def inPl (p : Pl) (a : Int) : Bool := decide (p.first ≤ a ∧ a ≤ p.last)
def poolO (srv : Int) (s : Sn) (p : Pl) : Bool := lendsB s p.first && lendsB s p.last && !inPl p srv
def resO (srv : Int) (s : Sn) (r : Rs) : Bool := lendsB s r.addr && !decide (r.addr = srv)
def snO (srv : Int) (s : Sn) : Bool := s.pools.all (poolO srv s) && s.res.all (resO srv s) && (decide (s.router = 0) || hasB s.base s.bits s.router)
def placesC (c : Cf) : Bool := c.nets.all fun n => n.all (snO c.server)
/-- All subnets, and of each its network. -/
def flatN : Nat → List (List Sn) → List (Nat × Sn)
  | _, [] => []
  | i, n :: r => n.map (fun s => (i, s)) ++ flatN (i + 1) r
def resN (x : Nat × Sn) : List (Nat × Rs) := x.2.res.map fun r => (x.1, r)
def resA (l : List (Nat × Sn)) : List (Nat × Rs) := l.flatMap resN
def plMeet (p q : Pl) : Bool := decide (p.first ≤ q.last ∧ q.first ≤ p.last)
def snClash (x y : Nat × Sn) : Bool := meetB x.2.base x.2.bits y.2.base y.2.bits || (decide (x.1 ≠ y.1) && decide (0 < x.2.iface) && decide (x.2.iface = y.2.iface))
def rsClash (x y : Nat × Rs) : Bool := decide (x.2.addr = y.2.addr) || (decide (x.1 = y.1) && decide (x.2.key = y.2.key))
def pooledB (s : Sn) : Bool := pairB plMeet s.pools
def twiceL (l : List (Nat × Sn)) : Bool := l.any (fun x => pooledB x.2) || pairB snClash l || pairB rsClash (resA l)
def twiceC (c : Cf) : Bool := twiceL (flatN 0 c.nets)
def checkC (c : Cf) : Int := if formC c = true then (if placesC c = true then (if twiceC c = true then 8 else 0) else 9) else 1
theorem check_ok {c : Cf} : checkC c = 0 ↔ formC c = true ∧ placesC c = true ∧ twiceC c = false := by
  unfold checkC
  by_cases h1 : formC c = true
  · by_cases h2 : placesC c = true
    · by_cases h3 : twiceC c = true
      · simp [h1, h2, h3]
      · simp [h1, h2, h3]
    · simp [h1, h2]
  · simp [h1]

/-! ### What is found -/
def findN (p : Sn → Bool) : Nat → List (List Sn) → Option (Nat × Nat)
  | _, [] => none
  | i, n :: r => match n.findIdx? p with
    | some k => some (i, k)
    | none => findN p (i + 1) r
def ansP : Option (Nat × Nat) → Int × Int × Bool
  | some (i, k) => (i, k, true)
  | none => (0, 0, false)
def findC (c : Cf) (a : Int) : Int × Int × Bool := if checkC c = 0 then ansP (findN (fun s => hasB s.base s.bits a) 0 c.nets) else (0, 0, false)
def wireC (c : Cf) (iface : Int) : Int × Int × Bool := if checkC c = 0 ∧ 1 ≤ iface then ansP (findN (fun s => decide (s.iface = iface)) 0 c.nets) else (0, 0, false)
/-- The network with an index; none, if the configuration isn't valid. -/
def netC (c : Cf) (net : Int) : List Sn := if checkC c = 0 ∧ 0 ≤ net ∧ net < c.nets.length then c.nets.getD net.toNat [] else []
def keptN (n : List Sn) (k : List UInt8) : Option Rs := (n.flatMap fun s => s.res).find? fun r => decide (r.key = k)
def ansA : Option Rs → Int × Bool
  | some r => (r.addr, true)
  | none => (0, false)
def keptC (c : Cf) (net : Int) (k : List UInt8) : Int × Bool := ansA (keptN (netC c net) k)
def ansK : Option Rs → List UInt8 × Bool
  | some r => (r.key, true)
  | none => ([], false)
def keeperN (n : List Sn) (a : Int) : Option Rs := (n.flatMap fun s => s.res).find? fun r => decide (r.addr = a)
def keeperC (c : Cf) (a : Int) : List UInt8 × Bool := if checkC c = 0 then ansK (keeperN c.nets.flatten a) else ([], false)
def pooledN (n : List Sn) (a : Int) : Bool := n.any fun s => s.pools.any fun p => inPl p a
def inPoolC (c : Cf) (net a : Int) : Bool := pooledN (netC c net) a
theorem net_at {c : Cf} {net : Int} {s : Sn} (h : s ∈ netC c net) : checkC c = 0 ∧ ∃ i : Nat, net = i ∧ ∃ hi : i < c.nets.length, s ∈ c.nets[i] := by
  unfold netC at h
  split at h
  · next hh =>
    refine ⟨hh.1, net.toNat, by omega, by omega, ?_⟩
    rw [List.getD_eq_getElem?_getD, List.getElem?_eq_getElem (by omega)] at h
    exact h
  · cases h

/-! ### All subnets -/
theorem mem_flatN {x : Nat × Sn} : ∀ {l : List (List Sn)} {i : Nat}, x ∈ flatN i l ↔ i ≤ x.1 ∧ ∃ h : x.1 - i < l.length, x.2 ∈ l[x.1 - i]
  | [], i => ⟨fun h => (by cases h), fun ⟨_, h, _⟩ => absurd h (Nat.not_lt_zero _)⟩
  | n :: r, i => by
    rw [flatN, List.mem_append, mem_flatN, List.mem_map]
    constructor
    · rintro (⟨s, hs, rfl⟩ | ⟨h1, h2, h3⟩)
      · exact ⟨Nat.le_refl _, by simp, by simpa using hs⟩
      · refine ⟨by omega, by rw [List.length_cons]; omega, ?_⟩
        rw [List.getElem_cons]
        rw [dif_neg (by omega)]
        have e : x.1 - i - 1 = x.1 - (i + 1) := by omega
        simp only [e]
        exact h3
    · rintro ⟨h1, h2, h3⟩
      rw [List.getElem_cons] at h3
      split at h3
      · next h0 => exact .inl ⟨x.2, h3, by rw [show i = x.1 by omega]⟩
      · next h0 =>
        have e : x.1 - i - 1 = x.1 - (i + 1) := by omega
        simp only [e] at h3
        exact .inr ⟨by omega, by rw [List.length_cons] at h2; omega, h3⟩
theorem mem_flat {c : Cf} {i : Nat} {s : Sn} : (i, s) ∈ flatN 0 c.nets ↔ ∃ h : i < c.nets.length, s ∈ c.nets[i] := by
  rw [mem_flatN]
  exact ⟨fun h => h.2, fun h => ⟨Nat.zero_le _, h⟩⟩
theorem find_some {p : Sn → Bool} : ∀ {l : List (List Sn)} {i : Nat} {x : Nat × Nat}, findN p i l = some x → ∃ s, (x.1, s) ∈ flatN i l ∧ p s = true ∧ ∃ n, l[x.1 - i]? = some n ∧ n[x.2]? = some s
  | [], i, x, h => by cases h
  | n :: r, i, x, h => by
    rw [findN] at h
    cases hf : n.findIdx? p with
    | some k =>
      rw [hf] at h
      injection h with h
      obtain ⟨hk, hp, _⟩ := List.findIdx?_eq_some_iff_getElem.1 hf
      rw [← h]
      exact ⟨n[k], List.mem_append_left _ (List.mem_map.2 ⟨n[k], List.getElem_mem hk, rfl⟩), hp, n, by simp, by simp [hk]⟩
    | none =>
      rw [hf] at h
      obtain ⟨s, h1, h2, m, h3, h4⟩ := find_some h
      have := (mem_flatN.1 h1).1
      simp only at this
      refine ⟨s, List.mem_append_right _ h1, h2, m, ?_, h4⟩
      rw [show x.1 - i = (x.1 - (i + 1)) + 1 by omega, List.getElem?_cons_succ]
      exact h3
theorem find_none {p : Sn → Bool} : ∀ {l : List (List Sn)} {i : Nat}, findN p i l = none → ∀ x ∈ flatN i l, p x.2 = false
  | [], i, _, x, hx => by cases hx
  | n :: r, i, h, x, hx => by
    rw [findN] at h
    cases hf : n.findIdx? p with
    | some k => rw [hf] at h; cases h
    | none =>
      rw [hf] at h
      rcases List.mem_append.1 hx with k | k
      · obtain ⟨s, hs, rfl⟩ := List.mem_map.1 k
        exact List.findIdx?_eq_none_iff.1 hf s hs
      · exact find_none h x k

/-! ### P13.4 -/
theorem twice_no {c : Cf} (h : twiceC c = false) : (flatN 0 c.nets).Pairwise (fun x y => snClash y x = false) ∧ (resA (flatN 0 c.nets)).Pairwise (fun x y => rsClash y x = false) ∧ ∀ x ∈ flatN 0 c.nets, pooledB x.2 = false := by
  unfold twiceC twiceL at h
  rw [Bool.or_eq_false_iff, Bool.or_eq_false_iff] at h
  exact ⟨pair_iff.1 h.1.2, pair_iff.1 h.2, by simpa using h.1.1⟩
theorem meet_of {b k d l a : Int} (h1 : hasB b k a = true) (h2 : hasB d l a = true) : meetB b k d l = true := by
  obtain ⟨f1, _, h3⟩ := hasB_iff.1 h1
  obtain ⟨f2, _, h4⟩ := hasB_iff.1 h2
  exact meetB_iff.2 ⟨f1, f2, by omega, by omega⟩
/-- An address is in one subnet at most. -/
theorem one_sn {c : Cf} (h : checkC c = 0) {x y : Nat × Sn} (hx : x ∈ flatN 0 c.nets) (hy : y ∈ flatN 0 c.nets) {a : Int} (ha : hasB x.2.base x.2.bits a = true) (hb : hasB y.2.base y.2.bits a = true) : x = y := by
  rcases pair_mem (twice_no (check_ok.1 h).2.2).1 hx hy with e | k | k
  · exact e
  · unfold snClash at k
    rw [meet_of hb ha] at k
    cases k
  · unfold snClash at k
    rw [meet_of ha hb] at k
    cases k
theorem one_rs {c : Cf} (h : checkC c = 0) {x y : Nat × Rs} (hx : x ∈ resA (flatN 0 c.nets)) (hy : y ∈ resA (flatN 0 c.nets)) (ha : x.2.addr = y.2.addr) : x = y := by
  rcases pair_mem (twice_no (check_ok.1 h).2.2).2.1 hx hy with e | k | k
  · exact e
  · unfold rsClash at k
    rw [decide_eq_true ha.symm] at k
    cases k
  · unfold rsClash at k
    rw [decide_eq_true ha] at k
    cases k
theorem sn_form {c : Cf} (h : checkC c = 0) {x : Nat × Sn} (hx : x ∈ flatN 0 c.nets) : snF x.2 = true ∧ snO c.server x.2 = true := by
  obtain ⟨h1, h2, _⟩ := check_ok.1 h
  obtain ⟨hi, hs⟩ := mem_flat (i := x.1) (s := x.2).1 hx
  unfold formC at h1
  rw [Bool.and_eq_true, List.all_eq_true] at h1
  have h3 := h1.2 _ (List.getElem_mem hi)
  unfold netF at h3
  rw [Bool.and_eq_true, List.all_eq_true] at h3
  unfold placesC at h2
  rw [List.all_eq_true] at h2
  have h4 := h2 _ (List.getElem_mem hi)
  rw [List.all_eq_true] at h4
  exact ⟨h3.2 _ hs, h4 _ hs⟩
theorem sn_fair {s : Sn} (h : snF s = true) : fairB s.base s.bits = true := by
  unfold snF at h
  simp only [Bool.and_eq_true] at h
  exact h.1.1.1.1.1.1.1
theorem lends_has {s : Sn} (hf : fairB s.base s.bits = true) {a : Int} (h : s.base < a ∧ a < s.base + sz s.bits - 1) : hasB s.base s.bits a = true := by
  have hl := last_le hf
  obtain ⟨_, ⟨hb, _⟩, _⟩ := fairB_iff.1 hf
  exact hasB_iff.2 ⟨hf, ⟨by omega, by omega⟩, by omega, by omega⟩
/-- What is in a pool is in its subnet, and is not the server. -/
theorem pool_has {c : Cf} (h : checkC c = 0) {x : Nat × Sn} (hx : x ∈ flatN 0 c.nets) {p : Pl} (hp : p ∈ x.2.pools) {a : Int} (ha : inPl p a = true) : hasB x.2.base x.2.bits a = true ∧ a ≠ c.server := by
  obtain ⟨h1, h2⟩ := sn_form h hx
  unfold snO at h2
  rw [Bool.and_eq_true, Bool.and_eq_true, List.all_eq_true] at h2
  have h3 := h2.1.1 p hp
  unfold poolO at h3
  rw [Bool.and_eq_true, Bool.and_eq_true] at h3
  obtain ⟨⟨h4, h5⟩, h6⟩ := h3
  unfold lendsB at h4 h5
  rw [decide_eq_true_iff] at h4 h5
  unfold inPl at ha h6
  rw [decide_eq_true_iff] at ha
  refine ⟨lends_has (sn_fair h1) ⟨by omega, by omega⟩, fun e => ?_⟩
  rw [← e, decide_eq_true ha] at h6
  cases h6
theorem res_has {c : Cf} (h : checkC c = 0) {x : Nat × Sn} (hx : x ∈ flatN 0 c.nets) {r : Rs} (hr : r ∈ x.2.res) : hasB x.2.base x.2.bits r.addr = true ∧ r.addr ≠ c.server := by
  obtain ⟨h1, h2⟩ := sn_form h hx
  unfold snO at h2
  rw [Bool.and_eq_true, Bool.and_eq_true, List.all_eq_true (l := x.2.res)] at h2
  have h3 := h2.1.2 r hr
  unfold resO at h3
  rw [Bool.and_eq_true] at h3
  obtain ⟨h4, h6⟩ := h3
  unfold lendsB at h4
  rw [decide_eq_true_iff] at h4
  refine ⟨lends_has (sn_fair h1) h4, fun e => ?_⟩
  rw [decide_eq_true e] at h6
  cases h6
/-- What a subnet has is found there. -/
theorem find_has {c : Cf} (h : checkC c = 0) {x : Nat × Sn} (hx : x ∈ flatN 0 c.nets) {a : Int} (ha : hasB x.2.base x.2.bits a = true) : ∃ k : Nat, findC c a = ((x.1 : Int), (k : Int), true) := by
  unfold findC
  rw [if_pos h]
  cases hf : findN (fun s => hasB s.base s.bits a) 0 c.nets with
  | none => rw [find_none hf x hx] at ha; cases ha
  | some y =>
    obtain ⟨s, h1, h2, _⟩ := find_some hf
    have := one_sn h hx h1 ha h2
    exact ⟨y.2, by rw [this]; rfl⟩
theorem keeper_has {c : Cf} (h : checkC c = 0) {x : Nat × Sn} (hx : x ∈ flatN 0 c.nets) {r : Rs} (hr : r ∈ x.2.res) : keeperC c r.addr = (r.key, true) := by
  have hm : ∀ {y : Nat × Sn}, y ∈ flatN 0 c.nets → ∀ q ∈ y.2.res, (y.1, q) ∈ resA (flatN 0 c.nets) := fun {y} hy q hq => List.mem_flatMap.2 ⟨y, hy, List.mem_map.2 ⟨q, hq, rfl⟩⟩
  unfold keeperC
  rw [if_pos h]
  unfold keeperN
  cases hf : ((c.nets.flatten.flatMap fun s => s.res).find? fun q => decide (q.addr = r.addr)) with
  | none =>
    rw [List.find?_eq_none] at hf
    obtain ⟨hi, hs⟩ := mem_flat (i := x.1) (s := x.2).1 hx
    exact absurd (by simp) (hf r (List.mem_flatMap.2 ⟨x.2, List.mem_flatten.2 ⟨_, List.getElem_mem hi, hs⟩, hr⟩))
  | some q =>
    have h1 := List.mem_of_find?_eq_some hf
    have h2 : q.addr = r.addr := by simpa using List.find?_some hf
    obtain ⟨s, hs, hq⟩ := List.mem_flatMap.1 h1
    obtain ⟨n, hn, hs⟩ := List.mem_flatten.1 hs
    obtain ⟨i, hi, rfl⟩ := List.mem_iff_getElem.1 hn
    have hy : (i, s) ∈ flatN 0 c.nets := mem_flat.2 ⟨hi, hs⟩
    have := one_rs h (hm hx r hr) (hm hy q hq) h2.symm
    have : r = q := congrArg Prod.snd this
    rw [← this]
    rfl
/-- P13.4, of pools. -/
theorem pool_one {c : Cf} {net a : Int} (h : inPoolC c net a = true) : (∃ k : Nat, findC c a = (net, (k : Int), true)) ∧ a ≠ c.server ∧ ∀ other, other ≠ net → inPoolC c other a = false := by
  unfold inPoolC pooledN at h
  rw [List.any_eq_true] at h
  obtain ⟨s, hs, h⟩ := h
  rw [List.any_eq_true] at h
  obtain ⟨p, hp, h⟩ := h
  obtain ⟨hc, i, rfl, hi⟩ := net_at hs
  have hx : (i, s) ∈ flatN 0 c.nets := mem_flat.2 hi
  obtain ⟨h1, h2⟩ := pool_has hc hx hp h
  refine ⟨find_has hc hx h1, h2, fun other ho => ?_⟩
  unfold inPoolC pooledN
  rw [List.any_eq_false]
  intro t ht k
  rw [List.any_eq_true] at k
  obtain ⟨q, hq, k⟩ := k
  obtain ⟨_, j, rfl, hj⟩ := net_at ht
  have hy : (j, t) ∈ flatN 0 c.nets := mem_flat.2 hj
  have := one_sn hc hx hy h1 (pool_has hc hy hq k).1
  have : i = j := congrArg Prod.fst this
  exact ho (by rw [this])
/-- P13.4, of what is reserved. -/
theorem kept_one {c : Cf} {net : Int} {k : List UInt8} (h : (keptC c net k).2 = true) : (∃ j : Nat, findC c (keptC c net k).1 = (net, (j : Int), true)) ∧ keeperC c (keptC c net k).1 = (k, true) ∧ (keptC c net k).1 ≠ c.server := by
  unfold keptC at h ⊢
  cases hf : keptN (netC c net) k with
  | none => rw [hf] at h; cases h
  | some r =>
    unfold keptN at hf
    have h1 := List.mem_of_find?_eq_some hf
    have h2 : r.key = k := by simpa using List.find?_some hf
    obtain ⟨s, hs, hr⟩ := List.mem_flatMap.1 h1
    obtain ⟨hc, i, rfl, hi⟩ := net_at hs
    have hx : (i, s) ∈ flatN 0 c.nets := mem_flat.2 hi
    obtain ⟨h3, h4⟩ := res_has hc hx hr
    have h5 := keeper_has hc hx hr
    rw [h2] at h5
    exact ⟨find_has hc hx h3, h5, h4⟩

/-! ### The networks in another order -/
theorem meet_sym (b k d l : Int) : meetB b k d l = meetB d l b k := by
  rw [Bool.eq_iff_iff, meetB_iff, meetB_iff]
  exact ⟨fun ⟨a, b, c, d⟩ => ⟨b, a, d, c⟩, fun ⟨a, b, c, d⟩ => ⟨b, a, d, c⟩⟩
theorem sn_sym (x y : Nat × Sn) : snClash x y = snClash y x := by
  unfold snClash
  rw [meet_sym, Bool.eq_iff_iff]
  simp only [Bool.or_eq_true, Bool.and_eq_true, decide_eq_true_iff]
  constructor
  · rintro (h | ⟨⟨h1, h2⟩, h3⟩)
    · exact .inl h
    · exact .inr ⟨⟨fun e => h1 e.symm, by omega⟩, h3.symm⟩
  · rintro (h | ⟨⟨h1, h2⟩, h3⟩)
    · exact .inl h
    · exact .inr ⟨⟨fun e => h1 e.symm, by omega⟩, h3.symm⟩
end Go.Proofs.YtoldppbakapohaaGreatDoor.Cf
end
/- The mathematics of layer 18 (reply): a reply and its options; it is right and fits a packet (P18.3), what comes back (P18.4), what it tells (P18.5). No program. -/
section
namespace Go.Proofs.YtoldppbakapohaaGreatDoor.Rp
open Tl Co Ms Cf Ad

def asksL (l : List O) (c : Int) : Bool := (findL l 55).isNone || ((findL l 55).getD []).any fun x => (x.toNat : Int) == c
def echoL (l : List O) (c : Int) : List O :=
  match findL l c with
  | none => []
  | some d => [(c, d)]
def ifL (p : Bool) (c : Int) (d : List UInt8) : List O := if p = true then [(c, d)] else []
def optsR (srv : Int) (s : Sn) (l : List O) (kind yi : Int) : List O :=
  [((53 : Int), [byteI kind])] ++ ([((54 : Int), numB srv 4)] ++ (ifL (!decide (kind = 6) && decide (0 < yi)) 51 (numB s.time 4) ++
    (ifL (!decide (kind = 6) && asksL l 1) 1 (numB (4294967296 - sz s.bits) 4) ++ (ifL (!decide (kind = 6) && (asksL l 3 && decide (0 < s.router))) 3 (numB s.router 4) ++ (echoL l 61 ++ echoL l 82)))))
def flagsR (m : M) (kind : Int) : Int := if kind = 6 ∧ m.gi ≠ 0 ∧ m.flags < 32768 then m.flags + 32768 else m.flags
def makeR (srv : Int) (s : Sn) (m : M) (kind yi : Int) : M :=
  ⟨2, m.htype, m.hlen, 0, m.xid, 0, flagsR m kind, if kind = 5 then m.ci else 0, if kind = 6 then 0 else yi, 0, m.gi, m.ch, optsR srv s m.os kind yi⟩
/-- May there be such a reply? -/
def fairR (c : Cf) (net sub : Int) (m : M) (kind yi : Int) : Bool :=
  decide (checkC c = 0) && (decide (0 ≤ net ∧ net < c.nets.length) && (decide (0 ≤ sub ∧ sub < (c.nets.getD net.toNat []).length) && (rightM m && (rightB yi && decide (kind = 2 ∨ kind = 5 ∨ kind = 6)))))

/-! ### What is found -/
theorem find_app (l m : List O) (c : Int) : findL (l ++ m) c = (findL l c).or (findL m c) := by
  unfold findL
  rw [List.find?_append]
  cases List.find? (fun o : O => o.1 == c) l <;> rfl
theorem find_one (k c : Int) (d : List UInt8) : findL [(k, d)] c = if k = c then some d else none := by
  unfold findL
  by_cases h : k = c
  · rw [if_pos h, List.find?_cons_of_pos (by simp [h])]; rfl
  · rw [if_neg h, List.find?_cons_of_neg (by simp [h])]; rfl
theorem find_cons (k c : Int) (d : List UInt8) (l : List O) : findL ((k, d) :: l) c = if k = c then some d else findL l c := by
  have := find_app [(k, d)] l c
  rw [find_one] at this
  rw [show (k, d) :: l = [(k, d)] ++ l from rfl, this]
  split <;> rfl
theorem find_if (p : Bool) (k c : Int) (d : List UInt8) : findL (ifL p k d) c = if p = true ∧ k = c then some d else none := by
  unfold ifL
  cases p with
  | false => simp [findL]
  | true => simp [find_one]
theorem find_echo (l : List O) (k c : Int) : findL (echoL l k) c = if k = c then findL l k else none := by
  unfold echoL
  cases h : findL l k with
  | none => simp [findL]
  | some d => simp [find_one]
theorem find_53 (srv : Int) (s : Sn) (l : List O) (kind yi : Int) : findL (optsR srv s l kind yi) 53 = some [byteI kind] := by
  unfold optsR
  simp [find_cons]
theorem find_51 (srv : Int) (s : Sn) (l : List O) (kind yi : Int) : findL (optsR srv s l kind yi) 51 = if kind ≠ 6 ∧ 0 < yi then some (numB s.time 4) else none := by
  unfold optsR
  simp [find_app, find_cons, find_if, find_echo]

/-! ### It is right -/
theorem codes_if (p : Bool) (k : Int) (d : List UInt8) : (codesL (ifL p k d)).Sublist [k] := by
  unfold ifL
  cases p with
  | false => exact List.nil_sublist _
  | true => exact List.Sublist.refl _
theorem codes_echo (l : List O) (k : Int) : (codesL (echoL l k)).Sublist [k] := by
  unfold echoL
  cases findL l k with
  | none => exact List.nil_sublist _
  | some d => exact List.Sublist.refl _
theorem codes_opts (srv : Int) (s : Sn) (l : List O) (kind yi : Int) : (codesL (optsR srv s l kind yi)).Sublist [53, 54, 51, 1, 3, 61, 82] := by
  unfold optsR
  simp only [codes_app]
  exact (List.Sublist.refl [(53 : Int)]).append ((List.Sublist.refl [(54 : Int)]).append ((codes_if _ 51 _).append ((codes_if _ 1 _).append ((codes_if _ 3 _).append ((codes_echo l 61).append (codes_echo l 82))))))
theorem mem_if {p : Bool} {k : Int} {d : List UInt8} {o : O} (h : o ∈ ifL p k d) : o.2 = d := by
  unfold ifL at h
  cases p with
  | false => exact absurd h (by simp)
  | true => rcases List.mem_singleton.1 (by simpa using h) with rfl; rfl
theorem find_len {l : List O} (h : rightL l = true) {c : Int} {d : List UInt8} (hf : findL l c = some d) : d.length ≤ 600 := by
  unfold findL at hf
  obtain ⟨o, ho, e⟩ := Option.map_eq_some_iff.1 hf
  exact e ▸ (right_fit h (List.mem_of_find?_eq_some ho)).2.2
theorem mem_echo {l : List O} (h : rightL l = true) {k : Int} {o : O} (ho : o ∈ echoL l k) : o.2.length ≤ 600 := by
  unfold echoL at ho
  cases hf : findL l k with
  | none => rw [hf] at ho; cases ho
  | some d =>
    rw [hf] at ho
    rcases List.mem_singleton.1 ho with rfl
    exact find_len h hf
theorem opts_small {l : List O} (h : rightL l = true) (srv : Int) (s : Sn) (kind yi : Int) : ∀ o ∈ optsR srv s l kind yi, o.2.length ≤ 600 := by
  intro o ho
  unfold optsR at ho
  simp only [List.mem_append] at ho
  rcases ho with ho | ho | ho | ho | ho | ho | ho
  · rcases List.mem_singleton.1 ho with rfl; simp
  · rcases List.mem_singleton.1 ho with rfl; simp [numB_len]
  · rw [mem_if ho, numB_len]; omega
  · rw [mem_if ho, numB_len]; omega
  · rw [mem_if ho, numB_len]; omega
  · exact mem_echo h ho
  · exact mem_echo h ho
theorem opts_right {l : List O} (h : rightL l = true) (srv : Int) (s : Sn) (kind yi : Int) : rightL (optsR srv s l kind yi) = true := by
  have hs := codes_opts srv s l kind yi
  refine (right_iff _).2 ⟨?_, fun o ho => ?_, hs.nodup (by decide)⟩
  · have := hs.length_le
    rw [codes_len] at this
    simp only [List.length_cons, List.length_nil] at this
    omega
  · have hc := hs.subset (codes_mem ho)
    simp only [List.mem_cons, List.not_mem_nil, or_false] at hc
    exact ⟨by omega, by omega, opts_small h srv s kind yi o ho⟩
theorem opts_52 (srv : Int) (s : Sn) (l : List O) (kind yi : Int) : hasL (optsR srv s l kind yi) 52 = 0 := by
  refine has_zero.2 fun hm => ?_
  have hc := (codes_opts srv s l kind yi).subset hm
  simp at hc
theorem make_right {m : M} (h : RightM m) (srv : Int) (s : Sn) {kind yi : Int} (hy : rightB yi = true) : RightM (makeR srv s m kind yi) := by
  obtain ⟨⟨h1, h2, h3, h4, h5, h6, h7, h8, h9, h10, h11⟩, hc, ho, _⟩ := h
  have hy' := rightB_iff.1 hy
  refine ⟨⟨by show (0 : Int) ≤ 2 ∧ (2 : Int) ≤ 255; omega, h2, h3, by show (0 : Int) ≤ 0 ∧ (0 : Int) ≤ 255; omega, h5, by show (0 : Int) ≤ 0 ∧ (0 : Int) ≤ 65535; omega, ?_, ?_, ?_, by show (0 : Int) ≤ 0 ∧ (0 : Int) ≤ 4294967295; omega, h11⟩, hc, opts_right ho srv s kind yi, opts_52 srv s m.os kind yi⟩
  · show 0 ≤ flagsR m kind ∧ flagsR m kind ≤ 65535
    unfold flagsR
    split <;> omega
  · show 0 ≤ (if kind = 5 then m.ci else 0) ∧ (if kind = 5 then m.ci else 0) ≤ 4294967295
    split <;> omega
  · show 0 ≤ (if kind = 6 then 0 else yi) ∧ (if kind = 6 then 0 else yi) ≤ 4294967295
    split <;> omega

/-! ### It fits a packet -/
theorem one_len3 {c : Int} {d : List UInt8} (h : d.length ≤ 600) : (oneL c d).length ≤ d.length + 6 := by
  by_cases h1 : d.length ≤ 255
  · rw [one_small h1]; simp
  · rw [one_big (by omega)]
    by_cases h2 : (d.drop 255).length ≤ 255
    · rw [one_small h2]
      simp only [List.length_cons, List.length_append, List.length_take, List.length_drop]
      rw [List.length_drop] at h2
      omega
    · rw [one_big (by omega)]
      rw [List.length_drop] at h2
      have h3 : ((d.drop 255).drop 255).length ≤ 255 := by rw [List.length_drop, List.length_drop]; omega
      rw [one_small h3]
      simp only [List.length_cons, List.length_append, List.length_take, List.length_drop]
      omega
theorem body_one (o : O) : bodyL [o] = oneL o.1 o.2 := by simp [bodyL]
theorem body_if (p : Bool) (k v : Int) : (bodyL (ifL p k (numB v 4))).length ≤ 6 := by
  unfold ifL
  cases p with
  | false => simp [bodyL]
  | true =>
    simp only [if_true, body_one]
    rw [one_small (by rw [numB_len]; omega)]
    simp [numB_len]
theorem body_echo {l : List O} (h : rightL l = true) (k : Int) : (bodyL (echoL l k)).length ≤ 606 := by
  unfold echoL
  cases hf : findL l k with
  | none => simp [bodyL]
  | some d =>
    simp only [body_one]
    have h1 := find_len h hf
    have := one_len3 (c := k) h1
    omega
theorem opts_len {l : List O} (h : rightL l = true) (srv : Int) (s : Sn) (kind yi : Int) : (writeL (optsR srv s l kind yi)).length ≤ 1240 := by
  unfold writeL optsR
  simp only [body_app, List.length_append, body_one]
  have h1 : (oneL 53 [byteI kind]).length = 3 := by rw [one_small (by simp)]; rfl
  have h2 : (oneL 54 (numB srv 4)).length = 6 := by rw [one_small (by rw [numB_len]; omega)]; simp [numB_len]
  have h3 := body_if (!decide (kind = 6) && decide (0 < yi)) 51 s.time
  have h4 := body_if (!decide (kind = 6) && asksL l 1) 1 (4294967296 - sz s.bits)
  have h5 := body_if (!decide (kind = 6) && (asksL l 3 && decide (0 < s.router))) 3 s.router
  have h6 := body_echo h 61
  have h7 := body_echo h 82
  simp only [List.length_cons, List.length_nil]
  omega
theorem make_len {m : M} (h : RightM m) (srv : Int) (s : Sn) (kind yi : Int) : (bytesM (makeR srv s m kind yi)).length ≤ 1500 := by
  have h1 : (bodyM (makeR srv s m kind yi)).length = 240 + (writeL (optsR srv s m.os kind yi)).length := body_lenM (m := makeR srv s m kind yi) h.2.1
  have h2 := opts_len h.2.2.1 srv s kind yi
  unfold bytesM padL
  rw [List.length_append, List.length_replicate]
  omega

/-! ### What it tells -/
theorem num_told {v : Int} (h : rightB v = true) : ((valL (numB v 4) : Nat) : Int) = v := by
  have := rightB_iff.1 h
  have p4 : p256 4 = 4294967296 := by decide
  exact num_back this.1 (by omega)
/-- What the places of a configuration that may be are. -/
theorem sub_of {c : Cf} (h : checkC c = 0) {n : List Sn} (hn : n ∈ c.nets) {s : Sn} (hs : s ∈ n) : rightB c.server = true ∧ snF s = true ∧ snO c.server s = true := by
  obtain ⟨h1, h2, _⟩ := check_ok.1 h
  simp only [formC, Bool.and_eq_true, decide_eq_true_eq] at h1
  have h3 := List.all_eq_true.1 h1.2 n hn
  simp only [netF, Bool.and_eq_true] at h3
  exact ⟨h1.1.1.1, List.all_eq_true.1 h3.2 s hs, List.all_eq_true.1 (List.all_eq_true.1 h2 n hn) s hs⟩
theorem time_of {s : Sn} (h : snF s = true) : rightB s.time = true := by
  simp only [snF, Bool.and_eq_true, decide_eq_true_eq] at h
  exact rightB_iff.2 ⟨by omega, by omega⟩
theorem router_of {srv : Int} {s : Sn} (h : snO srv s = true) : rightB s.router = true := by
  simp only [snO, Bool.and_eq_true, Bool.or_eq_true, decide_eq_true_eq] at h
  rcases h.2 with h | h
  · exact rightB_iff.2 ⟨by omega, by omega⟩
  · exact rightB_iff.2 (hasB_iff.1 h).2.1
theorem mask_of {s : Sn} (h : snF s = true) : rightB (4294967296 - sz s.bits) = true := by
  simp only [snF, Bool.and_eq_true, decide_eq_true_eq] at h
  have h1 := sz_pos (k := s.bits)
  have h2 := sz_le (k := s.bits) (by omega)
  exact rightB_iff.2 ⟨by omega, by omega⟩
end Go.Proofs.YtoldppbakapohaaGreatDoor.Rp
end
/- The mathematics of layer 6 (relay): parts and their bytes. No program. -/
section
namespace Go.Proofs.YtoldppbakapohaaGreatDoor.Ry
open Tl Co

/-- The parts of bytes; none: they are no parts. -/
def partsF : Nat → List UInt8 → Option (List O)
  | 0, _ => some []
  | _ + 1, [] => some []
  | _ + 1, [_] => none
  | f + 1, c :: n :: r => if r.length < n.toNat then none else (partsF f (r.drop n.toNat)).map (((c.toNat : Int), r.take n.toNat) :: ·)
def partsL (b : List UInt8) : Option (List O) := partsF b.length b
theorem partsF_more : ∀ (f g : Nat) (b : List UInt8), b.length ≤ f → b.length ≤ g → partsF f b = partsF g b
  | 0, 0, _, _, _ => rfl
  | 0, g + 1, b, h, _ => by
    obtain rfl : b = [] := List.length_eq_zero_iff.1 (by omega)
    rfl
  | f + 1, 0, b, _, h => by
    obtain rfl : b = [] := List.length_eq_zero_iff.1 (by omega)
    rfl
  | f + 1, g + 1, b, h1, h2 => by
    match b with
    | [] => rfl
    | [_] => rfl
    | c :: n :: r =>
      simp only [List.length_cons] at h1 h2
      simp only [partsF]
      split
      · rfl
      · rw [partsF_more f g (r.drop n.toNat) (by rw [List.length_drop]; omega) (by rw [List.length_drop]; omega)]
theorem parts_nil : partsL [] = some [] := rfl
theorem parts_lone (c : UInt8) : partsL [c] = none := rfl
theorem parts_short {c n : UInt8} {r : List UInt8} (h : r.length < n.toNat) : partsL (c :: n :: r) = none := by
  unfold partsL
  simp only [List.length_cons, partsF, if_pos h]
theorem parts_step {c n : UInt8} {r : List UInt8} (h : n.toNat ≤ r.length) : partsL (c :: n :: r) = (partsL (r.drop n.toNat)).map (((c.toNat : Int), r.take n.toNat) :: ·) := by
  unfold partsL
  simp only [List.length_cons, partsF]
  rw [if_neg (by omega), partsF_more (r.length + 1) (r.drop n.toNat).length _ (by rw [List.length_drop]; omega) (Nat.le_refl _)]
/-! ### The answers -/
def partsR (b : List UInt8) : List O × Int := if 600 < b.length then ([], 3) else match partsL b with
  | none => ([], 2)
  | some l => (l, 0)
def linkR (b : List UInt8) : Option Nat := (findL (partsR b).1 5).bind fun d => if d.length = 4 then some (valL d) else none
theorem partsR_long {b : List UInt8} (h : 600 < b.length) : partsR b = ([], 3) := by unfold partsR; rw [if_pos h]
end Go.Proofs.YtoldppbakapohaaGreatDoor.Ry
end
/- The mathematics of layer 14 (pick): where a message is, and the subnet that it belongs to; and what follows (P14.3, P14.4). No program. -/
section
namespace Go.Proofs.YtoldppbakapohaaGreatDoor.Pk
open Tl Co Ms Ry Cf Ad

def linkM (m : M) : Option Nat := (findL m.os 82).bind linkR
def numM (m : M) : Option Nat := (findL m.os 118).bind fun d => if d.length = 4 then some (valL d) else none
/-- The place of a message; (0, false): it is the interface. -/
def placeM (m : M) : Int × Bool :=
  match linkM m with
  | some a => ((a : Int), true)
  | none => if m.gi ≠ 0 then (m.gi, true) else
    match numM m with
    | some a => if a ≠ 0 then ((a : Int), true) else (m.ci, decide (m.ci ≠ 0))
    | none => (m.ci, decide (m.ci ≠ 0))
def subnetM (c : Cf) (m : M) (iface : Int) : Int × Int × Bool := if rightM m = true then (if (placeM m).2 = true then findC c (placeM m).1 else wireC c iface) else (0, 0, false)
theorem place_link {m : M} {a : Nat} (h : linkM m = some a) : placeM m = ((a : Int), true) := by unfold placeM; rw [h]
theorem place_gi {m : M} (h : linkM m = none) (hg : m.gi ≠ 0) : placeM m = (m.gi, true) := by unfold placeM; rw [h]; simp only [if_pos hg]
theorem place_num {m : M} {a : Nat} (h : linkM m = none) (hg : m.gi = 0) (hn : numM m = some a) (ha : a ≠ 0) : placeM m = ((a : Int), true) := by
  unfold placeM
  rw [h, hn]
  simp only [hg, ne_eq, not_true_eq_false, if_false, if_pos ha]
theorem place_ci {m : M} (h : linkM m = none) (hg : m.gi = 0) (hn : numM m = none ∨ numM m = some 0) : placeM m = (m.ci, decide (m.ci ≠ 0)) := by
  unfold placeM
  rw [h]
  rcases hn with hn | hn
  · rw [hn]
    simp only [hg, ne_eq, not_true_eq_false, if_false]
  · rw [hn]
    simp only [hg, ne_eq, not_true_eq_false, if_false]
/-- P14.4: what is found has the address. -/
theorem find_there {c : Cf} {a n s : Int} (h : findC c a = (n, s, true)) : ∃ (i k : Nat) (l : List Sn) (x : Sn), n = (i : Int) ∧ s = (k : Int) ∧ c.nets[i]? = some l ∧ l[k]? = some x ∧ hasB x.base x.bits a = true := by
  unfold findC at h
  split at h
  · cases hf : findN (fun s => hasB s.base s.bits a) 0 c.nets with
    | none => rw [hf] at h; simp [ansP] at h
    | some y =>
      rw [hf] at h
      obtain ⟨x, _, h2, l, h3, h4⟩ := find_some hf
      simp only [ansP, Prod.mk.injEq] at h
      exact ⟨y.1, y.2, l, x, h.1.symm, h.2.1.symm, h3, h4, h2⟩
  · simp at h
end Go.Proofs.YtoldppbakapohaaGreatDoor.Pk
end
/- The mathematics of layer 9 (record): leases as bytes. No program. -/
section
namespace Go.Proofs.YtoldppbakapohaaGreatDoor.Rc
open Co Ky

structure L where
  addr : Int
  state : Int
  till : Int
  key : List UInt8
def zeroL : L := ⟨0, 0, 0, []⟩
def RightR (l : L) : Prop := (0 ≤ l.addr ∧ l.addr ≤ 4294967295) ∧ (1 ≤ l.state ∧ l.state ≤ 3) ∧ (0 ≤ l.till ∧ l.till ≤ 1125899906842624) ∧ rightK l.key = true
instance (l : L) : Decidable (RightR l) := by unfold RightR; infer_instance
def rightR (l : L) : Bool := decide (RightR l)
end Go.Proofs.YtoldppbakapohaaGreatDoor.Rc
end
/- The mathematics of layer 11 (clean): the latest leases of a list, one for each address, in rising order; they are their own latest leases, and put behind the list they change nothing. No program. -/
section
namespace Go.Proofs.YtoldppbakapohaaGreatDoor.La
open Rc

/-! ### In rising order -/
def Inc (l : List L) : Prop := l.Pairwise fun a b => a.addr < b.addr
/-- Lists in rising order that have the same leases are one. -/
theorem inc_ext : ∀ {l m : List L}, Inc l → Inc m → (∀ a, a ∈ l ↔ a ∈ m) → l = m
  | [], [], _, _, _ => rfl
  | [], b :: m, _, _, h => by have := (h b).2 (.head _); cases this
  | a :: l, [], _, _, h => by have := (h a).1 (.head _); cases this
  | a :: l, b :: m, hl, hm, h => by
    obtain ⟨l1, l2⟩ := List.pairwise_cons.1 hl
    obtain ⟨m1, m2⟩ := List.pairwise_cons.1 hm
    have hab : a = b := by
      rcases List.mem_cons.1 ((h a).1 (.head _)) with e | ha
      · exact e
      rcases List.mem_cons.1 ((h b).2 (.head _)) with e | hb
      · exact e.symm
      · have := m1 a ha
        have := l1 b hb
        omega
    subst hab
    rw [inc_ext l2 m2 fun c => ?_]
    constructor
    · intro hc
      rcases List.mem_cons.1 ((h c).1 (.tail _ hc)) with e | k
      · have := l1 c hc
        rw [e] at this
        omega
      · exact k
    · intro hc
      rcases List.mem_cons.1 ((h c).2 (.tail _ hc)) with e | k
      · have := m1 c hc
        rw [e] at this
        omega
      · exact k

/-! ### The latest leases -/

/-! ### By choosing the least, one by one -/
end Go.Proofs.YtoldppbakapohaaGreatDoor.La
end
/- The mathematics of layer 12 (table): tables of leases, what is got of them and set in them, who may have an address, what still counts. No program. -/
section
namespace Go.Proofs.YtoldppbakapohaaGreatDoor.Tb
open Rc La

/-! ### Tables -/
def RightT (t : List L) : Prop := t.length ≤ 64 ∧ (∀ a ∈ t, RightR a) ∧ Inc t
instance incDec (t : List L) : Decidable (Inc t) := by unfold Inc; infer_instance
instance rightDec (t : List L) : Decidable (RightT t) := by unfold RightT; infer_instance
def rightT (t : List L) : Bool := decide (RightT t)
def goodT (t : List L) : List L := if RightT t then t else []
theorem nil_right : RightT [] := ⟨Nat.zero_le _, fun _ h => (by cases h), List.Pairwise.nil⟩
theorem good_right (t : List L) : RightT (goodT t) := by
  unfold goodT
  split
  · assumption
  · exact nil_right
theorem good_of {t : List L} (h : RightT t) : goodT t = t := if_pos h
theorem good_len (t : List L) : (goodT t).length ≤ 64 := (good_right t).1
/-- In rising order, told of neighbours. -/
theorem inc_iff : ∀ (t : List L), Inc t ↔ ∀ i, i + 1 < t.length → (t.getD i zeroL).addr < (t.getD (i + 1) zeroL).addr
  | [] => ⟨fun _ i h => absurd h (Nat.not_lt_zero _), fun _ => List.Pairwise.nil⟩
  | [a] => ⟨fun _ i h => absurd h (by simp), fun _ => List.pairwise_singleton _ _⟩
  | a :: b :: t => by
    constructor
    · intro h i hi
      obtain ⟨h1, h2⟩ := List.pairwise_cons.1 h
      cases i with
      | zero => exact h1 b (.head _)
      | succ i => exact (inc_iff (b :: t)).1 h2 i (by simpa using hi)
    · intro h
      have h2 : Inc (b :: t) := (inc_iff (b :: t)).2 fun i hi => h (i + 1) (by simpa using hi)
      have h0 : a.addr < b.addr := h 0 (by simp)
      refine List.pairwise_cons.2 ⟨fun c hc => ?_, h2⟩
      rcases List.mem_cons.1 hc with rfl | hc
      · exact h0
      · have := (List.pairwise_cons.1 h2).1 c hc
        omega

/-! ### What is in them -/
def firstT (t : List L) (a : Int) : Option L := t.find? fun l => decide (l.addr = a)
def ansT : Option L → L × Bool
  | some l => (l, true)
  | none => (zeroL, false)
def getT (t : List L) (a : Int) : L × Bool := ansT (firstT (goodT t) a)
def ofT (t : List L) (k : List UInt8) : List L := (goodT t).filter fun l => decide (l.key = k)
theorem first_some {t : List L} {a : Int} {l : L} (h : firstT t a = some l) : l ∈ t ∧ l.addr = a := by
  unfold firstT at h
  exact ⟨List.mem_of_find?_eq_some h, by simpa using List.find?_some h⟩
theorem first_none {t : List L} {a : Int} : firstT t a = none ↔ ∀ l ∈ t, l.addr ≠ a := by
  unfold firstT
  rw [List.find?_eq_none]
  simp
/-- In rising order there is one lease of an address at most. -/
theorem first_mem {t : List L} (h : Inc t) {l : L} (hl : l ∈ t) : firstT t l.addr = some l := by
  induction t with
  | nil => cases hl
  | cons b t ih =>
    obtain ⟨h1, h2⟩ := List.pairwise_cons.1 h
    unfold firstT
    rw [List.find?_cons]
    rcases List.mem_cons.1 hl with rfl | hl
    · simp
    · have := h1 l hl
      rw [show (decide (b.addr = l.addr)) = false by simp; omega]
      exact ih h2 hl
theorem first_iff {t : List L} (h : Inc t) {a : Int} {l : L} : firstT t a = some l ↔ l ∈ t ∧ l.addr = a := ⟨first_some, fun ⟨h1, h2⟩ => by rw [← h2]; exact first_mem h h1⟩

/-! ### A lease is set -/
def putT (t : List L) (l : L) : List L := t.filter (fun b => decide (b.addr < l.addr)) ++ l :: t.filter (fun b => decide (l.addr < b.addr))
def setT (t : List L) (l : L) : List L × Int :=
  if RightR l then (if 64 < (putT (goodT t) l).length then ([], 3) else (putT (goodT t) l, 0)) else ([], 1)
theorem mem_put {t : List L} {l b : L} : b ∈ putT t l ↔ b = l ∨ (b ∈ t ∧ b.addr ≠ l.addr) := by
  unfold putT
  rw [List.mem_append, List.mem_cons, List.mem_filter, List.mem_filter, decide_eq_true_iff, decide_eq_true_iff]
  constructor
  · rintro (⟨h, k⟩ | h | ⟨h, k⟩)
    · exact .inr ⟨h, by omega⟩
    · exact .inl h
    · exact .inr ⟨h, by omega⟩
  · rintro (h | ⟨h, k⟩)
    · exact .inr (.inl h)
    · rcases Int.lt_or_gt_of_ne k with q | q
      · exact .inl ⟨h, q⟩
      · exact .inr (.inr ⟨h, q⟩)
theorem put_inc {t : List L} (h : Inc t) (l : L) : Inc (putT t l) := by
  refine List.pairwise_append.2 ⟨List.Pairwise.filter _ h, List.pairwise_cons.2 ⟨fun b hb => ?_, List.Pairwise.filter _ h⟩, fun a ha b hb => ?_⟩
  · simpa using (List.mem_filter.1 hb).2
  · have h1 : a.addr < l.addr := by simpa using (List.mem_filter.1 ha).2
    rcases List.mem_cons.1 hb with rfl | hb
    · exact h1
    · have h2 : l.addr < b.addr := by simpa using (List.mem_filter.1 hb).2
      omega
theorem filter_len (t : List L) (p q : L → Bool) (h : ∀ b, p b = true → q b = true → False) : (t.filter p).length + (t.filter q).length ≤ t.length := by
  induction t with
  | nil => simp
  | cons b t ih =>
    rw [List.filter_cons, List.filter_cons]
    have := h b
    by_cases h1 : p b = true
    · by_cases h2 : q b = true
      · exact (this h1 h2).elim
      · rw [if_pos h1, if_neg h2, List.length_cons, List.length_cons]; omega
    · by_cases h2 : q b = true
      · rw [if_neg h1, if_pos h2, List.length_cons, List.length_cons]; omega
      · rw [if_neg h1, if_neg h2, List.length_cons]; omega
theorem put_len (t : List L) (l : L) : (putT t l).length ≤ t.length + 1 := by
  unfold putT
  rw [List.length_append, List.length_cons]
  have := filter_len t (fun b => decide (b.addr < l.addr)) (fun b => decide (l.addr < b.addr)) fun b h1 h2 => by
    simp only [decide_eq_true_iff] at h1 h2
    omega
  omega
theorem put_right {t : List L} {l : L} (ht : RightT t) (hl : RightR l) (hn : (putT t l).length ≤ 64) : RightT (putT t l) :=
  ⟨hn, fun b hb => (mem_put.1 hb).elim (fun e => e ▸ hl) fun k => ht.2.1 b k.1, put_inc ht.2.2 l⟩
theorem set_bad {t : List L} {l : L} (h : ¬ RightR l) : setT t l = ([], 1) := if_neg h
theorem set_full {t : List L} {l : L} (h : RightR l) (hn : 64 < (putT (goodT t) l).length) : setT t l = ([], 3) := by unfold setT; rw [if_pos h, if_pos hn]
theorem set_ok {t : List L} {l : L} (h : RightR l) (hn : (putT (goodT t) l).length ≤ 64) : setT t l = (putT (goodT t) l, 0) := by unfold setT; rw [if_pos h, if_neg (by omega)]
theorem set_cases (t : List L) (l : L) : (¬ RightR l ∧ setT t l = ([], 1)) ∨ (RightR l ∧ 64 < (putT (goodT t) l).length ∧ setT t l = ([], 3)) ∨ (RightR l ∧ (putT (goodT t) l).length ≤ 64 ∧ setT t l = (putT (goodT t) l, 0)) := by
  by_cases h : RightR l
  · by_cases hn : 64 < (putT (goodT t) l).length
    · exact .inr (.inl ⟨h, hn, set_full h hn⟩)
    · exact .inr (.inr ⟨h, by omega, set_ok h (by omega)⟩)
  · exact .inl ⟨h, set_bad h⟩
theorem set_right (t : List L) (l : L) : RightT (setT t l).1 := by
  rcases set_cases t l with ⟨_, e⟩ | ⟨_, _, e⟩ | ⟨h, hn, e⟩ <;> rw [e]
  · exact nil_right
  · exact nil_right
  · exact put_right (good_right t) h hn

/-! ### P12.4 -/

/-! ### P12.5 -/

/-! ### Who may have an address; what still counts -/
def holdsT (l : L) (now : Int) : Bool := decide (l.state = 1) && decide (now < l.till)
def restsT (l : L) (now : Int) : Bool := decide (l.state = 3) && decide (now < l.till)
def freeO (o : Option L) (k : List UInt8) (now : Int) : Bool :=
  match o with
  | none => true
  | some l => !(restsT l now || (holdsT l now && !decide (l.key = k)))
def freeT (t : List L) (a : Int) (k : List UInt8) (now : Int) : Bool := freeO (firstT (goodT t) a) k now
def sweepT (t : List L) (now : Int) : List L := (goodT t).filter fun l => holdsT l now || restsT l now
theorem sweep_right (t : List L) (now : Int) : RightT (sweepT t now) :=
  ⟨Nat.le_trans (List.length_filter_le _ _) (good_len t), fun a ha => (good_right t).2.1 a (List.mem_filter.1 ha).1, List.Pairwise.filter _ (good_right t).2.2⟩
theorem free_sweep (t : List L) (a : Int) (k : List UInt8) (now : Int) : freeT (sweepT t now) a k now = freeT t a k now := by
  unfold freeT
  rw [good_of (sweep_right t now)]
  have hI := (good_right t).2.2
  have hS := (sweep_right t now).2.2
  cases h : firstT (goodT t) a with
  | none =>
    rw [show firstT (sweepT t now) a = none from first_none.2 fun l hl => first_none.1 h l (List.mem_filter.1 hl).1]
  | some l =>
    obtain ⟨h1, h2⟩ := first_some h
    by_cases hc : (holdsT l now || restsT l now) = true
    · rw [(first_iff hS).2 ⟨List.mem_filter.2 ⟨h1, hc⟩, h2⟩]
    · have hn : firstT (sweepT t now) a = none := first_none.2 fun b hb e => by
        obtain ⟨b1, b2⟩ := List.mem_filter.1 hb
        have := first_mem hI b1
        rw [e, h] at this
        injection this with this
        exact hc (this ▸ b2)
      rw [hn]
      simp only [Bool.not_eq_true, Bool.or_eq_false_iff] at hc
      show true = !(restsT l now || (holdsT l now && !decide (l.key = k)))
      rw [hc.1, hc.2]
      rfl

/-! ### The place of an address: how many leases are of lesser ones -/
def posT (t : List L) (a : Int) : Nat := (t.filter fun b => decide (b.addr < a)).length
theorem pos_le (t : List L) (a : Int) : posT t a ≤ t.length := List.length_filter_le _ _
theorem pos_cons (b : L) (t : List L) (a : Int) : posT (b :: t) a = (if b.addr < a then 1 else 0) + posT t a := by
  unfold posT
  rw [List.filter_cons]
  by_cases h : b.addr < a
  · rw [if_pos (by simpa using h), if_pos h, List.length_cons]; omega
  · rw [if_neg (by simpa using h), if_neg h]; omega
theorem pos_zero {t : List L} {a : Int} (h : ∀ b ∈ t, a ≤ b.addr) : posT t a = 0 := by
  unfold posT
  rw [List.filter_eq_nil_iff.2 fun b hb => by have := h b hb; simp; omega]
  rfl
theorem pos_iff : ∀ {t : List L} (_ : Inc t) (a : Int) (i : Nat), i < t.length → ((t.getD i zeroL).addr < a ↔ i < posT t a)
  | [], _, _, i, hi => absurd hi (Nat.not_lt_zero _)
  | b :: t, h, a, i, hi => by
    obtain ⟨h1, h2⟩ := List.pairwise_cons.1 h
    rw [pos_cons]
    by_cases hb : b.addr < a
    · rw [if_pos hb]
      cases i with
      | zero => exact ⟨fun _ => by omega, fun _ => hb⟩
      | succ i =>
        have := pos_iff h2 a i (by simpa using hi)
        show (t.getD i zeroL).addr < a ↔ _
        rw [this]
        omega
    · have h0 : posT t a = 0 := pos_zero fun c hc => by have := h1 c hc; omega
      rw [if_neg hb, h0]
      refine ⟨fun k => ?_, fun k => absurd k (by omega)⟩
      cases i with
      | zero => exact absurd k hb
      | succ i =>
        have hi' : i < t.length := by simpa using hi
        have hm : t.getD i zeroL ∈ t := by rw [List.getD_eq_getElem?_getD, List.getElem?_eq_getElem hi']; exact List.getElem_mem hi'
        have := h1 _ hm
        have : (t.getD i zeroL).addr < a := k
        omega
theorem take_pos : ∀ {t : List L} (_ : Inc t) (a : Int), t.take (posT t a) = t.filter fun b => decide (b.addr < a)
  | [], _, _ => by simp [posT]
  | b :: t, h, a => by
    obtain ⟨h1, h2⟩ := List.pairwise_cons.1 h
    rw [pos_cons, List.filter_cons]
    by_cases hb : b.addr < a
    · rw [if_pos hb, if_pos (by simpa using hb), Nat.add_comm, List.take_succ_cons, take_pos h2]
    · have hz : ∀ c ∈ t, a ≤ c.addr := fun c hc => by have := h1 c hc; omega
      rw [if_neg hb, if_neg (by simpa using hb), pos_zero hz, List.filter_eq_nil_iff.2 fun c hc => by have := hz c hc; simp; omega]
      rfl
theorem drop_pos : ∀ {t : List L} (_ : Inc t) (a : Int), t.drop (posT t a) = t.filter fun b => decide (a ≤ b.addr)
  | [], _, _ => by simp [posT]
  | b :: t, h, a => by
    obtain ⟨h1, h2⟩ := List.pairwise_cons.1 h
    rw [pos_cons, List.filter_cons]
    by_cases hb : b.addr < a
    · rw [if_pos hb, if_neg (by simp; omega), Nat.add_comm, List.drop_succ_cons, drop_pos h2]
    · have hz : ∀ c ∈ t, a ≤ c.addr := fun c hc => by have := h1 c hc; omega
      rw [if_neg hb, if_pos (by simp; omega), pos_zero hz, List.filter_eq_self.2 fun c hc => by have := hz c hc; simpa using this]
      rfl
/-- Is there a lease of the address? It stands at its place. -/
theorem first_pos {t : List L} (h : Inc t) (a : Int) : firstT t a = if posT t a < t.length ∧ (t.getD (posT t a) zeroL).addr = a then some (t.getD (posT t a) zeroL) else none := by
  split
  · next hh =>
    have hm : t.getD (posT t a) zeroL ∈ t := by rw [List.getD_eq_getElem?_getD, List.getElem?_eq_getElem hh.1]; exact List.getElem_mem hh.1
    exact (first_iff h).2 ⟨hm, hh.2⟩
  · next hh =>
    refine first_none.2 fun l hl e => hh ?_
    have hd : l ∈ t.drop (posT t a) := by rw [drop_pos h, List.mem_filter]; exact ⟨hl, by simp; omega⟩
    have hlt : posT t a < t.length := by
      rcases Nat.lt_or_ge (posT t a) t.length with k | k
      · exact k
      · rw [List.drop_eq_nil_of_le k] at hd; cases hd
    refine ⟨hlt, ?_⟩
    have hge : ¬ (t.getD (posT t a) zeroL).addr < a := fun k => absurd ((pos_iff h a _ hlt).1 k) (Nat.lt_irrefl _)
    rw [List.drop_eq_getElem_cons hlt] at hd
    have hg : t.getD (posT t a) zeroL = t[posT t a] := by rw [List.getD_eq_getElem?_getD, List.getElem?_eq_getElem hlt]; rfl
    rcases List.mem_cons.1 hd with e1 | e1
    · rw [hg, ← e1, e]
    · have hp : Inc (t[posT t a] :: t.drop (posT t a + 1)) := by rw [← List.drop_eq_getElem_cons hlt]; exact List.Pairwise.drop h
      have := (List.pairwise_cons.1 hp).1 l e1
      rw [hg] at hge
      omega
/-- A lease in place of the one of its address; a lease put in between. -/
theorem put_found {t : List L} (h : Inc t) {l : L} (h1 : posT t l.addr < t.length) (h2 : (t.getD (posT t l.addr) zeroL).addr = l.addr) : putT t l = t.take (posT t l.addr) ++ l :: t.drop (posT t l.addr + 1) := by
  unfold putT
  rw [← take_pos h]
  congr 2
  have hg : t.getD (posT t l.addr) zeroL = t[posT t l.addr] := by rw [List.getD_eq_getElem?_getD, List.getElem?_eq_getElem h1]; rfl
  have hp : Inc (t[posT t l.addr] :: t.drop (posT t l.addr + 1)) := by rw [← List.drop_eq_getElem_cons h1]; exact List.Pairwise.drop h
  have e : t = t.take (posT t l.addr) ++ t[posT t l.addr] :: t.drop (posT t l.addr + 1) := by rw [← List.drop_eq_getElem_cons h1, List.take_append_drop]
  have hl : ∀ b ∈ t.take (posT t l.addr), b.addr < l.addr := fun b hb => by
    rw [take_pos h] at hb
    simpa using (List.mem_filter.1 hb).2
  conv => lhs; rw [e]
  rw [List.filter_append, List.filter_eq_nil_iff.2 fun b hb => by have := hl b hb; simp; omega, List.filter_cons, if_neg (by rw [← hg, h2]; simp), List.nil_append]
  exact List.filter_eq_self.2 fun c hc => by
    have := (List.pairwise_cons.1 hp).1 c hc
    rw [← hg, h2] at this
    simpa using this
theorem put_between {t : List L} (h : Inc t) {l : L} (hn : ¬ (posT t l.addr < t.length ∧ (t.getD (posT t l.addr) zeroL).addr = l.addr)) : putT t l = t.take (posT t l.addr) ++ l :: t.drop (posT t l.addr) := by
  unfold putT
  rw [← take_pos h, drop_pos h]
  congr 2
  refine List.filter_congr fun b hb => ?_
  have hne : b.addr ≠ l.addr := by
    have := first_pos h l.addr
    rw [if_neg hn, first_none] at this
    exact this b hb
  rw [decide_eq_decide]
  omega
theorem found_len {t : List L} {l : L} (h1 : posT t l.addr < t.length) : (t.take (posT t l.addr) ++ l :: t.drop (posT t l.addr + 1)).length = t.length := by
  rw [List.length_append, List.length_cons, List.length_take, List.length_drop]
  omega
theorem between_len {t : List L} {l : L} : (t.take (posT t l.addr) ++ l :: t.drop (posT t l.addr)).length = t.length + 1 := by
  have := pos_le t l.addr
  rw [List.length_append, List.length_cons, List.length_take, List.length_drop]
  omega

/-! ### Set, lease by lease (the document's own way) -/
end Go.Proofs.YtoldppbakapohaaGreatDoor.Tb
end
/- The mathematics of layer 15 (alloc): which address a client may have, which one is chosen; and what follows (P15.3 to P15.5). No program. -/
section
namespace Go.Proofs.YtoldppbakapohaaGreatDoor.Al
open Ad Ky Rc La Tb Cf

/-- May anything be had? -/
def FairA (c : Cf) (t : List L) (net : Int) (k : List UInt8) : Prop := checkC c = 0 ∧ RightT t ∧ rightK k = true ∧ 0 ≤ net ∧ net < c.nets.length
instance (c : Cf) (t : List L) (net : Int) (k : List UInt8) : Decidable (FairA c t net k) := by unfold FairA; infer_instance
def inA (c : Cf) (net a : Int) : Bool := (findC c a).2.2 && decide ((findC c a).1 = net)
/-- Is it a lease of the client that holds, of an address in the network? -/
def heldB (c : Cf) (net : Int) (k : List UInt8) (now : Int) (l : L) : Bool := decide (l.key = k) && holdsT l now && inA c net l.addr
def otherA (c : Cf) (t : List L) (net : Int) (k : List UInt8) (a now : Int) : Bool := t.any fun l => decide (l.key = k) && decide (l.addr ≠ a) && holdsT l now && inA c net l.addr
/-- Is the address the client's to have, as the configuration goes? -/
def openA (c : Cf) (net : Int) (k : List UInt8) (a : Int) : Bool :=
  ((keptC c net k).2 && decide (a = (keptC c net k).1)) || (inPoolC c net a && (!(keeperC c a).2 || decide ((keeperC c a).1 = k)))
def mayA (c : Cf) (t : List L) (net : Int) (k : List UInt8) (a now : Int) : Bool :=
  decide (FairA c t net k) && !otherA c t net k a now && freeT t a k now && openA c net k a
theorem may_iff {c : Cf} {t : List L} {net : Int} {k : List UInt8} {a now : Int} : mayA c t net k a now = true ↔ FairA c t net k ∧ otherA c t net k a now = false ∧ freeT t a k now = true ∧ openA c net k a = true := by
  unfold mayA
  simp only [Bool.and_eq_true, decide_eq_true_iff, Bool.not_eq_true']
  exact ⟨fun ⟨⟨⟨a, b⟩, c⟩, d⟩ => ⟨a, b, c, d⟩, fun ⟨a, b, c, d⟩ => ⟨⟨⟨a, b⟩, c⟩, d⟩⟩
theorem may_unfair {c : Cf} {t : List L} {net : Int} {k : List UInt8} (h : ¬ FairA c t net k) (a now : Int) : mayA c t net k a now = false := by
  cases hm : mayA c t net k a now with
  | false => rfl
  | true => exact absurd (may_iff.1 hm).1 h

/-! ### The choice -/
/-- The addresses of a pool, from the first one on. -/
def addrsP (p : Pl) : List Int := (List.range (p.last + 1 - p.first).toNat).map fun n : Nat => p.first + (n : Int)
def addrsN (n : List Sn) : List Int := n.flatMap fun s => s.pools.flatMap addrsP
def heldA (c : Cf) (t : List L) (net : Int) (k : List UInt8) (now : Int) : List L := t.filter (heldB c net k now)
def keptL (c : Cf) (net : Int) (k : List UInt8) : List Int := if (keptC c net k).2 = true then [(keptC c net k).1] else []
def leftA (c : Cf) (t : List L) (net : Int) (k : List UInt8) : List Int := (t.filter fun l => decide (l.key = k) && inA c net l.addr).map fun l => l.addr
/-- What is tried, in order. -/
def triedA (c : Cf) (t : List L) (net : Int) (k : List UInt8) (want now : Int) : List Int :=
  if heldA c t net k now = [] then keptL c net k ++ (leftA c t net k ++ (want :: addrsN (netC c net))) else (heldA c t net k now).map fun l => l.addr
def ansI : Option Int → Int × Bool
  | some a => (a, true)
  | none => (0, false)
def chooseO (c : Cf) (t : List L) (net : Int) (k : List UInt8) (want now : Int) : Option Int := (triedA c t net k want now).find? fun a => mayA c t net k a now
def chooseA (c : Cf) (t : List L) (net : Int) (k : List UInt8) (want now : Int) : Int × Bool := ansI (chooseO c t net k want now)
theorem choose_unfair {c : Cf} {t : List L} {net : Int} {k : List UInt8} (h : ¬ FairA c t net k) (want now : Int) : chooseA c t net k want now = (0, false) := by
  unfold chooseA chooseO
  rw [List.find?_eq_none.2 fun a _ hm => by rw [may_unfair h] at hm; cases hm]
  rfl
/-- P15.3, first half: what is chosen may be had. -/
theorem choose_may {c : Cf} {t : List L} {net : Int} {k : List UInt8} {want now : Int} (h : (chooseA c t net k want now).2 = true) : mayA c t net k (chooseA c t net k want now).1 now = true := by
  unfold chooseA at h ⊢
  cases hc : chooseO c t net k want now with
  | none => rw [hc] at h; cases h
  | some a =>
    unfold chooseO at hc
    exact List.find?_some (p := fun a => mayA c t net k a now) hc
/-- P15.4: what may be had lies in the network, is kept for no other client, is not the server. -/
theorem may_good {c : Cf} {t : List L} {net : Int} {k : List UInt8} {a now : Int} (h : mayA c t net k a now = true) : inA c net a = true ∧ a ≠ c.server ∧ ((keeperC c a).2 = true → (keeperC c a).1 = k) := by
  obtain ⟨hf, _, _, hop⟩ := may_iff.1 h
  unfold openA at hop
  rw [Bool.or_eq_true, Bool.and_eq_true, Bool.and_eq_true, decide_eq_true_iff] at hop
  rcases hop with ⟨h1, h2⟩ | ⟨h1, h2⟩
  · obtain ⟨⟨j, e1⟩, e2, e3⟩ := kept_one h1
    subst h2
    refine ⟨?_, e3, fun _ => by rw [e2]⟩
    unfold inA
    rw [e1]
    exact decide_eq_true rfl
  · obtain ⟨⟨j, e1⟩, e2, _⟩ := pool_one h1
    refine ⟨?_, e2, fun hk => ?_⟩
    · unfold inA
      rw [e1]
      exact decide_eq_true rfl
    · rw [hk] at h2
      simpa using h2
/-- P15.5: with leases that hold in the network. -/
theorem keeps {c : Cf} {t : List L} {net : Int} {k : List UInt8} {want now : Int} (hn : heldA c t net k now ≠ []) :
    chooseO c t net k want now = ((heldA c t net k now).map fun l => l.addr).find? fun a => mayA c t net k a now := by
  unfold chooseO triedA
  rw [if_neg hn]
end Go.Proofs.YtoldppbakapohaaGreatDoor.Al
end
/- The mathematics of layers 16 and 17 (class, dest): what a REQUEST is about and whom it is for, where a reply goes; and what follows (P16.3, P17.2, P17.3). numE and kindE are numL and kindL of layer 5, by rfl. No program. -/
section
namespace Go.Proofs.YtoldppbakapohaaGreatDoor.Cl
open Tl Co Ms

def numE (l : List O) (c : Int) (k : Nat) : Option Nat := (findL l c).bind fun d => if d.length = k then some (valL d) else none
def kindE (l : List O) : Int := match numE l 53 1 with
  | none => 0
  | some v => if 1 ≤ v ∧ v ≤ 8 then (v : Int) else 0
theorem num_find {l m : List O} {c : Int} (h : findL l c = findL m c) (k : Nat) : numE l c k = numE m c k := by unfold numE; rw [h]
theorem kind_num {l : List O} {v : Nat} (h : numE l 53 1 = some v) (h1 : 1 ≤ v) (h2 : v ≤ 8) : kindE l = (v : Int) := by unfold kindE; rw [h]; simp [h1, h2]
theorem num_told {l : List O} {c : Int} {k : Nat} {d : List UInt8} (h : findL l c = some d) (hd : d.length = k) : numE l c k = some (valL d) := by unfold numE; rw [h]; simp [hd]
/-- The class: 1 selecting, 2 a reboot, 3 an extension, 0 wrong. -/
def classL (m : M) : Int :=
  if kindE m.os ≠ 3 then 0 else if m.ci = 0 ∧ (numE m.os 50 4).isSome = true then (if (numE m.os 54 4).isSome = true then 1 else 2) else
    if m.ci ≠ 0 ∧ (numE m.os 50 4).isSome = false ∧ (numE m.os 54 4).isSome = false then 3 else 0
def aboutL (m : M) : Int := if classL m = 3 then m.ci else if classL m = 0 then 0 else (((numE m.os 50 4).getD 0 : Nat) : Int)
def foreignL (m : M) (srv : Int) : Bool :=
  match numE m.os 54 4 with
  | none => false
  | some a => decide ((a : Int) ≠ srv)
theorem class_cases (m : M) : classL m = 0 ∨ (classL m = 1 ∧ m.ci = 0 ∧ (∃ a, numE m.os 50 4 = some a ∧ aboutL m = (a : Int)) ∧ ∃ s, numE m.os 54 4 = some s) ∨
    (classL m = 2 ∧ m.ci = 0 ∧ (∃ a, numE m.os 50 4 = some a ∧ aboutL m = (a : Int)) ∧ numE m.os 54 4 = none) ∨ (classL m = 3 ∧ m.ci ≠ 0 ∧ aboutL m = m.ci ∧ numE m.os 50 4 = none ∧ numE m.os 54 4 = none) := by
  unfold aboutL classL
  by_cases h0 : kindE m.os = 3
  · simp only [h0, ne_eq, not_true_eq_false, if_false]
    by_cases h1 : m.ci = 0
    · cases h2 : numE m.os 50 4 with
      | none => simp [h1]
      | some a => cases h3 : numE m.os 54 4 <;> simp [h1]
    · cases h2 : numE m.os 50 4 with
      | none => cases h3 : numE m.os 54 4 <;> simp [h1]
      | some a => simp [h1]
  · simp [h0]
theorem class_kind {m : M} (h : classL m ≠ 0) : kindE m.os = 3 := by
  unfold classL at h
  by_cases h0 : kindE m.os = 3
  · exact h0
  · rw [if_pos h0] at h; exact absurd rfl h
theorem class_one {m : M} (hk : kindE m.os = 3) (hc : m.ci = 0) {a s : Nat} (ha : numE m.os 50 4 = some a) (hs : numE m.os 54 4 = some s) : classL m = 1 ∧ aboutL m = (a : Int) := by
  unfold aboutL classL
  simp [hk, hc, ha, hs]
theorem class_wrong {m : M} (h : classL m = 0) : aboutL m = 0 := by unfold aboutL; rw [h]; rfl
/-- Where a reply goes: the address, the port, to the hardware address. -/
def destL (m : M) (kind yi : Int) : Int × Int × Bool :=
  if m.gi ≠ 0 then (m.gi, 67, false) else if kind = 6 then (4294967295, 68, false) else if m.ci ≠ 0 then (m.ci, 68, false) else
    if 32768 ≤ m.flags ∧ m.flags ≤ 65535 then (4294967295, 68, false) else (yi, 68, true)
end Go.Proofs.YtoldppbakapohaaGreatDoor.Cl
end
/- The mathematics of layer 19 (engine): what becomes of a message; and what follows (P19.3 to P19.7). No program. -/
section
namespace Go.Proofs.YtoldppbakapohaaGreatDoor.Eg
open Ad Ky Rc La Tb Cf Ms Tl Co Rp Pk Al Cl

structure An where
  send : Bool
  keep : Bool
  reply : M
  to : Int × Int × Bool
  lease : L
def zeroA : An := ⟨false, false, zeroM, (0, 0, false), zeroL⟩
def endE (now time : Int) : Int := if 1125899906842624 - time < now then 1125899906842624 else now + time
def zeroS : Sn := ⟨0, 0, [], [], 0, 0, 0⟩
def snC (c : Cf) (n s : Int) : Sn := (c.nets.getD n.toNat []).getD s.toNat zeroS
def sentE (c : Cf) (n s : Int) (m : M) (kind a : Int) : An := ⟨true, false, makeR c.server (snC c n s) m kind a, destL m kind (if kind = 6 then 0 else a), zeroL⟩
def givenL (c : Cf) (k : List UInt8) (a now : Int) : L := ⟨a, 1, endE now (snC c (findC c a).1 (findC c a).2.1).time, k⟩
def grantE (c : Cf) (m : M) (k : List UInt8) (a now : Int) : An := { sentE c (findC c a).1 (findC c a).2.1 m 5 a with keep := true, lease := givenL c k a now }
def givenE (c : Cf) (t : List L) (m : M) (k : List UInt8) (a now : Int) : An := if (setT t (givenL c k a now)).2 = 0 then grantE c m k a now else zeroA
def requestE (c : Cf) (t : List L) (m : M) (k : List UInt8) (net sub now : Int) : An :=
  if classL m = 0 then zeroA else if inA c net (aboutL m) = false then sentE c net sub m 6 0 else
    if 1 < classL m ∧ (getT t (aboutL m)).2 = false then zeroA else
      if 1 < classL m ∧ ((getT t (aboutL m)).1.key ≠ k ∨ (getT t (aboutL m)).1.state = 3) then sentE c net sub m 6 0 else
        if mayA c t net k (aboutL m) now = true then givenE c t m k (aboutL m) now else sentE c net sub m 6 0
def keptE (a st till : Int) (k : List UInt8) : An := ⟨false, true, zeroM, (0, 0, false), ⟨a, st, till, k⟩⟩
def endedE (t : List L) (a : Int) (k : List UInt8) (st till now : Int) : An :=
  if (getT t a).2 = true ∧ (getT t a).1.key = k ∧ holdsT (getT t a).1 now = true then keptE a st till k else zeroA
def wantedE (m : M) : Int := (((numE m.os 50 4).getD 0 : Nat) : Int)
def offerE (c : Cf) (m : M) (a : Int) : An := sentE c (findC c a).1 (findC c a).2.1 m 2 a
def actE (c : Cf) (t : List L) (m : M) (k : List UInt8) (net sub now : Int) : An :=
  if kindE m.os = 1 then (if (chooseA c t net k (wantedE m) now).2 = true then offerE c m (chooseA c t net k (wantedE m) now).1 else zeroA) else
    if kindE m.os = 3 then requestE c t m k net sub now else if kindE m.os = 4 then endedE t (wantedE m) k 3 (endE now c.prob) now else
      if kindE m.os = 7 then endedE t m.ci k 2 now now else if kindE m.os = 8 ∧ m.ci ≠ 0 then sentE c net sub m 5 0 else zeroA
/-- Does anything become of it? -/
def FairE (c : Cf) (t : List L) (m : M) (iface now : Int) : Prop :=
  checkC c = 0 ∧ RightT t ∧ (0 ≤ now ∧ now ≤ 1125899906842624) ∧ RightM m ∧ m.op = 1 ∧ (ofK m).2 = 0 ∧ (subnetM c m iface).2.2 = true ∧ foreignL m c.server = false
instance (c : Cf) (t : List L) (m : M) (iface now : Int) : Decidable (FairE c t m iface now) := by unfold FairE; infer_instance
def handleE (c : Cf) (t : List L) (m : M) (iface now : Int) : An := if FairE c t m iface now then actE c t m (ofK m).1 (subnetM c m iface).1 (subnetM c m iface).2.1 now else zeroA

/-! ### What may become of it -/
inductive Act (c : Cf) (t : List L) (m : M) (k : List UInt8) (net sub now : Int) : An → Prop
  | nothing : Act c t m k net sub now zeroA
  | offer (a : Int) (hk : kindE m.os = 1) (ha : mayA c t net k a now = true) : Act c t m k net sub now (offerE c m a)
  | grant (a : Int) (hk : kindE m.os = 3) (ha : mayA c t net k a now = true) (hs : (setT t (givenL c k a now)).2 = 0) : Act c t m k net sub now (grantE c m k a now)
  | nak (hk : kindE m.os = 3) : Act c t m k net sub now (sentE c net sub m 6 0)
  | ends (a st till : Int) (hg : (getT t a).2 = true) (hk : (getT t a).1.key = k) (hh : holdsT (getT t a).1 now = true) (h : (st = 3 ∧ till = endE now c.prob ∧ kindE m.os = 4) ∨ (st = 2 ∧ till = now ∧ kindE m.os = 7)) :
      Act c t m k net sub now (keptE a st till k)
  | inform (hk : kindE m.os = 8) (hc : m.ci ≠ 0) : Act c t m k net sub now (sentE c net sub m 5 0)
theorem act_is (c : Cf) (t : List L) (m : M) (k : List UInt8) (net sub now : Int) : Act c t m k net sub now (actE c t m k net sub now) := by
  unfold actE
  by_cases h1 : kindE m.os = 1
  · rw [if_pos h1]
    by_cases h2 : (chooseA c t net k (wantedE m) now).2 = true
    · rw [if_pos h2]
      exact .offer _ h1 (choose_may h2)
    · rw [if_neg h2]
      exact .nothing
  rw [if_neg h1]
  by_cases h3 : kindE m.os = 3
  · rw [if_pos h3]
    unfold requestE
    split
    · exact .nothing
    split
    · exact .nak h3
    split
    · exact .nothing
    split
    · exact .nak h3
    split
    · next hm =>
      unfold givenE
      split
      · next hs => exact .grant _ h3 hm hs
      · exact .nothing
    · exact .nak h3
  rw [if_neg h3]
  by_cases h4 : kindE m.os = 4
  · rw [if_pos h4]
    unfold endedE
    split
    · next h => exact .ends _ _ _ h.1 h.2.1 h.2.2 (.inl ⟨rfl, rfl, h4⟩)
    · exact .nothing
  rw [if_neg h4]
  by_cases h7 : kindE m.os = 7
  · rw [if_pos h7]
    unfold endedE
    split
    · next h => exact .ends _ _ _ h.1 h.2.1 h.2.2 (.inr ⟨rfl, rfl, h7⟩)
    · exact .nothing
  rw [if_neg h7]
  split
  · next h => exact .inform h.1 h.2
  · exact .nothing
theorem handle_fair {c : Cf} {t : List L} {m : M} {iface now : Int} (h : FairE c t m iface now) : handleE c t m iface now = actE c t m (ofK m).1 (subnetM c m iface).1 (subnetM c m iface).2.1 now := if_pos h
theorem handle_not {c : Cf} {t : List L} {m : M} {iface now : Int} (h : ¬ FairE c t m iface now) : handleE c t m iface now = zeroA := if_neg h
theorem handle_act {c : Cf} {t : List L} {m : M} {iface now : Int} (h : FairE c t m iface now) : Act c t m (ofK m).1 (subnetM c m iface).1 (subnetM c m iface).2.1 now (handleE c t m iface now) := by
  rw [handle_fair h]
  exact act_is _ _ _ _ _ _ _

/-! ### What is told -/
theorem kind_opts (srv : Int) (s : Sn) (l : List O) (yi : Int) {kind : Int} (h : kind = 2 ∨ kind = 5 ∨ kind = 6) : kindE (optsR srv s l kind yi) = kind := by
  have h1 := num_told (k := 1) (find_53 srv s l kind yi) rfl
  rcases h with rfl | rfl | rfl
  · exact kind_num (v := 2) h1 (by omega) (by omega)
  · exact kind_num (v := 5) h1 (by omega) (by omega)
  · exact kind_num (v := 6) h1 (by omega) (by omega)
theorem find_sn {c : Cf} {a : Int} (h : (findC c a).2.2 = true) : checkC c = 0 ∧ snF (snC c (findC c a).1 (findC c a).2.1) = true ∧ snO c.server (snC c (findC c a).1 (findC c a).2.1) = true ∧ rightB c.server = true := by
  have hc : checkC c = 0 := by
    unfold findC at h
    split at h
    · assumption
    · cases h
  obtain ⟨i, k, l, x, e1, e2, h1, h2, _⟩ := find_there (c := c) (a := a) (n := (findC c a).1) (s := (findC c a).2.1) (by rw [← h])
  have hx : snC c (findC c a).1 (findC c a).2.1 = x := by
    unfold snC
    rw [e1, e2]
    simp [h1, h2]
  obtain ⟨q1, q2, q3⟩ := sub_of hc (List.mem_of_getElem? h1) (List.mem_of_getElem? h2)
  rw [hx]
  exact ⟨hc, q2, q3, q1⟩
theorem base_pos {s : Sn} (h : snF s = true) : 0 ≤ s.base := ((fairB_iff.1 (sn_fair h)).2.1).1
/-- An address that may be had is more than 0. -/
theorem may_pos {c : Cf} {t : List L} {net : Int} {k : List UInt8} {a now : Int} (h : mayA c t net k a now = true) : 0 < a ∧ a ≤ 4294967295 := by
  have hin := (may_good h).1
  unfold inA at hin
  rw [Bool.and_eq_true] at hin
  obtain ⟨i0, k0, l0, x0, _, _, _, _, hb⟩ := find_there (c := c) (a := a) (n := (findC c a).1) (s := (findC c a).2.1) (by rw [← hin.1])
  have hle := (hasB_iff.1 hb).2.1
  refine ⟨?_, hle.2⟩
  obtain ⟨_, _, _, hop⟩ := may_iff.1 h
  unfold openA at hop
  rw [Bool.or_eq_true, Bool.and_eq_true, Bool.and_eq_true, decide_eq_true_iff] at hop
  rcases hop with ⟨h1, h2⟩ | ⟨h1, _⟩
  · unfold keptC at h1 h2
    cases hf : keptN (netC c net) k with
    | none => rw [hf] at h1; cases h1
    | some r =>
      rw [hf] at h2
      unfold keptN at hf
      obtain ⟨s, hs, hr⟩ := List.mem_flatMap.1 (List.mem_of_find?_eq_some hf)
      obtain ⟨hc, i, _, hi⟩ := net_at hs
      obtain ⟨q1, q2⟩ := sn_form (x := (i, s)) hc (mem_flat.2 hi)
      simp only [snO, Bool.and_eq_true, List.all_eq_true] at q2
      have q3 := q2.1.2 r hr
      simp only [resO, lendsB, Bool.and_eq_true, decide_eq_true_eq] at q3
      have q4 : 0 ≤ s.base := base_pos q1
      show 0 < a
      have : a = r.addr := h2
      omega
  · unfold inPoolC pooledN at h1
    obtain ⟨s, hs, h1⟩ := List.any_eq_true.1 h1
    obtain ⟨p, hp, h1⟩ := List.any_eq_true.1 h1
    obtain ⟨hc, i, _, hi⟩ := net_at hs
    obtain ⟨q1, q2⟩ := sn_form (x := (i, s)) hc (mem_flat.2 hi)
    simp only [snO, Bool.and_eq_true, List.all_eq_true] at q2
    have q3 := q2.1.1 p hp
    simp only [poolO, lendsB, Bool.and_eq_true, decide_eq_true_eq] at q3
    simp only [inPl, decide_eq_true_eq] at h1
    have q4 : 0 ≤ s.base := base_pos q1
    omega
theorem may_found {c : Cf} {t : List L} {net : Int} {k : List UInt8} {a now : Int} (h : mayA c t net k a now = true) : (findC c a).2.2 = true ∧ (findC c a).1 = net := by
  have hin := (may_good h).1
  unfold inA at hin
  rw [Bool.and_eq_true, decide_eq_true_eq] at hin
  exact hin
theorem end_range {now time : Int} (h : 0 ≤ now ∧ now ≤ 1125899906842624) (ht : 1 ≤ time) : 0 ≤ endE now time ∧ endE now time ≤ 1125899906842624 ∧ (now < endE now time ∨ now = 1125899906842624) := by
  unfold endE
  split <;> omega
theorem time_pos {s : Sn} (h : snF s = true) : 1 ≤ s.time := by
  simp only [snF, Bool.and_eq_true, decide_eq_true_eq] at h
  omega

/-! ### P19.3: what is offered or given may be had -/
theorem gives {c : Cf} {t : List L} {m : M} {iface now : Int} (hs : (handleE c t m iface now).send = true) (hy : (handleE c t m iface now).reply.yi ≠ 0) :
    FairE c t m iface now ∧ mayA c t (subnetM c m iface).1 (ofK m).1 (handleE c t m iface now).reply.yi now = true := by
  by_cases hf : FairE c t m iface now
  · refine ⟨hf, ?_⟩
    have ha := handle_act hf
    revert hs hy
    generalize handleE c t m iface now = A at ha ⊢
    cases ha with
    | nothing => intro hs; cases hs
    | offer a hk ha => intro _ _; exact ha
    | grant a hk ha _ => intro _ _; exact ha
    | nak hk => intro _ hy; exact absurd rfl hy
    | ends a st till => intro hs; cases hs
    | inform hk => intro _ hy; exact absurd rfl hy
  · rw [handle_not hf] at hs; cases hs

/-! ### P19.4, P19.5: what is given is kept first; nothing else that is sent keeps anything -/
def givesE (A : An) : Prop := A.send = true ∧ kindE A.reply.os = 5 ∧ A.reply.yi ≠ 0
theorem keeps_given {c : Cf} {t : List L} {m : M} {iface now : Int} (h : givesE (handleE c t m iface now)) :
    (handleE c t m iface now).keep = true ∧ ∃ n, numE (handleE c t m iface now).reply.os 51 4 = some n ∧ (handleE c t m iface now).lease = ⟨(handleE c t m iface now).reply.yi, 1, endE now (n : Int), (ofK m).1⟩ := by
  obtain ⟨hs, hk, hy⟩ := h
  by_cases hf : FairE c t m iface now
  · have ha := handle_act hf
    revert hs hk hy
    generalize handleE c t m iface now = A at ha ⊢
    cases ha with
    | nothing => intro hs; cases hs
    | offer a _ ha => intro _ hk; exact absurd ((kind_opts _ _ _ _ (.inl rfl)).symm.trans hk) (by omega)
    | grant a _ ha _ =>
      intro _ _ _
      have hp := (may_pos ha).1
      obtain ⟨_, q2, _, _⟩ := find_sn (may_found ha).1
      have ht := time_of q2
      refine ⟨rfl, valL (numB (snC c (findC c a).1 (findC c a).2.1).time 4), ?_, ?_⟩
      · refine Cl.num_told (d := numB (snC c (findC c a).1 (findC c a).2.1).time 4) ?_ (numB_len _ _)
        refine (find_51 _ _ _ _ _).trans ?_
        rw [if_pos ⟨by omega, hp⟩]
      · show givenL c (ofK m).1 a now = _
        rw [Rp.num_told ht]
        rfl
    | nak _ => intro _ hk; exact absurd ((kind_opts _ _ _ _ (.inr (.inr rfl))).symm.trans hk) (by omega)
    | ends a st till => intro hs; cases hs
    | inform _ => intro _ _ hy; exact absurd rfl hy
  · rw [handle_not hf] at hs; cases hs
theorem keeps_not {c : Cf} {t : List L} {m : M} {iface now : Int} (h : ¬ givesE (handleE c t m iface now)) : (handleE c t m iface now).send = false ∨ (handleE c t m iface now).keep = false := by
  by_cases hf : FairE c t m iface now
  · have ha := handle_act hf
    revert h
    generalize handleE c t m iface now = A at ha ⊢
    cases ha with
    | nothing => intro _; exact .inl rfl
    | offer a _ ha => intro _; exact .inr rfl
    | grant a _ ha _ =>
      intro h
      have hp := (may_pos ha).1
      exact absurd ⟨rfl, kind_opts _ _ _ _ (.inr (.inl rfl)), (show a ≠ 0 by omega)⟩ h
    | nak _ => intro _; exact .inr rfl
    | ends a st till => intro _; exact .inl rfl
    | inform _ => intro _; exact .inr rfl
  · rw [handle_not hf]; exact .inl rfl

/-! ### P19.5: refusals, and INFORM -/
theorem inform_keeps {c : Cf} {t : List L} {m : M} {iface now : Int} (hk : kindE m.os = 8) : (handleE c t m iface now).keep = false := by
  by_cases hf : FairE c t m iface now
  · have ha := handle_act hf
    generalize handleE c t m iface now = A at ha ⊢
    cases ha with
    | nothing => rfl
    | offer a h _ => rfl
    | grant a h _ _ => omega
    | nak _ => rfl
    | ends a st till _ _ _ h => omega
    | inform _ => rfl
  · rw [handle_not hf]; rfl
theorem inform_told {c : Cf} {t : List L} {m : M} {iface now : Int} (hf : FairE c t m iface now) (hk : kindE m.os = 8) (hc : m.ci ≠ 0) :
    handleE c t m iface now = sentE c (subnetM c m iface).1 (subnetM c m iface).2.1 m 5 0 := by
  rw [handle_fair hf]
  unfold actE
  rw [if_neg (by omega), if_neg (by omega), if_neg (by omega), if_neg (by omega), if_pos ⟨hk, hc⟩]
theorem nak_told {c : Cf} {t : List L} {m : M} {iface now : Int} (hf : FairE c t m iface now) (hk : classL m ≠ 0) (hn : inA c (subnetM c m iface).1 (aboutL m) = false) :
    handleE c t m iface now = sentE c (subnetM c m iface).1 (subnetM c m iface).2.1 m 6 0 := by
  have h3 := class_kind hk
  rw [handle_fair hf]
  unfold actE
  rw [if_neg (by omega), if_pos h3]
  unfold requestE
  rw [if_neg hk, if_pos hn]
theorem sent_told (c : Cf) (n s : Int) (m : M) {kind : Int} (a : Int) (h : kind = 2 ∨ kind = 5 ∨ kind = 6) : (sentE c n s m kind a).send = true ∧ (sentE c n s m kind a).keep = false ∧ kindE (sentE c n s m kind a).reply.os = kind ∧
    (sentE c n s m kind a).reply.yi = if kind = 6 then 0 else a := ⟨rfl, rfl, kind_opts _ _ _ _ h, rfl⟩

/-! ### P19.6: to an Offer the matching REQUEST gets an Ack -/
theorem given_right {c : Cf} {t : List L} {net : Int} {k : List UInt8} {a now : Int} (h : mayA c t net k a now = true) (hn : 0 ≤ now ∧ now ≤ 1125899906842624) : RightR (givenL c k a now) := by
  have hp := may_pos h
  obtain ⟨_, q2, _, _⟩ := find_sn (may_found h).1
  have he := end_range hn (time_pos q2)
  obtain ⟨⟨_, _, hk, _⟩, _⟩ := may_iff.1 h
  exact ⟨⟨by show 0 ≤ a; omega, hp.2⟩, ⟨by show (1 : Int) ≤ 1; omega, by show (1 : Int) ≤ 3; omega⟩, ⟨he.1, he.2.1⟩, hk⟩
theorem given_room {c : Cf} {t : List L} {net : Int} {k : List UInt8} {a now : Int} (h : mayA c t net k a now = true) (hn : 0 ≤ now ∧ now ≤ 1125899906842624) (hl : t.length < 64) : (setT t (givenL c k a now)).2 = 0 := by
  have hr := given_right h hn
  have ht : RightT t := (may_iff.1 h).1.2.1
  have := put_len t (givenL c k a now)
  rw [set_ok hr (by rw [good_of ht]; omega)]
theorem of_same {m x : M} (hm : RightM m) (hx : RightM x) (h1 : x.htype = m.htype) (h2 : x.hlen = m.hlen) (h3 : x.ch = m.ch) (h4 : findL x.os 61 = findL m.os 61) : ofK x = ofK m := by
  unfold ofK clientL
  rw [if_pos hm, if_pos hx, h1, h2, h3, h4]
theorem subnet_same {c : Cf} {m x : M} {iface : Int} (hm : RightM m) (hx : RightM x) (h1 : x.gi = m.gi) (h2 : x.ci = m.ci) (h3 : findL x.os 82 = findL m.os 82) (h4 : findL x.os 118 = findL m.os 118) : subnetM c x iface = subnetM c m iface := by
  have hp : placeM x = placeM m := by
    unfold placeM linkM numM
    rw [h1, h2, h3, h4]
  unfold subnetM
  rw [(rightM_iff x).2 hx, (rightM_iff m).2 hm, hp]
/-- The matching REQUEST: the same head; of the options the kind, the server and what is wanted are told. -/
theorem matches_ack {c : Cf} {t : List L} {m : M} {iface now : Int} (hk : kindE m.os = 1) (hl : t.length < 64) (hc : m.ci = 0) (hs : (handleE c t m iface now).send = true) {l : List O} (hr : rightL l = true) (h52 : hasL l 52 = 0)
    (hsame : ∀ q : Int, q = 61 ∨ q = 82 ∨ q = 118 → findL l q = findL m.os q) (h53 : kindE l = 3) {srv : Nat} (h54 : numE l 54 4 = some srv) (hsrv : (srv : Int) = c.server) {w : Nat} (h50 : numE l 50 4 = some w) (hw : (w : Int) = (handleE c t m iface now).reply.yi) :
    handleE c t { m with os := l } iface now = grantE c { m with os := l } (ofK m).1 (handleE c t m iface now).reply.yi now := by
  have hf : FairE c t m iface now := by
    by_cases hf : FairE c t m iface now
    · exact hf
    · rw [handle_not hf] at hs; cases hs
  obtain ⟨f1, f2, f3, f4, f5, f6, f7, _⟩ := hf
  have hx : RightM { m with os := l } := ⟨f4.1, f4.2.1, hr, h52⟩
  have hof : ofK { m with os := l } = ofK m := of_same f4 hx rfl rfl rfl (hsame 61 (.inl rfl))
  have hsub : subnetM c { m with os := l } iface = subnetM c m iface := subnet_same f4 hx rfl rfl (hsame 82 (.inr (.inl rfl))) (hsame 118 (.inr (.inr rfl)))
  have hfor : foreignL { m with os := l } c.server = false := by
    unfold foreignL
    show (match numE l 54 4 with | none => false | some a => decide ((a : Int) ≠ c.server)) = false
    rw [h54]
    simp [hsrv]
  have hfx : FairE c t { m with os := l } iface now := ⟨f1, f2, f3, hx, f5, by rw [hof]; exact f6, by rw [hsub]; exact f7, hfor⟩
  obtain ⟨hcl, hab⟩ := class_one (m := { m with os := l }) h53 hc h50 h54
  have hmay : mayA c t (subnetM c m iface).1 (ofK m).1 (handleE c t m iface now).reply.yi now = true := by
    have ha := handle_act (iface := iface) ⟨f1, f2, f3, f4, f5, f6, f7, (by assumption)⟩
    revert hs
    generalize handleE c t m iface now = A at ha ⊢
    cases ha with
    | nothing => intro hs; cases hs
    | offer a _ ha => intro _; exact ha
    | grant a h _ _ => omega
    | nak h => omega
    | ends a st till => intro hs; cases hs
    | inform h => omega
  rw [handle_fair hfx, hof, hsub]
  unfold actE
  rw [if_neg (show ¬ kindE l = 1 by omega), if_pos (show kindE l = 3 from h53)]
  unfold requestE
  have e : aboutL { m with os := l } = (handleE c t m iface now).reply.yi := hab.trans hw
  rw [hcl, e, if_neg (by omega), (may_good hmay).1, if_neg (by simp), if_neg (by omega), if_neg (by omega), if_pos hmay]
  unfold givenE
  rw [if_pos (given_room hmay f3 hl)]

/-! ### P19.7: what is kept fits the table -/
theorem put_same_len {t : List L} {l x : L} (h : firstT t x.addr = some l) : (putT t x).length ≤ t.length := by
  obtain ⟨hm, ha⟩ := first_some h
  have h1 : ∀ t : List L, l ∈ t → (t.filter fun b => decide (b.addr < x.addr)).length + (t.filter fun b => decide (x.addr < b.addr)).length + 1 ≤ t.length := by
    intro t
    induction t with
    | nil => intro h; cases h
    | cons b t ih =>
      intro hb
      have hq := filter_len t (fun b => decide (b.addr < x.addr)) (fun b => decide (x.addr < b.addr)) fun b h1 h2 => by
        simp only [decide_eq_true_iff] at h1 h2
        omega
      rw [List.filter_cons, List.filter_cons, List.length_cons]
      rcases List.mem_cons.1 hb with rfl | hb
      · rw [if_neg (by simp [ha]), if_neg (by simp [ha])]
        omega
      · have := ih hb
        by_cases c1 : b.addr < x.addr
        · rw [if_pos (by simp [c1]), if_neg (by simp; omega), List.length_cons]
          omega
        · by_cases c2 : x.addr < b.addr
          · rw [if_neg (by simp [c1]), if_pos (by simp [c2]), List.length_cons]
            omega
          · rw [if_neg (by simp [c1]), if_neg (by simp [c2])]
            omega
  have := h1 t hm
  unfold putT
  rw [List.length_append, List.length_cons]
  omega
/-- A lease in the place of the client's own: the client may still have what it may have. -/
theorem may_put {c : Cf} {t : List L} {net : Int} {k : List UInt8} {a now : Int} (h : mayA c t net k a now = true) {x : L} (hx : x.addr = a) (h1 : x.state = 1) (hk : x.key = k) (ht : RightT (putT t x)) : mayA c (putT t x) net k a now = true := by
  obtain ⟨⟨g1, g2, g3, g4, g5⟩, ho, hfr, hop⟩ := may_iff.1 h
  refine may_iff.2 ⟨⟨g1, ht, g3, g4, g5⟩, ?_, ?_, hop⟩
  · unfold otherA at ho ⊢
    rw [List.any_eq_false] at ho ⊢
    intro b hb
    rcases mem_put.1 hb with rfl | ⟨hb, _⟩
    · simp [hx]
    · exact ho b hb
  · unfold freeT
    rw [good_of ht]
    have hm : firstT (putT t x) a = some x := by
      rw [← hx]
      exact first_mem ht.2.2 (mem_put.2 (.inl rfl))
    rw [hm]
    unfold freeO restsT
    simp [h1, hk]
theorem fits_not {c : Cf} {t : List L} {m : M} {iface now : Int} (h : (handleE c t m iface now).keep = false) : (handleE c t m iface now).lease = zeroL := by
  by_cases hf : FairE c t m iface now
  · have ha := handle_act hf
    revert h
    generalize handleE c t m iface now = A at ha ⊢
    cases ha with
    | nothing => intro _; rfl
    | offer a _ _ => intro _; rfl
    | grant a _ _ _ => intro h; cases h
    | nak _ => intro _; rfl
    | ends a st till => intro h; cases h
    | inform _ => intro _; rfl
  · rw [handle_not hf]; rfl
theorem set_of {t : List L} {l : L} (h : (setT t l).2 = 0) : RightR l ∧ setT t l = (putT (goodT t) l, 0) := by
  rcases set_cases t l with ⟨_, e⟩ | ⟨_, _, e⟩ | ⟨hr, _, e⟩
  · rw [e] at h; cases h
  · rw [e] at h; cases h
  · exact ⟨hr, e⟩
/-- What is kept: it is right and fits; one that is given may still be had, another one rests, if it isn't released. -/
theorem fits {c : Cf} {t : List L} {m : M} {iface now : Int} (h : (handleE c t m iface now).keep = true) :
    (setT t (handleE c t m iface now).lease).2 = 0 ∧ RightR (handleE c t m iface now).lease ∧
      (((handleE c t m iface now).lease.state = 1 ∧ (findC c (handleE c t m iface now).lease.addr).2.2 = true ∧
          mayA c (setT t (handleE c t m iface now).lease).1 (findC c (handleE c t m iface now).lease.addr).1 (handleE c t m iface now).lease.key (handleE c t m iface now).lease.addr now = true ∧
          (now < (handleE c t m iface now).lease.till ∨ now = 1125899906842624)) ∨
        ((handleE c t m iface now).lease.state = 3 ∧ restsT (handleE c t m iface now).lease now = true) ∨ ((handleE c t m iface now).lease.state = 2 ∧ restsT (handleE c t m iface now).lease now = false)) := by
  by_cases hf : FairE c t m iface now
  · obtain ⟨f1, f2, f3, f4, f5, f6, f7, _⟩ := id hf
    have ha := handle_act hf
    revert h
    generalize handleE c t m iface now = A at ha ⊢
    cases ha with
    | nothing => intro h; cases h
    | offer a _ _ => intro h; cases h
    | nak _ => intro h; cases h
    | inform _ => intro h; cases h
    | grant a _ hm hs =>
      intro _
      obtain ⟨hr, e⟩ := set_of hs
      obtain ⟨q1, q2⟩ := may_found hm
      have hset := set_right t (givenL c (ofK m).1 a now)
      refine ⟨hs, hr, .inl ⟨rfl, q1, ?_, ?_⟩⟩
      · show mayA c (setT t (givenL c (ofK m).1 a now)).1 (findC c a).1 (ofK m).1 a now = true
        rw [e] at hset ⊢
        rw [good_of f2] at hset ⊢
        rw [q2]
        exact may_put hm rfl rfl rfl hset
      · obtain ⟨_, q3, _, _⟩ := find_sn q1
        exact (end_range f3 (time_pos q3)).2.2
    | ends a st till hg hk hh hcs =>
      intro _
      have hfst : ∃ l, firstT t a = some l ∧ (getT t a).1 = l := by
        unfold getT at hg ⊢
        rw [good_of f2] at hg ⊢
        cases hl : firstT t a with
        | none => rw [hl] at hg; cases hg
        | some l => exact ⟨l, rfl, rfl⟩
      obtain ⟨l, hl, el⟩ := hfst
      rw [el] at hk hh
      obtain ⟨hmem, hla⟩ := first_some hl
      have hlr := f2.2.1 l hmem
      obtain ⟨r1, r2, r3, r4⟩ := hlr
      simp only [holdsT, Bool.and_eq_true, decide_eq_true_eq] at hh
      have hpr : 1 ≤ c.prob := by
        have := (check_ok.1 f1).1
        simp only [formC, Bool.and_eq_true, decide_eq_true_eq] at this
        omega
      have he := end_range f3 hpr
      have hR : RightR ⟨a, st, till, (ofK m).1⟩ := by
        refine ⟨by rw [hla] at r1; exact r1, ?_, ?_, of_right f6⟩
        · show 1 ≤ st ∧ st ≤ 3
          omega
        · show 0 ≤ till ∧ till ≤ 1125899906842624
          rcases hcs with ⟨_, e, _⟩ | ⟨_, e, _⟩
          · rw [e]; exact ⟨he.1, he.2.1⟩
          · rw [e]; exact f3
      have hput := put_same_len (x := ⟨a, st, till, (ofK m).1⟩) hl
      have h64 := f2.1
      refine ⟨?_, hR, .inr ?_⟩
      · show (setT t ⟨a, st, till, (ofK m).1⟩).2 = 0
        rw [set_ok hR (by rw [good_of f2]; omega)]
      · rcases hcs with ⟨e1, e2, _⟩ | ⟨e1, e2, _⟩
        · refine .inl ⟨e1, ?_⟩
          show restsT ⟨a, st, till, (ofK m).1⟩ now = true
          have hlt : now < till := by omega
          show (decide (st = 3) && decide (now < till)) = true
          rw [decide_eq_true e1, decide_eq_true hlt]
          rfl
        · refine .inr ⟨e1, ?_⟩
          show restsT ⟨a, st, till, (ofK m).1⟩ now = false
          unfold restsT
          simp [e1]
  · rw [handle_not hf] at h; cases h
end Go.Proofs.YtoldppbakapohaaGreatDoor.Eg
end
/- The mathematics of how conf's Check asks: of all subnets in a row. No program. -/
section
namespace Go.Proofs.YtoldppbakapohaaGreatDoor.Cf
open Ad Ky

theorem any_or {α : Type} (f g : α → Bool) : ∀ l : List α, (l.any fun a => f a || g a) = (l.any f || l.any g)
  | [] => rfl
  | a :: l => by
    rw [List.any_cons, List.any_cons, List.any_cons, any_or f g l]
    cases f a <;> cases g a <;> cases l.any f <;> rfl
theorem not_all {α : Type} (f : α → Bool) : ∀ l : List α, (!l.all f) = l.any fun a => !f a
  | [] => rfl
  | a :: l => by rw [List.all_cons, List.any_cons, Bool.not_and, not_all f l]
def spanB (t : Int) : Bool := decide (1 ≤ t ∧ t ≤ 2147483648)
def sizeN (n : List Sn) : Bool := decide (1 ≤ n.length ∧ n.length ≤ 4)
def wrongC (c : Cf) : Bool := !rightB c.server || !spanB c.prob || decide (4 < c.nets.length) || c.nets.any fun n => !sizeN n
def strayB (s : Sn) : Bool := (!decide (s.router = 0) && !hasB s.base s.bits s.router) || (s.pools.any fun p => !lendsB s p.first || !lendsB s p.last) || s.res.any fun r => !lendsB s r.addr
def takesB (s : Sn) (a : Int) : Bool := (s.pools.any fun p => inPl p a) || s.res.any fun r => decide (r.addr = a)
theorem flat_any (f : Sn → Bool) : ∀ (l : List (List Sn)) (i : Nat), ((flatN i l).any fun x => f x.2) = l.any fun n => n.any f
  | [], _ => rfl
  | n :: r, i => by rw [flatN, List.any_append, flat_any f r, List.any_map, List.any_cons]; rfl
theorem out_code (s : Sn) (srv : Int) : (strayB s || takesB s srv) = !snO srv s := by
  unfold strayB takesB snO
  rw [Bool.not_and, Bool.not_and, not_all, not_all]
  have h1 : (s.pools.any fun a => !poolO srv s a) = ((s.pools.any fun p => !lendsB s p.first || !lendsB s p.last) || s.pools.any fun p => inPl p srv) := by
    rw [← any_or]
    refine congrArg (s.pools.any ·) (funext fun p => ?_)
    unfold poolO
    rw [Bool.not_and, Bool.not_and, Bool.not_not]
  have h2 : (s.res.any fun a => !resO srv s a) = ((s.res.any fun r => !lendsB s r.addr) || s.res.any fun r => decide (r.addr = srv)) := by
    rw [← any_or]
    refine congrArg (s.res.any ·) (funext fun r => ?_)
    unfold resO
    rw [Bool.not_and, Bool.not_not]
  rw [h1, h2, Bool.not_or]
  ac_rfl
theorem form_code (c : Cf) : (!formC c) = (wrongC c || (flatN 0 c.nets).any fun x => !snF x.2) := by
  rw [flat_any fun s => !snF s]
  unfold formC wrongC
  rw [Bool.not_and, Bool.not_and, Bool.not_and, not_all]
  have h1 : (c.nets.any fun a => !netF a) = ((c.nets.any fun n => !sizeN n) || c.nets.any fun n => n.any fun s => !snF s) := by
    rw [← any_or]
    refine congrArg (c.nets.any ·) (funext fun n => ?_)
    unfold netF sizeN
    rw [Bool.not_and, not_all]
  have h2 : (!decide (c.nets.length ≤ 4)) = decide (4 < c.nets.length) := by
    rw [← decide_not, decide_eq_decide]
    omega
  rw [h1, h2, ← Bool.or_assoc]
  rfl
theorem places_code (c : Cf) : (!placesC c) = (flatN 0 c.nets).any fun x => strayB x.2 || takesB x.2 c.server := by
  rw [flat_any fun s => strayB s || takesB s c.server]
  unfold placesC
  rw [not_all]
  refine congrArg (c.nets.any ·) (funext fun n => ?_)
  rw [not_all]
  exact congrArg (n.any ·) (funext fun s => (out_code s c.server).symm)
theorem twice_code (l : List (Nat × Sn)) : (pairB snClash l || pairB rsClash (resA l) || l.any fun x => pooledB x.2) = twiceL l := by
  unfold twiceL
  ac_rfl
end Go.Proofs.YtoldppbakapohaaGreatDoor.Cf
end
/- The mathematics of boarderlaw13's Great: how much of a configuration is looked at. No program. -/
section
namespace Go.Proofs.YtoldppbakapohaaGreatDoor.Cf

def greatS (s : Sn) : Bool := decide (20 < s.pools.length) || decide (20 < s.res.length) || s.res.any fun r => decide (1000 < r.key.length)
def greatN (n : List Sn) : Bool := decide (10 < n.length) || n.any greatS
def greatC (c : Cf) : Bool := decide (10 < c.nets.length) || c.nets.any greatN
structure Small (c : Cf) : Prop where
  nets : c.nets.length ≤ 10
  sns : ∀ n ∈ c.nets, n.length ≤ 10
  pools : ∀ n ∈ c.nets, ∀ s ∈ n, s.pools.length ≤ 20
  res : ∀ n ∈ c.nets, ∀ s ∈ n, s.res.length ≤ 20
  keys : ∀ n ∈ c.nets, ∀ s ∈ n, ∀ r ∈ s.res, r.key.length ≤ 1000
theorem small_iff {c : Cf} : greatC c = false ↔ Small c := by
  unfold greatC greatN greatS
  simp only [Bool.or_eq_false_iff, decide_eq_false_iff_not, List.any_eq_false, Bool.not_eq_true, Nat.not_lt]
  constructor
  · rintro ⟨h1, h2⟩
    exact ⟨h1, fun n hn => (h2 n hn).1, fun n hn s hs => ((h2 n hn).2 s hs).1.1, fun n hn s hs => ((h2 n hn).2 s hs).1.2, fun n hn s hs r hr => ((h2 n hn).2 s hs).2 r hr⟩
  · rintro ⟨h1, h2, h3, h4, h5⟩
    exact ⟨h1, fun n hn => ⟨h2 n hn, fun s hs => ⟨⟨h3 n hn s hs, h4 n hn s hs⟩, fun r hr => h5 n hn s hs r hr⟩⟩⟩
end Go.Proofs.YtoldppbakapohaaGreatDoor.Cf
end
/- The mathematics beneath layer 12's walks: rows looked at lease by lease, a binary search, a row filtered lease by lease. No program. -/
section
namespace Go.Proofs.YtoldppbakapohaaGreatDoor.Bw
open Rc La Tb

theorem take_nextB {l : List L} {k : Nat} {a : L} (h : l[k]? = some a) : l.take (k + 1) = l.take k ++ [a] := by
  obtain ⟨hk, e⟩ := List.getElem?_eq_some_iff.1 h
  rw [List.take_succ_eq_append_getElem hk, e]
theorem getD_of {l : List L} {k : Nat} {a : L} (h : l[k]? = some a) : l.getD k zeroL = a := by
  rw [List.getD_eq_getElem?_getD, h]
  rfl
/-! ### Right, lease by lease -/
/-- The first k leases are all right, and of each two neighbours among the first k + 1 the one is below the other. -/
def OkN (t : List L) (k : Nat) : Prop := (∀ a ∈ t.take k, RightR a) ∧ ∀ i, i + 1 ≤ k → i + 1 < t.length → (t.getD i zeroL).addr < (t.getD (i + 1) zeroL).addr
theorem okN_zero (t : List L) : OkN t 0 := ⟨fun a ha => by simp at ha, fun i hi => absurd hi (by omega)⟩
theorem okN_step {t : List L} {k : Nat} {a : L} (h : OkN t k) (ha : t[k]? = some a) (hr : RightR a) (hn : k + 1 < t.length → a.addr < (t.getD (k + 1) zeroL).addr) : OkN t (k + 1) := by
  refine ⟨fun b hb => ?_, fun i hi hl => ?_⟩
  · rw [take_nextB ha] at hb
    rcases List.mem_append.1 hb with hb | hb
    · exact h.1 b hb
    · rw [List.mem_singleton.1 hb]; exact hr
  · rcases Nat.lt_or_ge (i + 1) (k + 1) with q | q
    · exact h.2 i (by omega) hl
    · obtain rfl : i = k := by omega
      rw [getD_of ha]
      exact hn hl
theorem okN_end {t : List L} (h : OkN t t.length) (hn : t.length ≤ 64) : rightT t = true := by
  refine decide_eq_true ⟨hn, fun a ha => h.1 a (by rw [List.take_of_length_le (Nat.le_refl _)]; exact ha), (inc_iff t).2 fun i hi => h.2 i (by omega) hi⟩
/-- The same, of the neighbours among the first k. -/
def OkP (t : List L) (k : Nat) : Prop := (∀ a ∈ t.take k, RightR a) ∧ ∀ i, i + 1 < k → (t.getD i zeroL).addr < (t.getD (i + 1) zeroL).addr
theorem okP_zero (t : List L) : OkP t 0 := ⟨fun a ha => by simp at ha, fun i hi => absurd hi (by omega)⟩
theorem okP_step {t : List L} {k : Nat} {a : L} (h : OkP t k) (ha : t[k]? = some a) (hr : RightR a) (hn : ∀ j b, k = j + 1 → t[j]? = some b → b.addr < a.addr) : OkP t (k + 1) := by
  obtain ⟨hk, _⟩ := List.getElem?_eq_some_iff.1 ha
  refine ⟨fun b hb => ?_, fun i hi => ?_⟩
  · rw [take_nextB ha] at hb
    rcases List.mem_append.1 hb with hb | hb
    · exact h.1 b hb
    · rw [List.mem_singleton.1 hb]; exact hr
  · rcases Nat.lt_or_ge (i + 1) k with q | q
    · exact h.2 i q
    · obtain rfl : i + 1 = k := by omega
      have hb := List.getElem?_eq_getElem (l := t) (i := i) (by omega)
      rw [getD_of ha, getD_of hb]
      exact hn i _ rfl hb
theorem okP_end {t : List L} (h : OkP t t.length) (hn : t.length ≤ 64) : rightT t = true :=
  decide_eq_true ⟨hn, fun a ha => h.1 a (by rw [List.take_of_length_le (Nat.le_refl _)]; exact ha), (inc_iff t).2 fun i hi => h.2 i hi⟩
theorem right_long {t : List L} (h : 64 < t.length) : rightT t = false := decide_eq_false fun k => by have := k.1; omega
theorem right_bad {t : List L} {k : Nat} {a : L} (ha : t[k]? = some a) (hr : ¬ RightR a) : rightT t = false := decide_eq_false fun q => hr (q.2.1 a (List.mem_of_getElem? ha))
theorem right_turn {t : List L} {k : Nat} {a b : L} (ha : t[k]? = some a) (hb : t[k + 1]? = some b) (hn : ¬ a.addr < b.addr) : rightT t = false := decide_eq_false fun q => by
  obtain ⟨hk, _⟩ := List.getElem?_eq_some_iff.1 hb
  have := (inc_iff t).1 q.2.2 k hk
  rw [getD_of ha, getD_of hb] at this
  exact hn this
theorem good_yes {t : List L} (h : rightT t = true) : goodT t = t := good_of (of_decide_eq_true h)
theorem good_no {t : List L} (h : rightT t = false) : goodT t = [] := if_neg (of_decide_eq_false h)
/-! ### A binary search -/
/-- The place of a is from lo to hi. -/
def Bound (t : List L) (a : Int) (lo hi : Nat) : Prop := lo ≤ posT t a ∧ posT t a ≤ hi ∧ ∀ i, hi ≤ i → i < t.length → a < (t.getD i zeroL).addr
def hasT (t : List L) (a : Int) : Bool := (firstT t a).isSome
theorem bound_start (t : List L) (a : Int) : Bound t a 0 t.length := ⟨Nat.zero_le _, pos_le t a, fun i h1 h2 => absurd h2 (by omega)⟩
theorem bound_up {t : List L} (ht : Inc t) {a : Int} {lo hi m : Nat} {x : L} (h : Bound t a lo hi) (hx : t[m]? = some x) (hv : x.addr < a) : Bound t a (m + 1) hi := by
  obtain ⟨hm, _⟩ := List.getElem?_eq_some_iff.1 hx
  have := (pos_iff ht a m hm).1 (by rw [getD_of hx]; exact hv)
  exact ⟨this, h.2.1, h.2.2⟩
theorem bound_down {t : List L} (ht : Inc t) {a : Int} {lo hi m : Nat} {x : L} (h : Bound t a lo hi) (hx : t[m]? = some x) (hv : a < x.addr) : Bound t a lo m := by
  obtain ⟨hm, _⟩ := List.getElem?_eq_some_iff.1 hx
  have h1 : ¬ m < posT t a := fun k => by
    have := (pos_iff ht a m hm).2 k
    rw [getD_of hx] at this
    omega
  refine ⟨h.1, by omega, fun i hi hl => ?_⟩
  rcases Nat.lt_or_ge m i with q | q
  · have hp : Inc t := ht
    have := List.pairwise_iff_getElem.1 hp m i hm hl q
    rw [getD_of (List.getElem?_eq_getElem hl)]
    have e : t[m] = x := (Option.some.inj (hx.symm.trans (List.getElem?_eq_getElem hm))).symm
    rw [e] at this
    omega
  · obtain rfl : i = m := by omega
    rw [getD_of hx]
    exact hv
theorem bound_hit {t : List L} (ht : Inc t) {a : Int} {m : Nat} {x : L} (hx : t[m]? = some x) (hv : x.addr = a) : posT t a = m ∧ hasT t a = true := by
  obtain ⟨hm, _⟩ := List.getElem?_eq_some_iff.1 hx
  have h1 : ¬ m < posT t a := fun k => by
    have := (pos_iff ht a m hm).2 k
    rw [getD_of hx] at this
    omega
  have h2 : posT t a ≤ m := by omega
  have h3 : ¬ posT t a < m := fun k => by
    have hl : posT t a < t.length := by omega
    have hp : Inc t := ht
    have := List.pairwise_iff_getElem.1 hp (posT t a) m hl hm k
    have e : t[m] = x := (Option.some.inj (hx.symm.trans (List.getElem?_eq_getElem hm))).symm
    have h4 := mt (pos_iff ht a (posT t a) hl).1 (Nat.lt_irrefl _)
    rw [getD_of (List.getElem?_eq_getElem hl)] at h4
    rw [e] at this
    omega
  refine ⟨by omega, ?_⟩
  unfold hasT
  rw [show firstT t a = some x from (first_iff ht).2 ⟨List.mem_of_getElem? hx, hv⟩]
  rfl
theorem bound_end {t : List L} (ht : Inc t) {a : Int} {lo hi : Nat} (h : Bound t a lo hi) (he : ¬ lo < hi) : posT t a = lo ∧ hasT t a = false := by
  have h1 := h.1
  have h2 := h.2.1
  refine ⟨by omega, ?_⟩
  unfold hasT
  rw [first_pos ht, if_neg]
  · rfl
  · rintro ⟨k1, k2⟩
    have := h.2.2 (posT t a) (by omega) k1
    omega
theorem has_get {t : List L} {a : Int} : (hasT t a = true ∧ ∃ x, t[posT t a]? = some x ∧ x.addr = a ∧ firstT t a = some x) ∨ (hasT t a = false ∧ firstT t a = none) ∨ ¬ Inc t := by
  by_cases ht : Inc t
  · have := first_pos ht a
    unfold hasT
    split at this
    · next hh =>
      refine .inl ⟨by rw [this]; rfl, t.getD (posT t a) zeroL, ?_, hh.2, this⟩
      rw [List.getD_eq_getElem?_getD, List.getElem?_eq_getElem hh.1]
      rfl
    · exact .inr (.inl ⟨by rw [this]; rfl, this⟩)
  · exact .inr (.inr ht)
/-! ### A row, lease by lease -/
theorem filter_put {t : List L} {q : L → Bool} {k : Nat} {a : L} {ks : List L} (h : ks = (t.take k).filter q) (ha : t[k]? = some a) (hq : q a = true) : ks ++ [a] = (t.take (k + 1)).filter q := by
  rw [take_nextB ha, List.filter_append, ← h, List.filter_cons, if_pos hq]
  rfl
theorem filter_skip {t : List L} {q : L → Bool} {k : Nat} {a : L} {ks : List L} (h : ks = (t.take k).filter q) (ha : t[k]? = some a) (hq : q a = false) : ks = (t.take (k + 1)).filter q := by
  rw [take_nextB ha, List.filter_append, ← h, List.filter_cons, if_neg (by rw [hq]; simp)]
  simp
theorem filter_end {t : List L} {q : L → Bool} {ks : List L} (h : ks = (t.take t.length).filter q) : ks = t.filter q := by
  rwa [List.take_of_length_le (Nat.le_refl _)] at h
end Go.Proofs.YtoldppbakapohaaGreatDoor.Bw
end
