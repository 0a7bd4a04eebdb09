/- What the small functions of key and of the document's own come to: Right, withLetter, valueOf; Right, hex, value. Conditions: for valueOf, that the table of digits holds what the program's text lays. -/
import Derived.Test.YtoilljilndmmfaaKyMath
import Derived.Test.YtoilljilndmmfaaByU
import Derived.Test.YtoilljilndmmfaaBase
import Derived.WalkSpells
import Derived.WalkLawsBesides
import Derived.IntWalk
import Derived.Lib.Hide
set_option maxRecDepth 8000
namespace Go.Proofs.Ytoilljilndmmfaa.Kw
open Go.RowKit Tl By Ky

theorem size_list (s : ByteArray) : s.data.toList.length = s.size := by rw [Array.length_toList]; rfl
theorem drop_at (s : ByteArray) (pos : Nat) (h : pos < s.size) : s.data.toList.drop pos = s[pos] :: s.data.toList.drop (pos + 1) := by
  rw [List.drop_eq_getElem_cons (by simpa using h)]; rfl
theorem not_empty (s : ByteArray) (h : 1 ≤ s.size) : s.toList.isEmpty = false := by
  rw [ByteArray.toList_eq]
  cases hl : s.data.toList with
  | nil => have := size_list s; rw [hl] at this; simp at this; omega
  | cons _ _ => rfl
theorem is_empty (s : ByteArray) (h : s.size = 0) : s.toList.isEmpty = true := by
  rw [ByteArray.toList_eq]
  cases hl : s.data.toList with
  | nil => rfl
  | cons _ _ => have := size_list s; rw [hl] at this; simp at this; omega

/-! ### Which keys are right -/
theorem right_at (s : ByteArray) (h : 0 < s.size) : rightK s.data.toList = ((s[0] == 105 && decide (2 ≤ s.size - 1 ∧ s.size - 1 ≤ 255)) || (s[0] == 104 && decide (2 ≤ s.size - 1 ∧ s.size - 1 ≤ 17))) := by
  have e := drop_at s 0 h
  rw [List.drop_zero] at e
  have hl := size_list s
  rw [e, List.length_cons] at hl
  rw [e]
  show ((s[0] == 105 && decide (2 ≤ (s.data.toList.drop (0 + 1)).length ∧ (s.data.toList.drop (0 + 1)).length ≤ 255)) || (s[0] == 104 && decide (2 ≤ (s.data.toList.drop (0 + 1)).length ∧ (s.data.toList.drop (0 + 1)).length ≤ 17))) = _
  rw [show (s.data.toList.drop (0 + 1)).length = s.size - 1 by omega]
theorem byte_eq {x : UInt8} {n : Nat} (h : (x.toNat : Int) = (n : Int)) (hn : n < 256) : x = UInt8.ofNat n := UInt8.toNat_inj.1 (by rw [UInt8.toNat_ofNat']; omega)
theorem byte_ne {x : UInt8} {n : Nat} (h : ¬ (x.toNat : Int) = (n : Int)) (hn : n < 256) : (x == UInt8.ofNat n) = false := by
  rw [beq_eq_false_iff_ne]
  intro e
  apply h
  rw [e, UInt8.toNat_ofNat']
  omega

set_option maxHeartbeats 400000 in
theorem right_any (s : ByteArray) (w : World) (hs : s.size ≤ 9223372036854775807) :
    Calls Try.prog 56 #[.string s] w fun e w' => e = .returned (.bool (rightK s.data.toList)) ∧ w = w' := by
  by_cases h0 : 0 < s.size
  · have HR := Lib.hid (right_at s h0)
    have n0 := not_empty s (by omega)
    generalize hx : s[0]'h0 = x at HR
    by_cases h1 : (x.toNat : Int) = 105
    · obtain rfl : x = 105 := byte_eq (n := 105) h1 (by omega)
      have H : Hid (rightK s.data.toList = decide (2 ≤ s.size - 1 ∧ s.size - 1 ≤ 255)) := by show _ = _; rw [HR.out]; simp
      by_cases h2 : 2 ≤ (s.size : Int) - 1
      · go_enter Try.func56, Try.ntmps56
        go_wp2
        go_ret
        exact ⟨ret_bool (by rw [H.out]; first | (rw [decide_eq_decide]; omega) | (simp; omega)), rfl⟩
      · go_enter Try.func56, Try.ntmps56
        go_wp2
        go_ret
        exact ⟨ret_bool (by rw [H.out]; first | (rw [decide_eq_decide]; omega) | (simp; omega)), rfl⟩
    have b1 : ((x.toNat : Int) == 105) = false := by simpa using h1
    by_cases h2 : (x.toNat : Int) = 104
    · obtain rfl : x = 104 := byte_eq (n := 104) h2 (by omega)
      have H : Hid (rightK s.data.toList = decide (2 ≤ s.size - 1 ∧ s.size - 1 ≤ 17)) := by show _ = _; rw [HR.out]; simp
      clear h1 b1
      by_cases h2 : 2 ≤ (s.size : Int) - 1
      · go_enter Try.func56, Try.ntmps56
        go_wp2
        go_ret
        exact ⟨ret_bool (by rw [H.out]; first | (rw [decide_eq_decide]; omega) | (simp; omega)), rfl⟩
      · go_enter Try.func56, Try.ntmps56
        go_wp2
        go_ret
        exact ⟨ret_bool (by rw [H.out]; first | (rw [decide_eq_decide]; omega) | (simp; omega)), rfl⟩
    have b2 : ((x.toNat : Int) == 104) = false := by simpa using h2
    have H : Hid (rightK s.data.toList = false) := by
      show _ = _
      rw [HR.out, show (x == 105) = false from byte_ne (n := 105) h1 (by omega), show (x == 104) = false from byte_ne (n := 104) h2 (by omega)]
      simp
    clear h1 h2
    go_enter Try.func56, Try.ntmps56
    go_wp2
    go_ret
    exact ⟨ret_bool H.out.symm, rfl⟩
  · have n0 := is_empty s (by omega)
    have H : Hid (rightK s.data.toList = false) := by
      show _ = _
      have := size_list s
      rw [List.length_eq_zero_iff.1 (show s.data.toList.length = 0 by omega)]
      rfl
    clear h0
    go_enter Try.func56, Try.ntmps56
    go_wp2
    go_ret
    exact ⟨ret_bool H.out.symm, rfl⟩

set_option maxHeartbeats 400000 in
theorem refRight_any (s : ByteArray) (w : World) (hs : s.size ≤ 9223372036854775807) :
    Calls Try.prog 85 #[.string s] w fun e w' => e = .returned (.bool (rightK s.data.toList)) ∧ w = w' := by
  by_cases h0 : (s.size : Int) < 3
  · have H : Hid (rightK s.data.toList = false) := by
      show _ = _
      cases hr : rightK s.data.toList with
      | false => rfl
      | true =>
        have := text_len hr
        have := size_list s
        omega
    go_enter Try.func85, Try.ntmps85
    go_wp2
    go_ret
    exact ⟨ret_bool H.out.symm, rfl⟩
  · have h00 : 0 < s.size := by omega
    have HR := Lib.hid (right_at s h00)
    generalize hx : s[0]'h00 = x at HR
    by_cases h1 : (x.toNat : Int) = 105
    · obtain rfl : x = 105 := byte_eq (n := 105) h1 (by omega)
      have H : Hid (rightK s.data.toList = decide (2 ≤ s.size - 1 ∧ s.size - 1 ≤ 255)) := by show _ = _; rw [HR.out]; simp
      by_cases h2 : (s.size : Int) ≤ 256
      · go_enter Try.func85, Try.ntmps85
        go_wp2
        go_ret
        exact ⟨ret_bool (by rw [H.out]; first | (rw [decide_eq_decide]; omega) | (simp; omega)), rfl⟩
      · go_enter Try.func85, Try.ntmps85
        go_wp2
        go_ret
        exact ⟨ret_bool (by rw [H.out]; first | (rw [decide_eq_decide]; omega) | (simp; omega)), rfl⟩
    have b1 : ((x.toNat : Int) == 105) = false := by simpa using h1
    by_cases h2 : (x.toNat : Int) = 104
    · obtain rfl : x = 104 := byte_eq (n := 104) h2 (by omega)
      have H : Hid (rightK s.data.toList = decide (2 ≤ s.size - 1 ∧ s.size - 1 ≤ 17)) := by show _ = _; rw [HR.out]; simp
      clear h1 b1
      go_enter Try.func85, Try.ntmps85
      go_wp2
      go_ret
      exact ⟨ret_bool (by rw [H.out]; first | (rw [decide_eq_decide]; omega) | (simp; omega)), rfl⟩
    have b2 : ((x.toNat : Int) == 104) = false := by simpa using h2
    have H : Hid (rightK s.data.toList = false) := by
      show _ = _
      rw [HR.out, show (x == 105) = false from byte_ne (n := 105) h1 (by omega), show (x == 104) = false from byte_ne (n := 104) h2 (by omega)]
      simp
    clear h1 h2
    go_enter Try.func85, Try.ntmps85
    go_wp2
    go_ret
    exact ⟨ret_bool H.out.symm, rfl⟩

/-! ### A letter ahead -/
/-! ### What a digit stands for -/
def digsV : Value := .agg #[.int .u8 48, .int .u8 49, .int .u8 50, .int .u8 51, .int .u8 52, .int .u8 53, .int .u8 54, .int .u8 55, .int .u8 56, .int .u8 57, .int .u8 97, .int .u8 98, .int .u8 99, .int .u8 100, .int .u8 101, .int .u8 102]
def valK (c : UInt8) : Int := match digV c with
  | some v => (v : Int)
  | none => -1
theorem val_hit {k : Nat} (h : k < 16) : valK (hexD k) = (k : Int) := by unfold valK; rw [dig_hex h]
theorem val_none {c : UInt8} (h : ∀ i, i < 16 → hexD i ≠ c) : valK c = -1 := by
  unfold valK
  cases hd : digV c with
  | none => rfl
  | some v =>
    obtain ⟨h1, h2⟩ := hex_dig hd
    exact absurd h2 (h v h1)

/-! ### The document's hex and value -/
end Go.Proofs.Ytoilljilndmmfaa.Kw
