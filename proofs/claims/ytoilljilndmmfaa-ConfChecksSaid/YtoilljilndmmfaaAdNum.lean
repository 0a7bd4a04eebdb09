/- What the calls of package addr on prefixes, and the document's own answers to them, come to: for all numbers that an int holds. -/
import Derived.Test.YtoilljilndmmfaaAdMath
import Derived.Test.YtoilljilndmmfaaBase
import Derived.WalkKit
import Derived.WalkSpells
import Derived.WalkLawsBesides
import Derived.IntWalk
import Derived.Lib.Hide
namespace Go.Proofs.Ytoilljilndmmfaa.Aw
open Go.RowKit Ad

theorem ret_intErr {k : IntKind} {a b : Int} {v : Value} (h : a = b) : Ending.returned (.tuple #[.int k a, v]) = .returned (.tuple #[.int k b, v]) := by rw [h]

set_option maxHeartbeats 400000 in
theorem right_any (a : Int) (w : World) :
    Calls Try.prog 46 #[.int .i64 a] w fun e w' => e = .returned (.bool (rightB a)) ∧ w = w' := by
  go_enter Try.func46, Try.ntmps46
  go_wp2
  all_goals (go_ret; refine ⟨?_, rfl⟩; simp [rightB]; try omega)

set_option maxHeartbeats 400000 in
theorem refRight_any (a : Int) (w : World) :
    Calls Try.prog 69 #[.int .i64 a] w fun e w' => e = .returned (.bool (rightB a)) ∧ w = w' := by
  go_enter Try.func69, Try.ntmps69
  go_wp2
  all_goals (go_ret; refine ⟨ret_bool ?_, rfl⟩; rw [Bool.eq_iff_iff, rightB_iff]; simp; try omega)

set_option maxHeartbeats 400000 in
theorem bits_any (a : Int) (w : World) :
    Calls Try.prog 80 #[.int .i64 a] w fun e w' => e = .returned (.bool (bitsB a)) ∧ w = w' := by
  go_enter Try.func80, Try.ntmps80
  go_wp2
  all_goals (go_ret; refine ⟨?_, rfl⟩; simp [bitsB]; try omega)

set_option maxHeartbeats 400000 in
theorem size_any (k : Int) (w : World) (h0 : 0 ≤ k) (h1 : k ≤ 32) :
    Calls Try.prog 74 #[.int .i64 k] w fun e w' => e = .returned (.int .i64 (sz k)) ∧ w = w' := by
  go_enter Try.func74, Try.ntmps74
  go_wp2
  go_ret
  have h2 := sz_pos (k := k)
  have h3 := sz_le h0
  exact ⟨ret_int (IntWalk.wrap64_in (sz k) (by omega)), rfl⟩

/-- The document's size, by doubling. -/
theorem sz_step {k : Int} (h : k < 32) : sz k = sz (k + 1) * 2 := by
  unfold sz
  rw [show (32 - k).toNat = (32 - (k + 1)).toNat + 1 by omega, Int.pow_succ]
theorem sz_top : sz 32 = 1 := rfl

set_option maxHeartbeats 400000 in
theorem refSize_any (k : Int) (w : World) (h0 : 0 ≤ k) (h1 : k ≤ 32) :
    Calls Try.prog 76 #[.int .i64 k] w fun e w' => e = .returned (.int .i64 (sz k)) ∧ w = w' := by
  have HK := Lib.hid (sz_le h0)
  go_enter Try.func76, Try.ntmps76
  go_wp2
  go_loop [3, 4] (fun n i => ∃ j p : Int, k ≤ j ∧ j ≤ 32 ∧ 1 ≤ p ∧ Hid (p * sz j = sz k) ∧ i = .int .i64 j ∧ n = .int .i64 p) (fun _ i => (32 - intOf i).toNat)
  case atStart => exact ⟨k, 1, by omega, h1, by omega, Lib.hid (by omega), rfl, rfl⟩
  case round =>
    obtain ⟨j, p, hj, hj2, hp, hs, rfl, rfl⟩ := hrel
    have hp2 : p ≤ 4294967296 := by
      have := sz_pos (k := j)
      have h4 := HK.out
      have : p * 1 ≤ p * sz j := Int.mul_le_mul_of_nonneg_left (by omega) (by omega)
      have := hs.out
      omega
    by_cases hlt : j < 32
    · go_wp2
      go_round
      case rel =>
        refine ⟨j + 1, p * 2, by omega, by omega, by omega, Lib.hid ?_, rfl, rfl⟩
        rw [← hs.out, sz_step hlt, Int.mul_assoc, Int.mul_comm 2]
      case measure => simp [intOf]; omega
    · go_wp2
      go_ret
      have : j = 32 := by omega
      subst this
      have := hs.out
      rw [sz_top, Int.mul_one] at this
      rw [this]
      exact ⟨rfl, rfl⟩


theorem bits_false {k : Int} (h : ¬ bitsB k = true) : bitsB k = false := by simpa using h
theorem right_false {k : Int} (h : ¬ rightB k = true) : rightB k = false := by simpa using h
theorem fair_false {b k : Int} (h : ¬ fairB b k = true) : fairB b k = false := by simpa using h
theorem has_false {b k a : Int} (h : ¬ hasB b k a = true) : hasB b k a = false := by simpa using h
theorem meet_false {b k c l : Int} (h : ¬ meetB b k c l = true) : meetB b k c l = false := by simpa using h

set_option maxHeartbeats 400000 in
theorem fair_any (b k : Int) (w : World) :
    Calls Try.prog 51 #[.int .i64 b, .int .i64 k] w fun e w' => e = .returned (.bool (fairB b k)) ∧ w = w' := by
  by_cases hk : bitsB k = true
  · by_cases hb : rightB b = true
    · obtain ⟨hk0, hk1⟩ := bitsB_iff.1 hk
      obtain ⟨hb0, hb1⟩ := rightB_iff.1 hb
      have h2 := sz_pos (k := k)
      have h3 := sz_le hk0
      go_enter Try.func51, Try.ntmps51
      go_wp2_with (first
        | (go_at_call 80; refine (bits_any _ _).mono ?_; rintro e w' ⟨rfl, rfl⟩)
        | (go_at_call 46; refine (right_any _ _).mono ?_; rintro e w' ⟨rfl, rfl⟩)
        | (go_at_call 74; refine (size_any _ _ hk0 hk1).mono ?_; rintro e w' ⟨rfl, rfl⟩))
      go_ret
      exact ⟨ret_bool (by simp [fairB, hk, hb]; rfl), rfl⟩
    · have hb' := right_false hb
      clear hb
      go_enter Try.func51, Try.ntmps51
      go_wp2_with (first
        | (go_at_call 80; refine (bits_any _ _).mono ?_; rintro e w' ⟨rfl, rfl⟩)
        | (go_at_call 46; refine (right_any _ _).mono ?_; rintro e w' ⟨rfl, rfl⟩))
      go_ret
      exact ⟨ret_bool (by simp [fairB, hb']), rfl⟩
  · have hk' := bits_false hk
    clear hk
    go_enter Try.func51, Try.ntmps51
    go_wp2_with (first
      | (go_at_call 80; refine (bits_any _ _).mono ?_; rintro e w' ⟨rfl, rfl⟩))
    go_ret
    exact ⟨ret_bool (by simp [fairB, hk']), rfl⟩

set_option maxHeartbeats 400000 in
theorem refFair_any (b k : Int) (w : World) :
    Calls Try.prog 75 #[.int .i64 b, .int .i64 k] w fun e w' => e = .returned (.bool (fairB b k)) ∧ w = w' := by
  by_cases hk : bitsB k = true
  · obtain ⟨hk0, hk1⟩ := bitsB_iff.1 hk
    by_cases hb : rightB b = true
    · obtain ⟨hb0, hb1⟩ := rightB_iff.1 hb
      have h2 := sz_pos (k := k)
      have h3 := sz_le hk0
      go_enter Try.func75, Try.ntmps75
      go_wp2_with (first
        | (go_at_call 69; refine (refRight_any _ _).mono ?_; rintro e w' ⟨rfl, rfl⟩)
        | (go_at_call 76; refine (refSize_any _ _ hk0 hk1).mono ?_; rintro e w' ⟨rfl, rfl⟩))
      go_ret
      exact ⟨ret_bool (by simp [fairB, hk, hb]; rfl), rfl⟩
    · have hb' := right_false hb
      clear hb
      go_enter Try.func75, Try.ntmps75
      go_wp2_with (first
        | (go_at_call 69; refine (refRight_any _ _).mono ?_; rintro e w' ⟨rfl, rfl⟩))
      go_ret
      exact ⟨ret_bool (by simp [fairB, hb']), rfl⟩
  · have hk' := bits_false hk
    have hk2 : ¬ (0 ≤ k ∧ k ≤ 32) := fun h => hk (bitsB_iff.2 h)
    clear hk
    by_cases hk0 : 0 ≤ k
    · have hd : decide (k ≤ 32) = false := by simp; omega
      clear hk2
      go_enter Try.func75, Try.ntmps75
      go_wp2
      go_ret
      exact ⟨ret_bool (by simp [fairB, hk']), rfl⟩
    · have hd : decide (0 ≤ k) = false := by simp; omega
      clear hk2 hk0
      go_enter Try.func75, Try.ntmps75
      go_wp2
      go_ret
      exact ⟨ret_bool (by simp [fairB, hk']), rfl⟩

set_option maxHeartbeats 400000 in
theorem last_yes (b k : Int) (w : World) (h : fairB b k = true) :
    Calls Try.prog 83 #[.int .i64 b, .int .i64 k] w fun e w' => e = .returned (.tuple #[.int .i64 (b + sz k - 1), .int .i64 0]) ∧ w = w' := by
  have h' := fairB_iff.1 h
  have hk0 := h'.1.1
  have hk1 := h'.1.2
  have hb0 := h'.2.1.1
  have hb1 := h'.2.1.2
  clear h'
  have h2 := sz_pos (k := k)
  have h3 := sz_le hk0
  go_enter Try.func83, Try.ntmps83
  go_wp2_with (first
    | (go_at_call 51; refine (fair_any _ _ _).mono ?_; rintro e w' ⟨rfl, rfl⟩)
    | (go_at_call 74; refine (size_any _ _ hk0 hk1).mono ?_; rintro e w' ⟨rfl, rfl⟩))
  go_ret2
  exact ⟨rfl, rfl⟩
set_option maxHeartbeats 400000 in
theorem last_no (b k : Int) (w : World) (h : fairB b k = false) :
    Calls Try.prog 83 #[.int .i64 b, .int .i64 k] w fun e w' => e = .returned (.tuple #[.int .i64 0, .int .i64 1]) ∧ w = w' := by
  go_enter Try.func83, Try.ntmps83
  go_wp2_with (first
    | (go_at_call 51; refine (fair_any _ _ _).mono ?_; rintro e w' ⟨rfl, rfl⟩))
  go_ret2
  exact ⟨rfl, rfl⟩
set_option maxHeartbeats 400000 in
theorem refLast_any (b k : Int) (w : World) (h : fairB b k = true) :
    Calls Try.prog 86 #[.int .i64 b, .int .i64 k] w fun e w' => e = .returned (.int .i64 (b + sz k - 1)) ∧ w = w' := by
  have h' := fairB_iff.1 h
  have hk0 := h'.1.1
  have hk1 := h'.1.2
  have hb0 := h'.2.1.1
  have hb1 := h'.2.1.2
  clear h'
  have h2 := sz_pos (k := k)
  have h3 := sz_le hk0
  go_enter Try.func86, Try.ntmps86
  go_wp2_with (first
    | (go_at_call 76; refine (refSize_any _ _ hk0 hk1).mono ?_; rintro e w' ⟨rfl, rfl⟩))
  go_ret
  exact ⟨rfl, rfl⟩

set_option maxHeartbeats 400000 in
theorem has_any (b k a : Int) (w : World) :
    Calls Try.prog 36 #[.int .i64 b, .int .i64 k, .int .i64 a] w fun e w' => e = .returned (.bool (hasB b k a)) ∧ w = w' := by
  by_cases hf : fairB b k = true
  · by_cases ha : rightB a = true
    · have h' := fairB_iff.1 hf
      have hk0 := h'.1.1
      have hk1 := h'.1.2
      clear h'
      obtain ⟨ha0, ha1⟩ := rightB_iff.1 ha
      have h2 := sz_pos (k := k)
      have h3 := sz_le hk0
      have h4 := Int.emod_nonneg a (b := sz k) (by omega)
      have h5 := Int.emod_lt_of_pos a (b := sz k) (by omega)
      have HC := Lib.hid (has_code (a := a) hf)
      go_enter Try.func36, Try.ntmps36
      go_wp2_with (first
        | (go_at_call 51; refine (fair_any _ _ _).mono ?_; rintro e w' ⟨rfl, rfl⟩)
        | (go_at_call 46; refine (right_any _ _).mono ?_; rintro e w' ⟨rfl, rfl⟩)
        | (go_at_call 74; refine (size_any _ _ hk0 hk1).mono ?_; rintro e w' ⟨rfl, rfl⟩))
      go_ret
      refine ⟨ret_bool ?_, rfl⟩
      show (a - a % sz k == b) = _
      rw [Bool.eq_iff_iff, hasB_iff, beq_iff_eq, HC.out]
      exact ⟨fun h => ⟨hf, ⟨ha0, ha1⟩, h⟩, fun h => h.2.2⟩
    · have ha' := right_false ha
      clear ha
      go_enter Try.func36, Try.ntmps36
      go_wp2_with (first
        | (go_at_call 51; refine (fair_any _ _ _).mono ?_; rintro e w' ⟨rfl, rfl⟩)
        | (go_at_call 46; refine (right_any _ _).mono ?_; rintro e w' ⟨rfl, rfl⟩))
      go_ret
      exact ⟨ret_bool (by simp [hasB, ha']), rfl⟩
  · have hf' := fair_false hf
    clear hf
    go_enter Try.func36, Try.ntmps36
    go_wp2_with (first
      | (go_at_call 51; refine (fair_any _ _ _).mono ?_; rintro e w' ⟨rfl, rfl⟩))
    go_ret
    exact ⟨ret_bool (by simp [hasB, hf']), rfl⟩

set_option maxHeartbeats 400000 in
theorem refHas_any (b k a : Int) (w : World) :
    Calls Try.prog 37 #[.int .i64 b, .int .i64 k, .int .i64 a] w fun e w' => e = .returned (.bool (hasB b k a)) ∧ w = w' := by
  by_cases hf : fairB b k = true
  · by_cases ha : rightB a = true
    · have h' := fairB_iff.1 hf
      have hk0 := h'.1.1
      have hk1 := h'.1.2
      have hb0 := h'.2.1.1
      have hb1 := h'.2.1.2
      clear h'
      have HA := Lib.hid (rightB_iff.1 ha)
      have h2 := sz_pos (k := k)
      have h3 := sz_le hk0
      by_cases hba : b ≤ a
      · go_enter Try.func37, Try.ntmps37
        go_wp2_with (first
          | (go_at_call 75; refine (refFair_any _ _ _).mono ?_; rintro e w' ⟨rfl, rfl⟩)
          | (go_at_call 69; refine (refRight_any _ _).mono ?_; rintro e w' ⟨rfl, rfl⟩)
          | (go_at_call 76; refine (refSize_any _ _ hk0 hk1).mono ?_; rintro e w' ⟨rfl, rfl⟩))
        go_ret
        exact ⟨ret_bool (by simp [hasB, hf, ha, hba]), rfl⟩
      · have hd : decide (b ≤ a) = false := by simp; omega
        go_enter Try.func37, Try.ntmps37
        go_wp2_with (first
          | (go_at_call 75; refine (refFair_any _ _ _).mono ?_; rintro e w' ⟨rfl, rfl⟩)
          | (go_at_call 69; refine (refRight_any _ _).mono ?_; rintro e w' ⟨rfl, rfl⟩))
        go_ret
        exact ⟨ret_bool (by simp [hasB]; intros; omega), rfl⟩
    · have ha' := right_false ha
      clear ha
      go_enter Try.func37, Try.ntmps37
      go_wp2_with (first
        | (go_at_call 75; refine (refFair_any _ _ _).mono ?_; rintro e w' ⟨rfl, rfl⟩)
        | (go_at_call 69; refine (refRight_any _ _).mono ?_; rintro e w' ⟨rfl, rfl⟩))
      go_ret
      exact ⟨ret_bool (by simp [hasB, ha']), rfl⟩
  · have hf' := fair_false hf
    clear hf
    go_enter Try.func37, Try.ntmps37
    go_wp2_with (first
      | (go_at_call 75; refine (refFair_any _ _ _).mono ?_; rintro e w' ⟨rfl, rfl⟩))
    go_ret
    exact ⟨ret_bool (by simp [hasB, hf']), rfl⟩

set_option maxHeartbeats 400000 in
theorem meet_any (b k c l : Int) (w : World) :
    Calls Try.prog 84 #[.int .i64 b, .int .i64 k, .int .i64 c, .int .i64 l] w fun e w' => e = .returned (.bool (meetB b k c l)) ∧ w = w' := by
  by_cases hf : fairB b k = true
  · by_cases hg : fairB c l = true
    · have HM := Lib.hid (meet_code hf hg)
      cases h1 : hasB b k c
      · go_enter Try.func84, Try.ntmps84
        go_wp2_with (first
          | (go_at_call 51; refine (fair_any _ _ _).mono ?_; rintro e w' ⟨rfl, rfl⟩)
          | (go_at_call 36; refine (has_any _ _ _ _).mono ?_; rintro e w' ⟨rfl, rfl⟩))
        go_ret
        exact ⟨ret_bool (by rw [← HM.out, h1]; rfl), rfl⟩
      · go_enter Try.func84, Try.ntmps84
        go_wp2_with (first
          | (go_at_call 51; refine (fair_any _ _ _).mono ?_; rintro e w' ⟨rfl, rfl⟩)
          | (go_at_call 36; refine (has_any _ _ _ _).mono ?_; rintro e w' ⟨rfl, rfl⟩))
        go_ret
        exact ⟨ret_bool (by rw [← HM.out, h1]; rfl), rfl⟩
    · have hg' := fair_false hg
      clear hg
      go_enter Try.func84, Try.ntmps84
      go_wp2_with (first
        | (go_at_call 51; refine (fair_any _ _ _).mono ?_; rintro e w' ⟨rfl, rfl⟩))
      go_ret
      exact ⟨ret_bool (by simp [meetB, hg']), rfl⟩
  · have hf' := fair_false hf
    clear hf
    go_enter Try.func84, Try.ntmps84
    go_wp2_with (first
      | (go_at_call 51; refine (fair_any _ _ _).mono ?_; rintro e w' ⟨rfl, rfl⟩))
    go_ret
    exact ⟨ret_bool (by simp [meetB, hf']), rfl⟩

set_option maxHeartbeats 400000 in
theorem refMeet_any (b k c l : Int) (w : World) :
    Calls Try.prog 73 #[.int .i64 b, .int .i64 k, .int .i64 c, .int .i64 l] w fun e w' => e = .returned (.bool (meetB b k c l)) ∧ w = w' := by
  by_cases hf : fairB b k = true
  · by_cases hg : fairB c l = true
    · by_cases h1 : b ≤ c + sz l - 1
      · go_enter Try.func73, Try.ntmps73
        go_wp2_with (first
          | (go_at_call 75; refine (refFair_any _ _ _).mono ?_; rintro e w' ⟨rfl, rfl⟩)
          | (go_at_call 86; refine (refLast_any _ _ _ (by assumption)).mono ?_; rintro e w' ⟨rfl, rfl⟩))
        go_ret
        exact ⟨ret_bool (by simp [meetB, hf, hg, h1]), rfl⟩
      · have hd : decide (b ≤ c + sz l - 1) = false := by simp; omega
        go_enter Try.func73, Try.ntmps73
        go_wp2_with (first
          | (go_at_call 75; refine (refFair_any _ _ _).mono ?_; rintro e w' ⟨rfl, rfl⟩)
          | (go_at_call 86; refine (refLast_any _ _ _ (by assumption)).mono ?_; rintro e w' ⟨rfl, rfl⟩))
        go_ret
        exact ⟨ret_bool (by simp [meetB]; intros; omega), rfl⟩
    · have hg' := fair_false hg
      clear hg
      go_enter Try.func73, Try.ntmps73
      go_wp2_with (first
        | (go_at_call 75; refine (refFair_any _ _ _).mono ?_; rintro e w' ⟨rfl, rfl⟩))
      go_ret
      exact ⟨ret_bool (by simp [meetB, hg']), rfl⟩
  · have hf' := fair_false hf
    clear hf
    go_enter Try.func73, Try.ntmps73
    go_wp2_with (first
      | (go_at_call 75; refine (refFair_any _ _ _).mono ?_; rintro e w' ⟨rfl, rfl⟩))
    go_ret
    exact ⟨ret_bool (by simp [meetB, hf']), rfl⟩
end Go.Proofs.Ytoilljilndmmfaa.Aw
