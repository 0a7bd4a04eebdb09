/- What the small functions of key and of the document's own come to: Right, withLetter, valueOf; Right, hex, value. Conditions: for valueOf, that the table of digits holds what the program's text lays. -/
import Derived.Test.YtgdomcjonlngaaaDoorKyMath
import Derived.Test.YtgdomcjonlngaaaDoorByU
import Derived.Test.YtgdomcjonlngaaaDoorBase
import Derived.WalkSpells
import Derived.WalkLawsBesides
import Derived.IntWalk
import Derived.Lib.Hide
set_option maxRecDepth 8000
namespace Go.Proofs.YtgdomcjonlngaaaDoor.Kw
open Go.RowKit Tl By Ky

/-- The table of digits holds what the program's text lays. -/
def Dig (w : World) : Prop := ∀ i, i < 16 → w.cell? ⟨0, i, none⟩ = some (.int .u8 ((hexD i).toNat : Int))
theorem Dig.below {w w' : World} (h : Dig w) (hb : Below w.heap.size w w') : Dig w' := fun i hi => (hb.cell (p := ⟨0, i, none⟩) (World.block_lt_of_cell? w _ (h i hi))).trans (h i hi)
theorem Dig.lt {w : World} (h : Dig w) : 0 < w.heap.size := World.block_lt_of_cell? w _ (h 0 (by decide))
theorem size_list (s : ByteArray) : s.data.toList.length = s.size := by rw [Array.length_toList]; rfl
theorem drop_at (s : ByteArray) (pos : Nat) (h : pos < s.size) : s.data.toList.drop pos = s[pos] :: s.data.toList.drop (pos + 1) := by
  rw [List.drop_eq_getElem_cons (by simpa using h)]; rfl
theorem not_empty (s : ByteArray) (h : 1 ≤ s.size) : s.toList.isEmpty = false := by
  rw [ByteArray.toList_eq]
  cases hl : s.data.toList with
  | nil => have := size_list s; rw [hl] at this; simp at this; omega
  | cons _ _ => rfl
theorem is_empty (s : ByteArray) (h : s.size = 0) : s.toList.isEmpty = true := by
  rw [ByteArray.toList_eq]
  cases hl : s.data.toList with
  | nil => rfl
  | cons _ _ => have := size_list s; rw [hl] at this; simp at this; omega

/-! ### Which keys are right -/
theorem right_at (s : ByteArray) (h : 0 < s.size) : rightK s.data.toList = ((s[0] == 105 && decide (2 ≤ s.size - 1 ∧ s.size - 1 ≤ 255)) || (s[0] == 104 && decide (2 ≤ s.size - 1 ∧ s.size - 1 ≤ 17))) := by
  have e := drop_at s 0 h
  rw [List.drop_zero] at e
  have hl := size_list s
  rw [e, List.length_cons] at hl
  rw [e]
  show ((s[0] == 105 && decide (2 ≤ (s.data.toList.drop (0 + 1)).length ∧ (s.data.toList.drop (0 + 1)).length ≤ 255)) || (s[0] == 104 && decide (2 ≤ (s.data.toList.drop (0 + 1)).length ∧ (s.data.toList.drop (0 + 1)).length ≤ 17))) = _
  rw [show (s.data.toList.drop (0 + 1)).length = s.size - 1 by omega]
theorem byte_eq {x : UInt8} {n : Nat} (h : (x.toNat : Int) = (n : Int)) (hn : n < 256) : x = UInt8.ofNat n := UInt8.toNat_inj.1 (by rw [UInt8.toNat_ofNat']; omega)
theorem byte_ne {x : UInt8} {n : Nat} (h : ¬ (x.toNat : Int) = (n : Int)) (hn : n < 256) : (x == UInt8.ofNat n) = false := by
  rw [beq_eq_false_iff_ne]
  intro e
  apply h
  rw [e, UInt8.toNat_ofNat']
  omega

set_option maxHeartbeats 400000 in
theorem right_any (s : ByteArray) (w : World) (hs : s.size ≤ 9223372036854775807) :
    Calls Tryd.prog 13 #[.string s] w fun e w' => e = .returned (.bool (rightK s.data.toList)) ∧ w = w' := by
  by_cases h0 : 0 < s.size
  · have HR := Lib.hid (right_at s h0)
    have n0 := not_empty s (by omega)
    generalize hx : s[0]'h0 = x at HR
    by_cases h1 : (x.toNat : Int) = 105
    · obtain rfl : x = 105 := byte_eq (n := 105) h1 (by omega)
      have H : Hid (rightK s.data.toList = decide (2 ≤ s.size - 1 ∧ s.size - 1 ≤ 255)) := by show _ = _; rw [HR.out]; simp
      by_cases h2 : 2 ≤ (s.size : Int) - 1
      · go_enter Tryd.func13, Tryd.ntmps13
        go_wp2
        go_ret
        exact ⟨ret_bool (by rw [H.out]; first | (rw [decide_eq_decide]; omega) | (simp; omega)), rfl⟩
      · go_enter Tryd.func13, Tryd.ntmps13
        go_wp2
        go_ret
        exact ⟨ret_bool (by rw [H.out]; first | (rw [decide_eq_decide]; omega) | (simp; omega)), rfl⟩
    have b1 : ((x.toNat : Int) == 105) = false := by simpa using h1
    by_cases h2 : (x.toNat : Int) = 104
    · obtain rfl : x = 104 := byte_eq (n := 104) h2 (by omega)
      have H : Hid (rightK s.data.toList = decide (2 ≤ s.size - 1 ∧ s.size - 1 ≤ 17)) := by show _ = _; rw [HR.out]; simp
      clear h1 b1
      by_cases h2 : 2 ≤ (s.size : Int) - 1
      · go_enter Tryd.func13, Tryd.ntmps13
        go_wp2
        go_ret
        exact ⟨ret_bool (by rw [H.out]; first | (rw [decide_eq_decide]; omega) | (simp; omega)), rfl⟩
      · go_enter Tryd.func13, Tryd.ntmps13
        go_wp2
        go_ret
        exact ⟨ret_bool (by rw [H.out]; first | (rw [decide_eq_decide]; omega) | (simp; omega)), rfl⟩
    have b2 : ((x.toNat : Int) == 104) = false := by simpa using h2
    have H : Hid (rightK s.data.toList = false) := by
      show _ = _
      rw [HR.out, show (x == 105) = false from byte_ne (n := 105) h1 (by omega), show (x == 104) = false from byte_ne (n := 104) h2 (by omega)]
      simp
    clear h1 h2
    go_enter Tryd.func13, Tryd.ntmps13
    go_wp2
    go_ret
    exact ⟨ret_bool H.out.symm, rfl⟩
  · have n0 := is_empty s (by omega)
    have H : Hid (rightK s.data.toList = false) := by
      show _ = _
      have := size_list s
      rw [List.length_eq_zero_iff.1 (show s.data.toList.length = 0 by omega)]
      rfl
    clear h0
    go_enter Tryd.func13, Tryd.ntmps13
    go_wp2
    go_ret
    exact ⟨ret_bool H.out.symm, rfl⟩

set_option maxHeartbeats 400000 in
theorem refRight_any (s : ByteArray) (w : World) (hs : s.size ≤ 9223372036854775807) :
    Calls Tryd.prog 15 #[.string s] w fun e w' => e = .returned (.bool (rightK s.data.toList)) ∧ w = w' := by
  by_cases h0 : (s.size : Int) < 3
  · have H : Hid (rightK s.data.toList = false) := by
      show _ = _
      cases hr : rightK s.data.toList with
      | false => rfl
      | true =>
        have := text_len hr
        have := size_list s
        omega
    go_enter Tryd.func15, Tryd.ntmps15
    go_wp2
    go_ret
    exact ⟨ret_bool H.out.symm, rfl⟩
  · have h00 : 0 < s.size := by omega
    have HR := Lib.hid (right_at s h00)
    generalize hx : s[0]'h00 = x at HR
    by_cases h1 : (x.toNat : Int) = 105
    · obtain rfl : x = 105 := byte_eq (n := 105) h1 (by omega)
      have H : Hid (rightK s.data.toList = decide (2 ≤ s.size - 1 ∧ s.size - 1 ≤ 255)) := by show _ = _; rw [HR.out]; simp
      by_cases h2 : (s.size : Int) ≤ 256
      · go_enter Tryd.func15, Tryd.ntmps15
        go_wp2
        go_ret
        exact ⟨ret_bool (by rw [H.out]; first | (rw [decide_eq_decide]; omega) | (simp; omega)), rfl⟩
      · go_enter Tryd.func15, Tryd.ntmps15
        go_wp2
        go_ret
        exact ⟨ret_bool (by rw [H.out]; first | (rw [decide_eq_decide]; omega) | (simp; omega)), rfl⟩
    have b1 : ((x.toNat : Int) == 105) = false := by simpa using h1
    by_cases h2 : (x.toNat : Int) = 104
    · obtain rfl : x = 104 := byte_eq (n := 104) h2 (by omega)
      have H : Hid (rightK s.data.toList = decide (2 ≤ s.size - 1 ∧ s.size - 1 ≤ 17)) := by show _ = _; rw [HR.out]; simp
      clear h1 b1
      go_enter Tryd.func15, Tryd.ntmps15
      go_wp2
      go_ret
      exact ⟨ret_bool (by rw [H.out]; first | (rw [decide_eq_decide]; omega) | (simp; omega)), rfl⟩
    have b2 : ((x.toNat : Int) == 104) = false := by simpa using h2
    have H : Hid (rightK s.data.toList = false) := by
      show _ = _
      rw [HR.out, show (x == 105) = false from byte_ne (n := 105) h1 (by omega), show (x == 104) = false from byte_ne (n := 104) h2 (by omega)]
      simp
    clear h1 h2
    go_enter Tryd.func15, Tryd.ntmps15
    go_wp2
    go_ret
    exact ⟨ret_bool H.out.symm, rfl⟩

/-! ### A letter ahead -/
set_option maxHeartbeats 400000 in
theorem withLetter_any (x : UInt8) (A : Option Addr) (n c : Nat) (l : List UInt8) (w : World) (h : Bs w A n c l) (hn : n ≤ 1000000) :
    Calls Tryd.prog 24 #[.int .u8 (x.toNat : Int), .slice A n c] w fun e w' => e = .returned (.string ⟨(x :: l).toArray⟩) ∧ Below w.heap.size w w' := by
  go_enter Tryd.func24, Tryd.ntmps24
  go_wp2_with (at_builtin; refine wpList_app byP rfl (.tmp 6) (.tmp 7) rfl rfl (Own.lit1 5 w x) rfl (h.alloc _) (by omega) (by simp) ?_; intro A1 c1 w1 hown1 hb1 _ _; have hcv := byP.str hown1.bs)
  go_ret
  exact ⟨rfl, ((Below.refl _ _).alloc (Nat.le_refl _) _).trans hb1⟩

/-! ### What a digit stands for -/
def digsV : Value := .agg #[.int .u8 48, .int .u8 49, .int .u8 50, .int .u8 51, .int .u8 52, .int .u8 53, .int .u8 54, .int .u8 55, .int .u8 56, .int .u8 57, .int .u8 97, .int .u8 98, .int .u8 99, .int .u8 100, .int .u8 101, .int .u8 102]
theorem dig_0 (W : World) : (Instr.index 47 digsV (.int .i64 0)).run Tryd.prog W = .ok (.int .u8 48) W := by kernel_rfl
theorem dig_1 (W : World) : (Instr.index 47 digsV (.int .i64 1)).run Tryd.prog W = .ok (.int .u8 49) W := by kernel_rfl
theorem dig_2 (W : World) : (Instr.index 47 digsV (.int .i64 2)).run Tryd.prog W = .ok (.int .u8 50) W := by kernel_rfl
theorem dig_3 (W : World) : (Instr.index 47 digsV (.int .i64 3)).run Tryd.prog W = .ok (.int .u8 51) W := by kernel_rfl
theorem dig_4 (W : World) : (Instr.index 47 digsV (.int .i64 4)).run Tryd.prog W = .ok (.int .u8 52) W := by kernel_rfl
theorem dig_5 (W : World) : (Instr.index 47 digsV (.int .i64 5)).run Tryd.prog W = .ok (.int .u8 53) W := by kernel_rfl
theorem dig_6 (W : World) : (Instr.index 47 digsV (.int .i64 6)).run Tryd.prog W = .ok (.int .u8 54) W := by kernel_rfl
theorem dig_7 (W : World) : (Instr.index 47 digsV (.int .i64 7)).run Tryd.prog W = .ok (.int .u8 55) W := by kernel_rfl
theorem dig_8 (W : World) : (Instr.index 47 digsV (.int .i64 8)).run Tryd.prog W = .ok (.int .u8 56) W := by kernel_rfl
theorem dig_9 (W : World) : (Instr.index 47 digsV (.int .i64 9)).run Tryd.prog W = .ok (.int .u8 57) W := by kernel_rfl
theorem dig_10 (W : World) : (Instr.index 47 digsV (.int .i64 10)).run Tryd.prog W = .ok (.int .u8 97) W := by kernel_rfl
theorem dig_11 (W : World) : (Instr.index 47 digsV (.int .i64 11)).run Tryd.prog W = .ok (.int .u8 98) W := by kernel_rfl
theorem dig_12 (W : World) : (Instr.index 47 digsV (.int .i64 12)).run Tryd.prog W = .ok (.int .u8 99) W := by kernel_rfl
theorem dig_13 (W : World) : (Instr.index 47 digsV (.int .i64 13)).run Tryd.prog W = .ok (.int .u8 100) W := by kernel_rfl
theorem dig_14 (W : World) : (Instr.index 47 digsV (.int .i64 14)).run Tryd.prog W = .ok (.int .u8 101) W := by kernel_rfl
theorem dig_15 (W : World) : (Instr.index 47 digsV (.int .i64 15)).run Tryd.prog W = .ok (.int .u8 102) W := by kernel_rfl
theorem dig_at {k : Nat} (hk : k < 16) (W : World) : (Instr.index 47 (.agg #[.int .u8 48, .int .u8 49, .int .u8 50, .int .u8 51, .int .u8 52, .int .u8 53, .int .u8 54, .int .u8 55, .int .u8 56, .int .u8 57, .int .u8 97, .int .u8 98, .int .u8 99, .int .u8 100, .int .u8 101, .int .u8 102]) (.int .i64 (k : Int))).run Tryd.prog W = .ok (.int .u8 ((hexD k).toNat : Int)) W := by
  have h : k = 0 ∨ k = 1 ∨ k = 2 ∨ k = 3 ∨ k = 4 ∨ k = 5 ∨ k = 6 ∨ k = 7 ∨ k = 8 ∨ k = 9 ∨ k = 10 ∨ k = 11 ∨ k = 12 ∨ k = 13 ∨ k = 14 ∨ k = 15 := by omega
  rcases h with rfl | rfl | rfl | rfl | rfl | rfl | rfl | rfl | rfl | rfl | rfl | rfl | rfl | rfl | rfl | rfl
  · exact dig_0 W
  · exact dig_1 W
  · exact dig_2 W
  · exact dig_3 W
  · exact dig_4 W
  · exact dig_5 W
  · exact dig_6 W
  · exact dig_7 W
  · exact dig_8 W
  · exact dig_9 W
  · exact dig_10 W
  · exact dig_11 W
  · exact dig_12 W
  · exact dig_13 W
  · exact dig_14 W
  · exact dig_15 W
def valK (c : UInt8) : Int := match digV c with
  | some v => (v : Int)
  | none => -1
theorem val_hit {k : Nat} (h : k < 16) : valK (hexD k) = (k : Int) := by unfold valK; rw [dig_hex h]
theorem val_none {c : UInt8} (h : ∀ i, i < 16 → hexD i ≠ c) : valK c = -1 := by
  unfold valK
  cases hd : digV c with
  | none => rfl
  | some v =>
    obtain ⟨h1, h2⟩ := hex_dig hd
    exact absurd h2 (h v h1)

set_option maxHeartbeats 1000000 in
theorem valueOf_any (c : UInt8) (w : World) (hw : Dig w) : Calls Tryd.prog 36 #[.int .u8 (c.toNat : Int)] w fun e w' => e = .returned (.int .i64 (valK c)) ∧ w = w' := by
  have g0 : w.cell? ⟨0, 0, none⟩ = some (.int .u8 48) := hw 0 (by decide)
  have g1 : w.cell? ⟨0, 1, none⟩ = some (.int .u8 49) := hw 1 (by decide)
  have g2 : w.cell? ⟨0, 2, none⟩ = some (.int .u8 50) := hw 2 (by decide)
  have g3 : w.cell? ⟨0, 3, none⟩ = some (.int .u8 51) := hw 3 (by decide)
  have g4 : w.cell? ⟨0, 4, none⟩ = some (.int .u8 52) := hw 4 (by decide)
  have g5 : w.cell? ⟨0, 5, none⟩ = some (.int .u8 53) := hw 5 (by decide)
  have g6 : w.cell? ⟨0, 6, none⟩ = some (.int .u8 54) := hw 6 (by decide)
  have g7 : w.cell? ⟨0, 7, none⟩ = some (.int .u8 55) := hw 7 (by decide)
  have g8 : w.cell? ⟨0, 8, none⟩ = some (.int .u8 56) := hw 8 (by decide)
  have g9 : w.cell? ⟨0, 9, none⟩ = some (.int .u8 57) := hw 9 (by decide)
  have g10 : w.cell? ⟨0, 10, none⟩ = some (.int .u8 97) := hw 10 (by decide)
  have g11 : w.cell? ⟨0, 11, none⟩ = some (.int .u8 98) := hw 11 (by decide)
  have g12 : w.cell? ⟨0, 12, none⟩ = some (.int .u8 99) := hw 12 (by decide)
  have g13 : w.cell? ⟨0, 13, none⟩ = some (.int .u8 100) := hw 13 (by decide)
  have g14 : w.cell? ⟨0, 14, none⟩ = some (.int .u8 101) := hw 14 (by decide)
  have g15 : w.cell? ⟨0, 15, none⟩ = some (.int .u8 102) := hw 15 (by decide)
  clear hw
  go_enter Tryd.func36, Tryd.ntmps36
  go_wp2
  clear g0 g1 g2 g3 g4 g5 g6 g7 g8 g9 g10 g11 g12 g13 g14 g15
  go_loop [6] (fun i => ∃ k : Nat, k ≤ 16 ∧ i = .int .i64 k ∧ Hid (∀ j, j < k → hexD j ≠ c)) (fun i => 16 - (intOf i).toNat)
  case atStart => exact ⟨0, by omega, rfl, fun j hj => by omega⟩
  case round =>
    obtain ⟨k, hk, rfl, HS⟩ := hrel
    by_cases hlt : k < 16
    · have hix := fun W => dig_at hlt W
      by_cases he : hexD k = c
      · have H : Hid (valK c = (k : Int)) := by show _ = _; rw [← he]; exact val_hit hlt
        rw [he] at hix
        clear he
        go_wp2
        go_ret
        exact ⟨ret_int H.out.symm, rfl⟩
      · have H : Hid (∀ j, j < k + 1 → hexD j ≠ c) := fun j hj => by
          by_cases e : j = k
          · subst e; exact he
          · exact HS.out j (by omega)
        generalize hexD k = y at hix he
        have hne : ((y.toNat : Int) == (c.toNat : Int)) = false := by
          rw [beq_eq_false_iff_ne]
          intro e
          exact he (UInt8.toNat_inj.1 (by omega))
        clear he
        go_wp2
        go_round
        case rel => exact ⟨k + 1, by omega, by go_num, H⟩
        case measure => simp [intOf]; omega
    · obtain rfl : k = 16 := by omega
      have H : Hid (valK c = -1) := val_none HS.out
      go_wp2
      go_ret
      exact ⟨ret_int H.out.symm, rfl⟩

/-! ### The document's hex and value -/
theorem hex_any (k : Nat) (w : World) (hk : k < 16) : Calls Tryd.prog 25 #[.int .u8 (k : Int)] w fun e w' => e = .returned (.int .u8 ((hexD k).toNat : Int)) ∧ w = w' := by
  have H := Lib.hid (hexD_nat hk)
  by_cases h1 : (k : Int) < 10
  · go_enter Tryd.func25, Tryd.ntmps25
    go_wp2
    go_ret
    exact ⟨ret_int (by rw [H.out, if_pos (by omega)]; omega), rfl⟩
  · go_enter Tryd.func25, Tryd.ntmps25
    go_wp2
    go_ret
    exact ⟨ret_int (by rw [H.out, if_neg (by omega)]; omega), rfl⟩
theorem value_any (c : UInt8) (w : World) : Calls Tryd.prog 27 #[.int .u8 (c.toNat : Int)] w fun e w' => e = .returned (.int .u8 ((valU c).toNat : Int)) ∧ w = w' := by
  by_cases h1 : (97 : Int) ≤ (c.toNat : Int)
  · have H : Hid ((valU c).toNat = (2 ^ 8 - 87 + c.toNat) % 2 ^ 8) := by
      show _ = _
      unfold valU
      rw [if_pos (by omega), UInt8.toNat_sub]
      rfl
    have hc := c.toNat_lt
    go_enter Tryd.func27, Tryd.ntmps27
    go_wp2
    go_ret
    exact ⟨ret_int (by rw [H.out]; omega), rfl⟩
  · have H : Hid ((valU c).toNat = (2 ^ 8 - 48 + c.toNat) % 2 ^ 8) := by
      show _ = _
      unfold valU
      rw [if_neg (by omega), UInt8.toNat_sub]
      rfl
    have hc := c.toNat_lt
    have hw8 := IntKind.wrap_u8 ((c.toNat : Int) - 48)
    go_enter Tryd.func27, Tryd.ntmps27
    go_wp2
    go_ret
    exact ⟨ret_int (by rw [H.out]; omega), rfl⟩
end Go.Proofs.YtgdomcjonlngaaaDoor.Kw
