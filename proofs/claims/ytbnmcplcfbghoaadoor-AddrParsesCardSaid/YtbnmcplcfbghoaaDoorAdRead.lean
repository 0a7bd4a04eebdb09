/- What the parts of addr.Parse come to. -/
import Derived.Test.YtbnmcplcfbghoaaDoorAdParse
import Derived.Test.YtbnmcplcfbghoaaDoorAdText1
namespace Go.Proofs.YtbnmcplcfbghoaaDoor
open Go.RowKit Ad

theorem iter_below (w : World) (s : ByteArray) (pos : Nat) : Below w.heap.size w (w.iter s pos) := (Below.refl _ _).alloc (Nat.le_refl _) _

set_option maxHeartbeats 400000 in
theorem countParts_any (s : ByteArray) (w : World) (hs : s.size ≤ 1000) :
    Calls Tryd.prog 28 #[.string s] w fun e w' => e = .returned (.int .i64 (1 + (s.data.toList.count 46 : Nat))) ∧ Below w.heap.size w w' := by
  go_enter Tryd.func28, Tryd.ntmps28
  go_wp2
  go_loopw [3] (fun n w' => ∃ pos c : Nat, w' = w.iter s pos ∧ pos ≤ s.size ∧ c ≤ pos ∧ n = .int .i64 (1 + (c : Int)) ∧ Hid ((s.data.toList.take pos).count 46 = c)) (fun _ w' => s.size - w'.iterPos w.heap.size)
  case atStart => exact ⟨0, 0, rfl, by omega, by omega, rfl, Lib.hid rfl⟩
  case round =>
    obtain ⟨pos, c, rfl, hp, hc, rfl, HC⟩ := hrel
    by_cases hlt : pos < s.size
    · by_cases ha : (s[pos]'hlt).toNat < 128
      · have ht := Lib.hid (take_count s pos hlt)
        have hnx : ∀ ty, (Instr.next (.pointer (some ⟨w.heap.size, 0, none⟩)) true ty).run Tryd.prog (w.iter s pos) = _ := fun ty => run_next_ascii w s pos ty hlt ha
        by_cases h46 : (s[pos]'hlt).toNat = 46
        · have e46 := Lib.hid (show s[pos] = 46 from UInt8.toNat_inj.1 (by rw [h46]; rfl))
          have b46 : (((s[pos]'hlt).toNat : Int) == 46) = true := by simp [h46]
          have H46 := Lib.hid h46
          clear h46
          go_wp2
          go_roundw
          case rel => exact ⟨pos + 1, c + 1, rfl, by omega, by omega, by go_num, Lib.hid (by rw [ht.out, if_pos e46.out, HC.out])⟩
          case measure => simp; omega
        · have e46 : Hid (¬ s[pos] = 46) := Lib.hid (fun e => h46 (by rw [e]; rfl))
          have b46 : (((s[pos]'hlt).toNat : Int) == 46) = false := by simp; omega
          clear h46
          go_wp2
          go_roundw
          case rel => exact ⟨pos + 1, c, rfl, by omega, by omega, rfl, Lib.hid (by rw [ht.out, if_neg e46.out, Nat.add_zero, HC.out])⟩
          case measure => simp; omega
      · obtain ⟨d1, d2, d3⟩ := dots_rune s pos hlt (by omega)
        have d0 := (decode_high s pos hlt (by omega)).1
        have D3 := Lib.hid d3
        clear d3
        have hnx : ∀ ty, (Instr.next (.pointer (some ⟨w.heap.size, 0, none⟩)) true ty).run Tryd.prog (w.iter s pos) = _ := fun ty => run_next_any w s pos ty hlt
        have b46 : (((Utf8.decode s pos).1 : Int) == 46) = false := by simp; omega
        go_wp2
        go_roundw
        case rel => exact ⟨pos + (Utf8.decode s pos).2, c, rfl, by omega, by omega, rfl, Lib.hid (by rw [D3.out, HC.out])⟩
        case measure => simp; omega
    · have hnx : ∀ ty, (Instr.next (.pointer (some ⟨w.heap.size, 0, none⟩)) true ty).run Tryd.prog (w.iter s pos) = _ := fun ty => run_next_end w s pos ty hlt
      go_wp2
      go_ret
      have e := HC.out
      rw [List.take_of_length_le (by simp; omega)] at e
      rw [e]
      exact ⟨rfl, iter_below _ _ _⟩

/-- What is told of a number that may be none. -/
def told : Option Nat → Value
  | none => .tuple #[.int .i64 0, .bool false]
  | some v => .tuple #[.int .i64 v, .bool true]

theorem drop_at (s : ByteArray) (pos : Nat) (h : pos < s.size) : s.data.toList.drop pos = s[pos] :: s.data.toList.drop (pos + 1) := by
  rw [List.drop_eq_getElem_cons (by simpa using h)]; rfl

theorem told_none {x : Option Nat} (h : x = none) : Ending.returned (.tuple #[.int .i64 0, .bool false]) = .returned (told x) := by rw [h]; rfl
theorem told_some {x : Option Nat} {v : Nat} (h : x = some v) : Ending.returned (.tuple #[.int .i64 v, .bool true]) = .returned (told x) := by rw [h]; rfl

theorem part_none0 {l : List UInt8} (h : l.length = 0) : partL l = none := by unfold partL; rw [if_pos (.inl h)]
theorem part_far {l : List UInt8} (h : 3 < l.length) : partL l = none := by unfold partL; rw [if_pos (.inr h)]
theorem part_zero {l : List UInt8} (h : 1 < l.length) (h3 : l.length ≤ 3) (h0 : l.head? = some 48) : partL l = none := by
  unfold partL; rw [if_neg (by omega), if_pos ⟨h0, h⟩]
theorem part_rest {l : List UInt8} (h : 1 ≤ l.length) (h3 : l.length ≤ 3) (h0 : ¬ (l.head? = some 48 ∧ 1 < l.length)) : partL l = match digitsL l 0 with
    | none => none
    | some v => if 255 < v then none else some v := by
  unfold partL; rw [if_neg (by omega), if_neg h0]; rfl
theorem digits_no {c : UInt8} {l : List UInt8} {v : Nat} (h : c.toNat < 48 ∨ 57 < c.toNat) : digitsL (c :: l) v = none := by rw [digitsL, if_pos h]
theorem digits_yes {c : UInt8} {l : List UInt8} {v : Nat} (h : ¬ (c.toNat < 48 ∨ 57 < c.toNat)) : digitsL (c :: l) v = digitsL l (v * 10 + (c.toNat - 48)) := by rw [digitsL, if_neg h]

theorem head_at (s : ByteArray) (h : 1 ≤ s.size) : s.data.toList.head? = some (s[0]'h) := by
  rw [← List.drop_zero (l := s.data.toList), drop_at s 0 h]; rfl

theorem size_list (s : ByteArray) : s.data.toList.length = s.size := by rw [Array.length_toList]; rfl
theorem not_empty (s : ByteArray) (h : 1 ≤ s.size) : s.toList.isEmpty = false := by
  rw [ByteArray.toList_eq]
  cases hl : s.data.toList with
  | nil => have := size_list s; rw [hl] at this; simp at this; omega
  | cons _ _ => rfl

/-- How far the number can have come. -/
def Within (pos v : Nat) : Prop := (pos = 0 ∧ v = 0) ∨ (pos = 1 ∧ v ≤ 9) ∨ (pos = 2 ∧ v ≤ 99) ∨ (pos = 3 ∧ v ≤ 999)

set_option maxHeartbeats 1000000 in
theorem parsePart_loop (s : ByteArray) (w : World) (h1 : 1 ≤ s.size) (h3 : s.size ≤ 3) (hz : ¬ ((s[0]'h1).toNat = 48 ∧ 1 < s.size)) :
    Calls Tryd.prog 30 #[.string s] w fun e w' => e = .returned (told (partL s.data.toList)) ∧ Below w.heap.size w w' := by
  have HR := Lib.hid (part_rest (l := s.data.toList) (by simpa using h1) (by simpa using h3) (by
    rintro ⟨e1, e2⟩
    rw [head_at s h1] at e1
    exact hz ⟨by rw [Option.some.inj e1]; rfl, by simpa using e2⟩))
  have n0 : s.toList.isEmpty = false := not_empty s h1
  have d3 : decide (3 < (s.size : Int)) = false := by simp; omega
  have hb : ((((s[0]'h1).toNat : Int) == 48) = true ∧ decide (1 < (s.size : Int)) = false) ∨ (((s[0]'h1).toNat : Int) == 48) = false := by
    by_cases b0 : (s[0]'h1).toNat = 48
    · exact .inl ⟨by simp [b0], by simp; omega⟩
    · exact .inr (by simp; omega)
  clear hz
  rcases hb with ⟨b1, b2⟩ | b1
  all_goals
    go_enter Tryd.func30, Tryd.ntmps30
    go_wp2
    go_loopw [4] (fun n w' => ∃ pos v : Nat, w' = w.iter s pos ∧ pos ≤ s.size ∧ Hid (Within pos v) ∧ n = .int .i64 v ∧ Hid (digitsL (s.data.toList.drop pos) v = digitsL s.data.toList 0)) (fun _ w' => s.size - w'.iterPos w.heap.size)
    case atStart => exact ⟨0, 0, rfl, by omega, Lib.hid (.inl ⟨rfl, rfl⟩), rfl, Lib.hid rfl⟩
    case round =>
      obtain ⟨pos, v, rfl, hp, HW, rfl, HC⟩ := hrel
      have hv : v ≤ 999 := by have := HW.out; unfold Within at this; omega
      by_cases hlt : pos < s.size
      · have HD := Lib.hid (drop_at s pos hlt)
        by_cases ha : (s[pos]'hlt).toNat < 128
        · have hnx : ∀ ty, (Instr.next (.pointer (some ⟨w.heap.size, 0, none⟩)) true ty).run Tryd.prog (w.iter s pos) = _ := fun ty => run_next_ascii w s pos ty hlt ha
          by_cases h48 : (s[pos]'hlt).toNat < 48
          · have HN : Hid (partL s.data.toList = none) := Lib.hid (by rw [HR.out, ← HC.out, HD.out, digits_no (.inl h48)])
            go_wp2
            go_ret2
            exact ⟨told_none HN.out, iter_below _ _ _⟩
          · have t48 : decide (((s[pos]'hlt).toNat : Int) < 48) = false := by simp; omega
            by_cases h57 : 57 < (s[pos]'hlt).toNat
            · have HN : Hid (partL s.data.toList = none) := Lib.hid (by rw [HR.out, ← HC.out, HD.out, digits_no (.inr h57)])
              go_wp2
              go_ret2
              exact ⟨told_none HN.out, iter_below _ _ _⟩
            · have t57 : decide (57 < ((s[pos]'hlt).toNat : Int)) = false := by simp; omega
              have HY := Lib.hid (digits_yes (c := s[pos]'hlt) (l := s.data.toList.drop (pos + 1)) (v := v) (by omega))
              go_wp2
              go_roundw
              case rel =>
                refine ⟨pos + 1, v * 10 + ((s[pos]'hlt).toNat - 48), rfl, by omega, Lib.hid ?_, ?_, Lib.hid ?_⟩
                · have := HW.out
                  unfold Within at this ⊢
                  omega
                · go_num
                · rw [← HC.out, HD.out, HY.out]
              case measure => simp; omega
        · have d2 := (decode_high s pos hlt (by omega)).1
          have HN : Hid (partL s.data.toList = none) := Lib.hid (by rw [HR.out, ← HC.out, HD.out, digits_no (.inr (by omega))])
          have hnx : ∀ ty, (Instr.next (.pointer (some ⟨w.heap.size, 0, none⟩)) true ty).run Tryd.prog (w.iter s pos) = _ := fun ty => run_next_any w s pos ty hlt
          have t48 : decide (((Utf8.decode s pos).1 : Int) < 48) = false := by simp; omega
          have t57 : decide (57 < ((Utf8.decode s pos).1 : Int)) = true := by simp; omega
          go_wp2
          go_ret2
          exact ⟨told_none HN.out, iter_below _ _ _⟩
      · have hnx : ∀ ty, (Instr.next (.pointer (some ⟨w.heap.size, 0, none⟩)) true ty).run Tryd.prog (w.iter s pos) = _ := fun ty => run_next_end w s pos ty hlt
        have HE : Hid (digitsL s.data.toList 0 = some v) := Lib.hid (by rw [← HC.out, List.drop_of_length_le (by simp; omega)]; rfl)
        by_cases h255 : 255 < v
        · have HN : Hid (partL s.data.toList = none) := Lib.hid (by rw [HR.out, HE.out]; simp only; rw [if_pos h255])
          go_wp2
          go_ret2
          exact ⟨told_none HN.out, iter_below _ _ _⟩
        · have HN : Hid (partL s.data.toList = some v) := Lib.hid (by rw [HR.out, HE.out]; simp only; rw [if_neg h255])
          go_wp2
          go_ret2
          exact ⟨told_some HN.out, iter_below _ _ _⟩

set_option maxHeartbeats 400000 in
theorem parsePart_any (s : ByteArray) (w : World) (hs : s.size ≤ 1000) :
    Calls Tryd.prog 30 #[.string s] w fun e w' => e = .returned (told (partL s.data.toList)) ∧ Below w.heap.size w w' := by
  by_cases h0 : 1 ≤ s.size
  · have n0 : s.toList.isEmpty = false := not_empty s h0
    by_cases h3 : 3 < s.size
    · have HN := Lib.hid (part_far (l := s.data.toList) (by rw [size_list]; exact h3))
      have d3 : decide (3 < (s.size : Int)) = true := by simp; omega
      go_enter Tryd.func30, Tryd.ntmps30
      go_wp2
      go_ret2
      exact ⟨told_none HN.out, Below.refl _ _⟩
    · by_cases hz : (s[0]'h0).toNat = 48 ∧ 1 < s.size
      · have HN := Lib.hid (part_zero (l := s.data.toList) (by rw [size_list]; exact hz.2) (by rw [size_list]; omega) (by rw [head_at s h0]; congr 1; exact UInt8.toNat_inj.1 (by rw [hz.1]; rfl)))
        have d3 : decide (3 < (s.size : Int)) = false := by simp; omega
        have b1 : (((s[0]'h0).toNat : Int) == 48) = true := by simp [hz.1]
        have b2 : decide (1 < (s.size : Int)) = true := by simp; omega
        clear hz
        go_enter Tryd.func30, Tryd.ntmps30
        go_wp2
        go_ret2
        exact ⟨told_none HN.out, Below.refl _ _⟩
      · exact parsePart_loop s w h0 (by omega) hz
  · have HN := Lib.hid (part_none0 (l := s.data.toList) (by rw [size_list]; omega))
    have e1 : s.toList = [] := by
      rw [ByteArray.toList_eq]
      have := size_list s
      cases hl : s.data.toList with
      | nil => rfl
      | cons _ _ => rw [hl] at this; simp at this; omega
    have n0 : s.toList.isEmpty = true := by rw [e1]; rfl
    have E1 := Lib.hid e1
    clear e1
    go_enter Tryd.func30, Tryd.ntmps30
    go_wp2
    go_ret2
    exact ⟨told_none HN.out, Below.refl _ _⟩
end Go.Proofs.YtbnmcplcfbghoaaDoor
