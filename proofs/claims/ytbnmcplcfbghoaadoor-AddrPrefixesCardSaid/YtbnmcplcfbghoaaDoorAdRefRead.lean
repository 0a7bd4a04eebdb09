/- What the document's own reading of a text comes to, at texts of up to 1000 bytes. -/
import Derived.Test.YtbnmcplcfbghoaaDoorAdRead2
import Derived.Test.YtbnmcplcfbghoaaDoorAdRef
namespace Go.Proofs.YtbnmcplcfbghoaaDoor
open Go.RowKit Ad

theorem told_someI {x : Option Nat} {v : Nat} {i : Int} (hi : i = v) (h : x = some v) : Ending.returned (.tuple #[.int .i64 i, .bool true]) = .returned (told x) := by rw [h, hi]; rfl
theorem ref_dot_no {c : UInt8} {l : List UInt8} {a p : Nat} (h : c.toNat = 46) (h2 : 16777215 < a * 256 + p) : refFold (c :: l) a p = none := by rw [refFold, if_pos h, if_pos h2]
theorem ref_dot_yes {c : UInt8} {l : List UInt8} {a p : Nat} (h : c.toNat = 46) (h2 : ¬ 16777215 < a * 256 + p) : refFold (c :: l) a p = refFold l (a * 256 + p) 0 := by rw [refFold, if_pos h, if_neg h2]
theorem ref_no {c : UInt8} {l : List UInt8} {a p : Nat} (h : ¬ c.toNat = 46) (h2 : c.toNat < 48 ∨ 57 < c.toNat) : refFold (c :: l) a p = none := by rw [refFold, if_neg h, if_pos h2]
theorem ref_far {c : UInt8} {l : List UInt8} {a p : Nat} (h : ¬ c.toNat = 46) (h2 : ¬ (c.toNat < 48 ∨ 57 < c.toNat)) (h3 : 255 < p * 10 + c.toNat - 48 ∨ 16777215 < a) : refFold (c :: l) a p = none := by
  rw [refFold, if_neg h, if_neg h2, if_pos h3]
theorem ref_yes {c : UInt8} {l : List UInt8} {a p : Nat} (h : ¬ c.toNat = 46) (h2 : ¬ (c.toNat < 48 ∨ 57 < c.toNat)) (h3 : ¬ (255 < p * 10 + c.toNat - 48 ∨ 16777215 < a)) : refFold (c :: l) a p = refFold l a (p * 10 + c.toNat - 48) := by
  rw [refFold, if_neg h, if_neg h2, if_neg h3]
theorem refParse_fold_none {s : List UInt8} (h : refFold s 0 0 = none) : refParse s = none := by rw [refParse, h]
theorem refParse_fold_some {s : List UInt8} {a p : Nat} (h : refFold s 0 0 = some (a, p)) : refParse s = if textL (a * 256 + p) = s then some (a * 256 + p) else none := by rw [refParse, h]

set_option maxHeartbeats 1000000 in
theorem refParse_any (s : ByteArray) (w : World) (hs : s.size ≤ 1000) :
    Calls Tryd.prog 15 #[.string s] w fun e w' => e = .returned (told (refParse s.data.toList)) ∧ Below w.heap.size w w' := by
  go_enter Tryd.func15, Tryd.ntmps15
  go_wp2
  go_loop [4, 5, 6] (fun x y i => ∃ a p k : Nat, k ≤ s.size ∧ a ≤ 16777215 ∧ p ≤ 255 ∧ x = .int .i64 a ∧ y = .int .i64 p ∧ i = .int .i64 k ∧ Hid (refFold (s.data.toList.drop k) a p = refFold s.data.toList 0 0)) (fun _ _ i => s.size - (intOf i).toNat)
  case atStart => exact ⟨0, 0, 0, by omega, by omega, by omega, rfl, rfl, rfl, Lib.hid rfl⟩
  case round =>
    obtain ⟨a, p, k, hk, ha, hp, rfl, rfl, rfl, HF⟩ := hrel
    by_cases hlt : k < s.size
    · have HD := Lib.hid (drop_at s k hlt)
      have hc : (s[k]'hlt).toNat < 256 := (s[k]'hlt).toNat_lt
      by_cases h46 : (s[k]'hlt).toNat = 46
      · have b46 : (((s[k]'hlt).toNat : Int) == 46) = true := by simp [h46]
        have H46 := Lib.hid h46
        clear h46
        by_cases hf : 16777215 < a * 256 + p
        · have HN : Hid (refParse s.data.toList = none) := Lib.hid (refParse_fold_none (by rw [← HF.out, HD.out, ref_dot_no H46.out hf]))
          go_wp2
          go_ret2
          exact ⟨told_none HN.out, Below.refl _ _⟩
        · have HN := Lib.hid (ref_dot_yes (l := s.data.toList.drop (k + 1)) H46.out hf)
          go_wp2
          go_round
          case rel => exact ⟨a * 256 + p, 0, k + 1, by omega, by omega, by omega, by go_num, rfl, by go_num, Lib.hid (by rw [← HF.out, HD.out, HN.out])⟩
          case measure => simp [intOf]; omega
      · have b46 : (((s[k]'hlt).toNat : Int) == 46) = false := by simp; omega
        by_cases h48 : (s[k]'hlt).toNat < 48
        · have HN : Hid (refParse s.data.toList = none) := Lib.hid (refParse_fold_none (by rw [← HF.out, HD.out, ref_no h46 (.inl h48)]))
          clear h46
          go_wp2
          go_ret2
          exact ⟨told_none HN.out, Below.refl _ _⟩
        · have t48 : decide (((s[k]'hlt).toNat : Int) < 48) = false := by simp; omega
          by_cases h57 : 57 < (s[k]'hlt).toNat
          · have HN : Hid (refParse s.data.toList = none) := Lib.hid (refParse_fold_none (by rw [← HF.out, HD.out, ref_no h46 (.inr h57)]))
            clear h46
            go_wp2
            go_ret2
            exact ⟨told_none HN.out, Below.refl _ _⟩
          · have t57 : decide (57 < ((s[k]'hlt).toNat : Int)) = false := by simp; omega
            by_cases h255 : 255 < p * 10 + (s[k]'hlt).toNat - 48
            · have HN : Hid (refParse s.data.toList = none) := Lib.hid (refParse_fold_none (by rw [← HF.out, HD.out, ref_far h46 (by omega) (.inl h255)]))
              clear h46
              have t255 : decide (255 < (p : Int) * 10 + ((s[k]'hlt).toNat : Int) - 48) = true := by simp; omega
              go_wp2
              go_ret2
              exact ⟨told_none HN.out, Below.refl _ _⟩
            · have HN := Lib.hid (ref_yes (a := a) (p := p) (l := s.data.toList.drop (k + 1)) h46 (by omega) (by omega))
              clear h46
              have t255 : decide (255 < (p : Int) * 10 + ((s[k]'hlt).toNat : Int) - 48) = false := by simp; omega
              go_wp2
              go_round
              case rel => exact ⟨a, p * 10 + (s[k]'hlt).toNat - 48, k + 1, by omega, by omega, by omega, rfl, congrArg (Value.int .i64) (by omega), by go_num, Lib.hid (by rw [← HF.out, HD.out, HN.out])⟩
              case measure => simp [intOf]; omega
    · have HE : Hid (refFold s.data.toList 0 0 = some (a, p)) := Lib.hid (by rw [← HF.out, List.drop_of_length_le (by rw [size_list]; omega)]; rfl)
      have HV := Lib.hid (refParse_fold_some HE.out)
      go_wp2_with fail
      refine (refText_any _ _ (by omega) (by omega)).mono ?_
      rintro e w1 ⟨rfl, hb1⟩
      rw [show ((a : Int) * 256 + p).toNat = a * 256 + p by omega]
      by_cases ht : textL (a * 256 + p) = s.data.toList
      · have e1 : (⟨(textL (a * 256 + p)).toArray⟩ : ByteArray) = s := by rw [ht]
        rw [e1]
        have HN : Hid (refParse s.data.toList = some (a * 256 + p)) := Lib.hid (by rw [HV.out, if_pos ht])
        clear ht e1
        go_wp2
        go_ret2
        exact ⟨told_someI (by omega) HN.out, hb1⟩
      · have HN : Hid (refParse s.data.toList = none) := Lib.hid (by rw [HV.out, if_neg ht])
        have bt : (textL (a * 256 + p) == s.toList) = false := by rw [ByteArray.toList_eq]; exact beq_eq_false_iff_ne.2 ht
        clear ht
        go_wp2
        go_ret2
        exact ⟨told_none HN.out, hb1⟩

theorem refParse_yes (s : ByteArray) (w : World) (hs : s.size ≤ 1000) (v : Nat) (h : parseL s.data.toList = some v) :
    Calls Tryd.prog 15 #[.string s] w fun e w' => e = .returned (.tuple #[.int .i64 v, .bool true]) ∧ Below w.heap.size w w' :=
  (refParse_any s w hs).mono fun _ _ ⟨he, hb⟩ => ⟨by rw [he, refParse_eq, h]; rfl, hb⟩
theorem refParse_no (s : ByteArray) (w : World) (hs : s.size ≤ 1000) (h : parseL s.data.toList = none) :
    Calls Tryd.prog 15 #[.string s] w fun e w' => e = .returned (.tuple #[.int .i64 0, .bool false]) ∧ Below w.heap.size w w' :=
  (refParse_any s w hs).mono fun _ _ ⟨he, hb⟩ => ⟨by rw [he, refParse_eq, h]; rfl, hb⟩
end Go.Proofs.YtbnmcplcfbghoaaDoor
