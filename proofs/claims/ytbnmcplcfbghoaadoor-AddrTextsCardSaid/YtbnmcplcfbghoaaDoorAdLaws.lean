/- The six statements on addresses, walked: each answers true, and nothing that was there is changed. -/
import Derived.Test.YtbnmcplcfbghoaaDoorAdKnows
namespace Go.Proofs.YtbnmcplcfbghoaaDoor
open Go.RowKit Ad

set_option maxHeartbeats 1000000 in
theorem addrTexts_walk (a : Int) (w : World) (hw : Env w) :
    Calls Tryd.prog 3 #[.int .i64 a] w fun e w' => e = .returned (.bool true) ∧ Below w.heap.size w w' := by
  by_cases h : rightB a = true
  · obtain ⟨h0, h1⟩ := rightB_iff.1 h
    go_enter Tryd.func3, Tryd.ntmps3
    go_wp2_with fail
    refine (text_yes _ _ hw h).mono ?_
    rintro e w1 ⟨rfl, hb1⟩
    have hw1 := hw.below hb1
    go_wp2_with fail
    refine (right_any _ _).mono ?_
    rintro e w2 ⟨rfl, rfl⟩
    go_wp2_with fail
    refine (refRight_any _ _).mono ?_
    rintro e w2 ⟨rfl, rfl⟩
    go_wp2_with fail
    refine (refRight_any _ _).mono ?_
    rintro e w2 ⟨rfl, rfl⟩
    go_wp2_with fail
    refine (refText_any _ _ h0 h1).mono ?_
    rintro e w2 ⟨rfl, hb2⟩
    have hw2 := hw1.below hb2
    go_wp2_with fail
    refine (knows_any _ hw2).mono ?_
    rintro e w3 ⟨rfl, hb3⟩
    go_wp2
    go_ret
    exact ⟨rfl, hb1.trans ((hb2.mono hb1.size).trans (hb3.mono (Nat.le_trans hb1.size hb2.size)))⟩
  · have h' := right_false h
    clear h
    go_enter Tryd.func3, Tryd.ntmps3
    go_wp2_with fail
    refine (text_no _ _ h').mono ?_
    rintro e w1 ⟨rfl, rfl⟩
    go_wp2_with fail
    refine (right_any _ _).mono ?_
    rintro e w2 ⟨rfl, rfl⟩
    go_wp2_with fail
    refine (refRight_any _ _).mono ?_
    rintro e w2 ⟨rfl, rfl⟩
    go_wp2_with fail
    refine (refRight_any _ _).mono ?_
    rintro e w2 ⟨rfl, rfl⟩
    go_wp2_with fail
    refine (knows_any _ hw).mono ?_
    rintro e w3 ⟨rfl, hb3⟩
    go_wp2
    go_ret
    exact ⟨rfl, hb3⟩

set_option maxHeartbeats 1000000 in
theorem addrParses_walk (s : ByteArray) (w : World) (hw : Env w) (hm : s.size ≤ maxLen) :
    Calls Tryd.prog 4 #[.string s] w fun e w' => e = .returned (.bool true) ∧ Below w.heap.size w w' := by
  unfold maxLen at hm
  by_cases hs : s.size ≤ 1000
  · cases hp : parseL s.data.toList with
    | some v =>
      have HP := Lib.hid hp
      have hv := (parse_some hp).1
      clear hp
      go_enter Tryd.func4, Tryd.ntmps4
      go_wp2_with fail
      refine (parse_yes _ _ hw hs v HP.out).mono ?_
      rintro e w1 ⟨rfl, hb1⟩
      have hw1 := hw.below hb1
      go_wp2_with fail
      refine (refParse_yes _ _ hs v HP.out).mono ?_
      rintro e w2 ⟨rfl, hb2⟩
      have hw2 := hw1.below hb2
      go_wp2_with fail
      refine (knows_any _ hw2).mono ?_
      rintro e w3 ⟨rfl, hb3⟩
      go_wp2
      go_ret
      exact ⟨rfl, hb1.trans ((hb2.mono hb1.size).trans (hb3.mono (Nat.le_trans hb1.size hb2.size)))⟩
    | none =>
      have HP := Lib.hid hp
      clear hp
      go_enter Tryd.func4, Tryd.ntmps4
      go_wp2_with fail
      refine (parse_no _ _ hw hs HP.out).mono ?_
      rintro e w1 ⟨rfl, hb1⟩
      have hw1 := hw.below hb1
      go_wp2_with fail
      refine (refParse_no _ _ hs HP.out).mono ?_
      rintro e w2 ⟨rfl, hb2⟩
      have hw2 := hw1.below hb2
      go_wp2_with fail
      refine (knows_any _ hw2).mono ?_
      rintro e w3 ⟨rfl, hb3⟩
      go_wp2
      go_ret
      exact ⟨rfl, hb1.trans ((hb2.mono hb1.size).trans (hb3.mono (Nat.le_trans hb1.size hb2.size)))⟩
  · go_enter Tryd.func4, Tryd.ntmps4
    go_wp2_with fail
    refine (knows_any _ hw).mono ?_
    rintro e w3 ⟨rfl, hb3⟩
    go_wp2
    go_ret
    exact ⟨rfl, hb3⟩

set_option maxHeartbeats 1000000 in
theorem addrPrefixes_walk (b k : Int) (w : World) (hw : Env w) :
    Calls Tryd.prog 6 #[.int .i64 b, .int .i64 k] w fun e w' => e = .returned (.bool true) ∧ Below w.heap.size w w' := by
  by_cases hk : bitsB k = true
  · obtain ⟨k0, k1⟩ := bitsB_iff.1 hk
    have t0 : decide (k < 0) = false := by simp; omega
    have t1 : decide (32 < k) = false := by simp; omega
    cases hf : fairB b k
    · go_enter Tryd.func6, Tryd.ntmps6
      go_wp2_with (first
        | (go_at_call 16; refine (fair_any _ _ _).mono ?_; rintro e w' ⟨rfl, rfl⟩)
        | (go_at_call 17; refine (refFair_any _ _ _).mono ?_; rintro e w' ⟨rfl, rfl⟩)
        | (go_at_call 18; refine (mask_yes _ _ hk).mono ?_; rintro e w' ⟨rfl, rfl⟩)
        | (go_at_call 19; refine (last_no _ _ _ hf).mono ?_; rintro e w' ⟨rfl, rfl⟩)
        | (go_at_call 20; refine (refMask_any _ _ k0 k1).mono ?_; rintro e w' ⟨rfl, rfl⟩)
        | (go_at_call 12; refine (knows_any _ hw).mono ?_; rintro e w1 ⟨rfl, hb1⟩))
      go_ret
      exact ⟨rfl, hb1⟩
    · go_enter Tryd.func6, Tryd.ntmps6
      go_wp2_with (first
        | (go_at_call 16; refine (fair_any _ _ _).mono ?_; rintro e w' ⟨rfl, rfl⟩)
        | (go_at_call 17; refine (refFair_any _ _ _).mono ?_; rintro e w' ⟨rfl, rfl⟩)
        | (go_at_call 18; refine (mask_yes _ _ hk).mono ?_; rintro e w' ⟨rfl, rfl⟩)
        | (go_at_call 19; refine (last_yes _ _ _ hf).mono ?_; rintro e w' ⟨rfl, rfl⟩)
        | (go_at_call 20; refine (refMask_any _ _ k0 k1).mono ?_; rintro e w' ⟨rfl, rfl⟩)
        | (go_at_call 21; refine (refLast_any _ _ _ hf).mono ?_; rintro e w' ⟨rfl, rfl⟩)
        | (go_at_call 12; refine (knows_any _ hw).mono ?_; rintro e w1 ⟨rfl, hb1⟩))
      go_ret
      exact ⟨rfl, hb1⟩
  · have hk' := bits_false hk
    have hf : fairB b k = false := by simp [fairB, hk']
    have hkk : k < 0 ∨ 32 < k := by
      rcases Int.lt_or_le k 0 with h | h
      · exact .inl h
      · exact .inr (Int.not_le.1 fun h2 => hk (bitsB_iff.2 ⟨h, h2⟩))
    clear hk
    rcases hkk with h | h
    · have t0 : decide (k < 0) = true := by simp; omega
      go_enter Tryd.func6, Tryd.ntmps6
      go_wp2_with (first
        | (go_at_call 16; refine (fair_any _ _ _).mono ?_; rintro e w' ⟨rfl, rfl⟩)
        | (go_at_call 17; refine (refFair_any _ _ _).mono ?_; rintro e w' ⟨rfl, rfl⟩)
        | (go_at_call 18; refine (mask_no _ _ hk').mono ?_; rintro e w' ⟨rfl, rfl⟩)
        | (go_at_call 19; refine (last_no _ _ _ hf).mono ?_; rintro e w' ⟨rfl, rfl⟩)
        | (go_at_call 12; refine (knows_any _ hw).mono ?_; rintro e w1 ⟨rfl, hb1⟩))
      go_ret
      exact ⟨rfl, hb1⟩
    · have t0 : decide (k < 0) = false := by simp; omega
      have t1 : decide (32 < k) = true := by simp; omega
      go_enter Tryd.func6, Tryd.ntmps6
      go_wp2_with (first
        | (go_at_call 16; refine (fair_any _ _ _).mono ?_; rintro e w' ⟨rfl, rfl⟩)
        | (go_at_call 17; refine (refFair_any _ _ _).mono ?_; rintro e w' ⟨rfl, rfl⟩)
        | (go_at_call 18; refine (mask_no _ _ hk').mono ?_; rintro e w' ⟨rfl, rfl⟩)
        | (go_at_call 19; refine (last_no _ _ _ hf).mono ?_; rintro e w' ⟨rfl, rfl⟩)
        | (go_at_call 12; refine (knows_any _ hw).mono ?_; rintro e w1 ⟨rfl, hb1⟩))
      go_ret
      exact ⟨rfl, hb1⟩
end Go.Proofs.YtbnmcplcfbghoaaDoor
