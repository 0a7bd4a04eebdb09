/- The walks of CodeBack, CodeFrames, CodeNums: each returns true, and what was in memory stays. For all inputs. -/
import Derived.Test.YtikgigijngobeaaCoLaws
namespace Go.Proofs.Ytikgigijngobeaa
open Go.RowKit Co By
attribute [local go_sem ↓] Go.wp_at_zero Go.wp_at_succ

theorem get_back (a p b : List UInt8) : ((a ++ p ++ b).drop a.length).take p.length = p := by
  rw [List.append_assoc, List.drop_append_of_le_length (Nat.le_refl _), List.drop_length, List.nil_append, List.take_append_of_le_length (Nat.le_refl _), List.take_length]
theorem fair_parts {v n : Int} (h : fairB v n = true) : ∃ v' n' : Nat, v = v' ∧ n = n' ∧ 1 ≤ n' ∧ n' ≤ 7 ∧ v' < p256 n' := by
  have hf : 1 ≤ n ∧ n ≤ 7 ∧ 0 ≤ v ∧ v < ((p256 n.toNat : Nat) : Int) := by simpa [fairB] using h
  obtain ⟨v', rfl⟩ := Int.eq_ofNat_of_zero_le hf.2.2.1
  obtain ⟨n', rfl⟩ := Int.eq_ofNat_of_zero_le (show 0 ≤ n by omega)
  rw [Int.toNat_natCast] at hf
  exact ⟨v', n', rfl, rfl, by omega, by omega, by omega⟩
set_option maxHeartbeats 2000000 in
theorem codeBack_walk (v n : Int) (A2 : Option Addr) (n2 c2 : Nat) (l2 : List UInt8) (A3 : Option Addr) (n3 c3 : Nat) (l3 : List UInt8) (w : World)
    (_ : (Lit.int .i64 v).wf = true) (_ : (Lit.int .i64 n).wf = true) (h2 : Bs w A2 n2 c2 l2) (h3 : Bs w A3 n3 c3 l3) :
    Calls Try.prog 4 #[.int .i64 v, .int .i64 n, .slice A2 n2 c2, .slice A3 n3 c3] w (isTrue w) := by
  have hm2 := h2.max
  have hcap2 := h2.cap
  have hm3 := h3.max
  have hcap3 := h3.cap
  by_cases hg2 : 5000 < n2
  · have hgd : decide (5000 < n2) = true := decide_eq_true hg2
    go_enter Try.func4, Try.ntmps4
    go_wp2_with fail
    refine (great_any A2 n2 c2 _ (by omega)).mono ?_
    rw [hgd]
    rintro e w' ⟨rfl, rfl⟩
    go_wp2_with fail
    refine (knows_yes _).mono ?_
    rintro e w1 ⟨rfl, hb1⟩
    go_wp2
    go_ret
    exact ⟨rfl, hb1⟩
  have hgd2 : decide (5000 < n2) = false := decide_eq_false hg2
  by_cases hg3 : 5000 < n3
  · have hgd3 : decide (5000 < n3) = true := decide_eq_true hg3
    go_enter Try.func4, Try.ntmps4
    go_wp2_with fail
    refine (great_any A2 n2 c2 _ (by omega)).mono ?_
    rw [hgd2]
    rintro e w' ⟨rfl, rfl⟩
    go_wp2_with fail
    refine (great_any A3 n3 c3 _ (by omega)).mono ?_
    rw [hgd3]
    rintro e w' ⟨rfl, rfl⟩
    go_wp2_with fail
    refine (knows_yes _).mono ?_
    rintro e w1 ⟨rfl, hb1⟩
    go_wp2
    go_ret
    exact ⟨rfl, hb1⟩
  have hgd3 : decide (5000 < n3) = false := decide_eq_false hg3
  by_cases hf : fairB v n = true
  · obtain ⟨v', n', rfl, rfl, hn1, hn7, hv⟩ := fair_parts hf
    have HP := Lib.hid (putL_length n' v')
    have HV : Hid (valL (((l2 ++ putL v' n' ++ l3).drop n2).take n') = v') := by
      have e := get_back l2 (putL v' n') l3
      rw [h2.len, putL_length] at e
      rw [e]
      exact valL_putL n' v' hv
    have Hv := Lib.hid hv
    clear hf hv
    go_enter Try.func4, Try.ntmps4
    go_wp2_with fail
    refine (great_any A2 n2 c2 _ (by omega)).mono ?_
    rw [hgd2]
    rintro e w' ⟨rfl, rfl⟩
    go_wp2_with fail
    refine (great_any A3 n3 c3 _ (by omega)).mono ?_
    rw [hgd3]
    rintro e w' ⟨rfl, rfl⟩
    go_wp2_with fail
    refine (put_ok v' n' _ hn1 hn7 Hv.out).mono ?_
    rintro e w1 ⟨A4, c4, rfl, hown4, hb1⟩
    have hl0 := Own.lit0 5 w1
    have hba : Below w.heap.size w (w1.alloc (.cells #[] 5)) := hb1.alloc hb1.size _
    have hbw : Below w1.heap.size w1 (w1.alloc (.cells #[] 5)) := (Below.refl _ _).alloc (Nat.le_refl _) _
    have hp1 := hown4.bs
    have hs2 := h2.below hb1
    have hs3 := h3.below hb1
    have hle : w1.heap.size ≤ (w1.alloc (.cells #[] 5)).heap.size := hbw.size
    have hle0 := hb1.size
    clear hown4 hba
    go_wp2_with (first
      | (at_builtin; refine wpList_app byP rfl (.tmp 36) (.tmp 37) rfl rfl hl0 rfl (hs2.below hbw) (by omega) hle ?_; intro A5 c5 w5 hown5 hb5 _ _; simp only [Nat.zero_add, List.nil_append] at hown5; have hbA := hbw.trans hb5)
      | (at_builtin; refine wpList_app byP rfl (.tmp 38) (.tmp 39) rfl rfl hown5 rfl (hp1.below hbA) (by omega) hbA.size ?_; intro A6 c6 w6 hown6 hb6 _ _; have hbB := hbA.trans hb6)
      | (at_builtin; refine wpList_app byP rfl (.tmp 40) (.tmp 41) rfl rfl hown6 rfl (hs3.below hbB) (by omega) hbB.size ?_; intro A7 c7 w7 hown7 hb7 _ _; have hbC := hbB.trans hb7)
      | fail)
    refine (get_ok _ _ _ _ n2 n' _ hown7.bs hn1 hn7 (by omega)).mono ?_
    rw [HV.out]
    rintro e w' ⟨rfl, rfl⟩
    have hb07 : Below w.heap.size w w7 := hb1.trans (hbC.mono hle0)
    clear hown7 hown6 hown5 hb5 hb6 hb7 hbA hbB hbC hs2 hs3 hp1 hl0 hbw
    go_wp2_with fail
    refine (knows_yes _).mono ?_
    rintro e w8 ⟨rfl, hb8⟩
    go_wp2
    go_ret
    exact ⟨rfl, hb07.trans (hb8.mono hb07.size)⟩
  · have Hf := Lib.hid hf
    have hff : fairB v n = false := by simpa using hf
    clear hf
    go_enter Try.func4, Try.ntmps4
    go_wp2_with fail
    refine (great_any A2 n2 c2 _ (by omega)).mono ?_
    rw [hgd2]
    rintro e w' ⟨rfl, rfl⟩
    go_wp2_with fail
    refine (great_any A3 n3 c3 _ (by omega)).mono ?_
    rw [hgd3]
    rintro e w' ⟨rfl, rfl⟩
    go_wp2_with fail
    refine (put_no v n _ Hf.out).mono ?_
    rintro e w' ⟨rfl, rfl⟩
    go_wp2_with fail
    refine (fair_any v n _).mono ?_
    rw [hff]
    rintro e w' ⟨rfl, rfl⟩
    go_wp2_with fail
    refine (knows_yes _).mono ?_
    rintro e w1 ⟨rfl, hb1⟩
    go_wp2
    go_ret
    exact ⟨rfl, hb1⟩

set_option maxHeartbeats 2000000 in
theorem codeFrames_walk (A : Option Addr) (n c : Nat) (l : List UInt8) (w : World) (h : Bs w A n c l) :
    Calls Try.prog 6 #[.slice A n c] w (isTrue w) := by
  have hm := h.max
  have hcap := h.cap
  by_cases hg : 5000 < n
  · have hgd : decide (5000 < n) = true := decide_eq_true hg
    go_enter Try.func6, Try.ntmps6
    go_wp2_with fail
    refine (great_any A n c _ (by omega)).mono ?_
    rw [hgd]
    rintro e w' ⟨rfl, rfl⟩
    go_wp2_with fail
    refine (knows_yes _).mono ?_
    rintro e w1 ⟨rfl, hb1⟩
    go_wp2
    go_ret
    exact ⟨rfl, hb1⟩
  have hgd : decide (5000 < n) = false := decide_eq_false hg
  by_cases hf : 2000 < n
  · go_enter Try.func6, Try.ntmps6
    go_wp2_with fail
    refine (great_any A n c _ (by omega)).mono ?_
    rw [hgd]
    rintro e w' ⟨rfl, rfl⟩
    go_wp2_with (first | fail | (at_builtin; refine wpList_app byP rfl (.tmp 9) (.tmp 10) rfl rfl (Own.lit0 5 w) rfl (h.alloc _) (by omega) (by simp) ?_; intro A' c' w2 hown2 hb2 _ _; simp only [Nat.zero_add, List.nil_append] at hown2))
    have hb02 : Below w.heap.size w w2 := ((Below.refl _ _).alloc (Nat.le_refl _) _).trans hb2
    refine (frame_no _ _ _ _ (by omega) (by omega)).mono ?_
    rintro e w' ⟨rfl, rfl⟩
    go_wp2_with fail
    refine (knows_yes _).mono ?_
    rintro e w3 ⟨rfl, hb3⟩
    go_wp2
    go_ret
    exact ⟨rfl, hb02.trans (hb3.mono hb02.size)⟩
  · go_enter Try.func6, Try.ntmps6
    go_wp2_with fail
    refine (great_any A n c _ (by omega)).mono ?_
    rw [hgd]
    rintro e w' ⟨rfl, rfl⟩
    go_wp2_with (first | fail | (at_builtin; refine wpList_app byP rfl (.tmp 9) (.tmp 10) rfl rfl (Own.lit0 5 w) rfl (h.alloc _) (by omega) (by simp) ?_; intro A' c' w2 hown2 hb2 _ _; simp only [Nat.zero_add, List.nil_append] at hown2))
    have hb02 : Below w.heap.size w w2 := ((Below.refl _ _).alloc (Nat.le_refl _) _).trans hb2
    refine (frame_ok _ _ _ l _ hown2.bs (by omega)).mono ?_
    rintro e w3 ⟨A3, c3, rfl, hown3, hb3⟩
    have hb03 : Below w.heap.size w w3 := hb02.trans (hb3.mono hb02.size)
    have hs3 := h.below hb03
    have hcv : (convert 22 9 (.slice A3 (n + 6) c3)).run Try.prog w3.drew = .ok (.string ⟨(frameL l).toArray⟩) w3.drew := byP.str hown3.bs.drew
    have HCV := Lib.hid (fun W (hW : Below w3.drew.heap.size w3.drew W) => byP.str (hown3.bs.drew.below hW))
    clear hown3 hown2
    go_wp2_with fail
    go_region_with (first
      | ((go_at_call 20; refine (refFrame_any _ _ _ _ _ hs3.drew (by omega)).mono ?_; rintro e w4 ⟨A4, c4, rfl, hown4, hb4⟩; have hcv4 := byP.str hown4.bs; have hcv5 := HCV.out _ hb4))
      | ((go_at_call 11; refine (knows_yes _).mono ?_; rintro e w5 ⟨rfl, hb5⟩)))
    all_goals have hb04 : Below w.heap.size w w4 := hb03.trans ((below_undrew hb4).mono hb03.size)
    all_goals go_wp2
    all_goals go_ret
    all_goals exact ⟨rfl, hb04.trans (hb5.mono hb04.size)⟩

set_option maxHeartbeats 4000000 in
theorem codeNums_walk (v n : Int) (A2 : Option Addr) (n2 c2 : Nat) (l2 : List UInt8) (at_ : Int) (w : World)
    (_ : (Lit.int .i64 v).wf = true) (_ : (Lit.int .i64 n).wf = true) (h2 : Bs w A2 n2 c2 l2) (_ : (Lit.int .i64 at_).wf = true) :
    Calls Try.prog 3 #[.int .i64 v, .int .i64 n, .slice A2 n2 c2, .int .i64 at_] w (isTrue w) := by
  have hm2 := h2.max
  have hcap2 := h2.cap
  by_cases hg2 : 5000 < n2
  · have hgd : decide (5000 < n2) = true := decide_eq_true hg2
    go_enter Try.func3, Try.ntmps3
    go_wp2_with fail
    refine (great_any A2 n2 c2 _ (by omega)).mono ?_
    rw [hgd]
    rintro e w' ⟨rfl, rfl⟩
    go_wp2_with fail
    refine (knows_yes _).mono ?_
    rintro e w1 ⟨rfl, hb1⟩
    go_wp2
    go_ret
    exact ⟨rfl, hb1⟩
  have hgd2 : decide (5000 < n2) = false := decide_eq_false hg2
  by_cases hf : fairB v n = true
  · have hff := hf
    obtain ⟨v', n', rfl, rfl, hn1, hn7, hv⟩ := fair_parts hf
    have hv63 : v' < 9223372036854775808 := Nat.lt_of_lt_of_le hv (Nat.le_trans (p256_le hn7) (by decide))
    have Hv := Lib.hid hv
    clear hf hv
    go_enter Try.func3, Try.ntmps3
    go_wp2_with fail
    refine (great_any A2 n2 c2 _ (by omega)).mono ?_
    rw [hgd2]
    rintro e w' ⟨rfl, rfl⟩
    go_wp2_with fail
    refine (put_ok v' n' _ hn1 hn7 Hv.out).mono ?_
    rintro e w1 ⟨A4, c4, rfl, hown4, hb1⟩
    go_wp2_with fail
    refine (fair_any _ _ _).mono ?_
    rw [hff]
    rintro e w' ⟨rfl, rfl⟩
    have hcv : (convert 22 9 (.slice A4 n' c4)).run Try.prog w1.drew = .ok (.string ⟨(putL v' n').toArray⟩) w1.drew := byP.str hown4.bs.drew
    have HCV := Lib.hid (fun W (hW : Below w1.drew.heap.size w1.drew W) => byP.str (hown4.bs.drew.below hW))
    clear hown4
    go_wp2_with fail
    go_region_with ((go_at_call 14; refine (refPut_any _ _ _ hn7 hv63).mono ?_; rintro e w4 ⟨A5, c5, rfl, hown5, hb5⟩; have hcv4 := byP.str hown5.bs; have hcv5 := HCV.out _ hb5))
    all_goals have hbk : Below w.heap.size w w4 := hb1.trans ((below_undrew hb5).mono hb1.size)
    all_goals have hsk := h2.below hbk
    all_goals clear hcv hcv4 hcv5 hown5 HCV
    all_goals go_wp2_with fail
    all_goals
      have HT : Hid ((1 ≤ (n' : Int) ∧ (n' : Int) ≤ 7 ∧ at_ < 0) ∨ (1 ≤ (n' : Int) ∧ (n' : Int) ≤ 7 ∧ 0 ≤ at_ ∧ (n2 : Int) < at_) ∨ (1 ≤ (n' : Int) ∧ (n' : Int) ≤ 7 ∧ 0 ≤ at_ ∧ at_ ≤ (n2 : Int) ∧ (n2 : Int) - at_ < (n' : Int)) ∨ (1 ≤ (n' : Int) ∧ (n' : Int) ≤ 7 ∧ 0 ≤ at_ ∧ at_ ≤ (n2 : Int) ∧ (n' : Int) ≤ (n2 : Int) - at_)) := by
        show _ ∨ _
        omega
      rcases HT.out with h1 | h1 | h1 | h1
      · obtain ⟨h1, h2, h3⟩ := h1
        refine (get_arg A2 n2 c2 at_ n' _ (by omega)).mono ?_
        rintro e w' ⟨rfl, rfl⟩
        go_wp2_with fail
        refine (knows_yes _).mono ?_
        rintro e wz ⟨rfl, hbz⟩
        go_wp2
        go_ret
        exact ⟨rfl, hbk.trans (hbz.mono hbk.size)⟩
      · obtain ⟨h1, h2, h3, h4⟩ := h1
        refine (get_more A2 n2 c2 at_ n' _ (by omega) h1 h2 h3 (by omega)).mono ?_
        rintro e w' ⟨rfl, rfl⟩
        go_wp2_with fail
        refine (knows_yes _).mono ?_
        rintro e wz ⟨rfl, hbz⟩
        go_wp2
        go_ret
        exact ⟨rfl, hbk.trans (hbz.mono hbk.size)⟩
      · obtain ⟨h1, h2, h3, h4, h5⟩ := h1
        refine (get_more A2 n2 c2 at_ n' _ (by omega) h1 h2 h3 (by omega)).mono ?_
        rintro e w' ⟨rfl, rfl⟩
        go_wp2_with fail
        refine (knows_yes _).mono ?_
        rintro e wz ⟨rfl, hbz⟩
        go_wp2
        go_ret
        exact ⟨rfl, hbk.trans (hbz.mono hbk.size)⟩
      · obtain ⟨h1, h2, h3, h4, h5⟩ := h1
        obtain ⟨a', rfl⟩ := Int.eq_ofNat_of_zero_le h3
        obtain ⟨A8, hA8, hrun8⟩ := byP.cut_lh hsk a' (a' + n') (a' : Int) ((a' : Int) + (n' : Int)) rfl (by omega) (by omega) (by omega)
        rw [Nat.add_sub_cancel_left] at hA8 hrun8
        refine (get_ok A2 n2 c2 l2 a' n' _ hsk (by omega) (by omega) (by omega)).mono ?_
        generalize hx : valL ((l2.drop a').take n') = x
        have HX := Lib.hid hx
        clear hx
        rintro e w' ⟨rfl, rfl⟩
        go_wp2_with fail
        refine (value_any _ _ _ _ _ hA8 (by omega)).mono ?_
        rw [HX.out]
        rintro e w' ⟨rfl, rfl⟩
        go_wp2_with fail
        refine (knows_yes _).mono ?_
        rintro e wz ⟨rfl, hbz⟩
        go_wp2
        go_ret
        exact ⟨rfl, hbk.trans (hbz.mono hbk.size)⟩
  · have Hf := Lib.hid hf
    have hff : fairB v n = false := by simpa using hf
    clear hf
    go_enter Try.func3, Try.ntmps3
    go_wp2_with fail
    refine (great_any A2 n2 c2 _ (by omega)).mono ?_
    rw [hgd2]
    rintro e w' ⟨rfl, rfl⟩
    go_wp2_with fail
    refine (put_no v n _ Hf.out).mono ?_
    rintro e w' ⟨rfl, rfl⟩
    go_wp2_with fail
    refine (fair_any v n _).mono ?_
    rw [hff]
    rintro e w' ⟨rfl, rfl⟩
    have hbk : Below w.heap.size w w := Below.refl _ _
    have hsk := h2
    go_wp2_with fail
    have HT : Hid (n < 1 ∨ (1 ≤ n ∧ 7 < n) ∨ (1 ≤ n ∧ n ≤ 7 ∧ at_ < 0) ∨ (1 ≤ n ∧ n ≤ 7 ∧ 0 ≤ at_ ∧ (n2 : Int) < at_) ∨ (1 ≤ n ∧ n ≤ 7 ∧ 0 ≤ at_ ∧ at_ ≤ (n2 : Int) ∧ (n2 : Int) - at_ < n) ∨ (1 ≤ n ∧ n ≤ 7 ∧ 0 ≤ at_ ∧ at_ ≤ (n2 : Int) ∧ n ≤ (n2 : Int) - at_)) := by
      show _ ∨ _
      omega
    rcases HT.out with h1 | h1 | h1 | h1 | h1 | h1
    · refine (get_arg A2 n2 c2 at_ n _ (by omega)).mono ?_
      rintro e w' ⟨rfl, rfl⟩
      go_wp2_with fail
      refine (knows_yes _).mono ?_
      rintro e wz ⟨rfl, hbz⟩
      go_wp2
      go_ret
      exact ⟨rfl, hbk.trans (hbz.mono hbk.size)⟩
    · obtain ⟨h1, h2⟩ := h1
      refine (get_arg A2 n2 c2 at_ n _ (by omega)).mono ?_
      rintro e w' ⟨rfl, rfl⟩
      go_wp2_with fail
      refine (knows_yes _).mono ?_
      rintro e wz ⟨rfl, hbz⟩
      go_wp2
      go_ret
      exact ⟨rfl, hbk.trans (hbz.mono hbk.size)⟩
    · obtain ⟨h1, h2, h3⟩ := h1
      refine (get_arg A2 n2 c2 at_ n _ (by omega)).mono ?_
      rintro e w' ⟨rfl, rfl⟩
      go_wp2_with fail
      refine (knows_yes _).mono ?_
      rintro e wz ⟨rfl, hbz⟩
      go_wp2
      go_ret
      exact ⟨rfl, hbk.trans (hbz.mono hbk.size)⟩
    · obtain ⟨h1, h2, h3, h4⟩ := h1
      refine (get_more A2 n2 c2 at_ n _ (by omega) h1 h2 h3 (by omega)).mono ?_
      rintro e w' ⟨rfl, rfl⟩
      go_wp2_with fail
      refine (knows_yes _).mono ?_
      rintro e wz ⟨rfl, hbz⟩
      go_wp2
      go_ret
      exact ⟨rfl, hbk.trans (hbz.mono hbk.size)⟩
    · obtain ⟨h1, h2, h3, h4, h5⟩ := h1
      refine (get_more A2 n2 c2 at_ n _ (by omega) h1 h2 h3 (by omega)).mono ?_
      rintro e w' ⟨rfl, rfl⟩
      go_wp2_with fail
      refine (knows_yes _).mono ?_
      rintro e wz ⟨rfl, hbz⟩
      go_wp2
      go_ret
      exact ⟨rfl, hbk.trans (hbz.mono hbk.size)⟩
    · obtain ⟨h1, h2, h3, h4, h5⟩ := h1
      obtain ⟨a', rfl⟩ := Int.eq_ofNat_of_zero_le h3
      obtain ⟨n', rfl⟩ := Int.eq_ofNat_of_zero_le (show 0 ≤ n by omega)
      obtain ⟨A8, hA8, hrun8⟩ := byP.cut_lh hsk a' (a' + n') (a' : Int) ((a' : Int) + (n' : Int)) rfl (by omega) (by omega) (by omega)
      rw [Nat.add_sub_cancel_left] at hA8 hrun8
      refine (get_ok A2 n2 c2 l2 a' n' _ hsk (by omega) (by omega) (by omega)).mono ?_
      generalize hx : valL ((l2.drop a').take n') = x
      have HX := Lib.hid hx
      clear hx
      rintro e w' ⟨rfl, rfl⟩
      go_wp2_with fail
      refine (value_any _ _ _ _ _ hA8 (by omega)).mono ?_
      rw [HX.out]
      rintro e w' ⟨rfl, rfl⟩
      go_wp2_with fail
      refine (knows_yes _).mono ?_
      rintro e wz ⟨rfl, hbz⟩
      go_wp2
      go_ret
      exact ⟨rfl, hbk.trans (hbz.mono hbk.size)⟩
end Go.Proofs.Ytikgigijngobeaa
