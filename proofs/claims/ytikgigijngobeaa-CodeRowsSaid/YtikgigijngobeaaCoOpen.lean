/- What code.Open comes to. For all bytes. -/
import Derived.Test.YtikgigijngobeaaCoFrame
namespace Go.Proofs.Ytikgigijngobeaa
open Go.RowKit Co By

def isErr (v : Int) (w : World) (e : Ending) (w' : World) : Prop := e = .returned (.tuple #[.slice none 0 0, .int .i64 0, .int .i64 v]) ∧ w = w'

set_option maxHeartbeats 1000000 in
theorem open_short (A : Option Addr) (n c : Nat) (l : List UInt8) (w : World) (h : Bs w A n c l) (hn : n < 6) :
    Calls Try.prog 21 #[.slice A n c] w (isErr 4 w) := by
  have HL := Lib.hid h.len
  have hm := h.max
  have hcap := h.cap
  by_cases h2 : n < 2
  · go_enter Try.func21, Try.ntmps21
    go_wp2_with fail
    refine (get_more A n c 0 2 _ (by omega) (by omega) (by omega) (by omega) (by omega)).mono ?_
    rintro e w' ⟨rfl, rfl⟩
    go_wp2
    go_ret3
    exact ⟨rfl, rfl⟩
  · go_enter Try.func21, Try.ntmps21
    go_wp2_with fail
    refine (get_ok A n c l 0 2 _ h (by omega) (by omega) (by omega)).mono ?_
    rintro e w' ⟨rfl, rfl⟩
    go_wp2_with fail
    refine (get_more A n c 2 4 _ (by omega) (by omega) (by omega) (by omega) (by omega)).mono ?_
    rintro e w' ⟨rfl, rfl⟩
    go_wp2
    go_ret3
    exact ⟨rfl, rfl⟩

set_option maxHeartbeats 1000000 in
theorem open_form (A : Option Addr) (n c : Nat) (l : List UInt8) (w : World) (h : Bs w A n c l) (hn : 6 ≤ n) (hm2 : 2000 < valL (l.take 2)) :
    Calls Try.prog 21 #[.slice A n c] w (isErr 2 w) := by
  have HL := Lib.hid h.len
  have hm := h.max
  have hcap := h.cap
  go_enter Try.func21, Try.ntmps21
  go_wp2_with fail
  refine (get_ok A n c l 0 2 _ h (by omega) (by omega) (by omega)).mono ?_
  rw [List.drop_zero]
  generalize valL (l.take 2) = m at hm2
  rintro e w' ⟨rfl, rfl⟩
  go_wp2_with fail
  refine (get_ok A n c l 2 4 _ h (by omega) (by omega) (by omega)).mono ?_
  generalize valL ((l.drop 2).take 4) = s
  rintro e w' ⟨rfl, rfl⟩
  go_wp2
  go_ret3
  exact ⟨rfl, rfl⟩

set_option maxHeartbeats 1000000 in
theorem open_part_ (A : Option Addr) (n c : Nat) (l : List UInt8) (w : World) (h : Bs w A n c l) (hn : 6 ≤ n) (hm2 : valL (l.take 2) ≤ 2000) (hm3 : n < 6 + valL (l.take 2)) :
    Calls Try.prog 21 #[.slice A n c] w (isErr 4 w) := by
  have HL := Lib.hid h.len
  have hm := h.max
  have hcap := h.cap
  go_enter Try.func21, Try.ntmps21
  go_wp2_with fail
  refine (get_ok A n c l 0 2 _ h (by omega) (by omega) (by omega)).mono ?_
  rw [List.drop_zero]
  generalize valL (l.take 2) = m at hm2 hm3
  rintro e w' ⟨rfl, rfl⟩
  go_wp2_with fail
  refine (get_ok A n c l 2 4 _ h (by omega) (by omega) (by omega)).mono ?_
  generalize valL ((l.drop 2).take 4) = s
  rintro e w' ⟨rfl, rfl⟩
  go_wp2
  go_ret3
  exact ⟨rfl, rfl⟩

set_option maxHeartbeats 1000000 in
theorem open_sum (A : Option Addr) (n c : Nat) (l : List UInt8) (w : World) (h : Bs w A n c l) (hn : 6 ≤ n) (hm2 : valL (l.take 2) ≤ 2000) (hm3 : 6 + valL (l.take 2) ≤ n)
    (hs : sumL ((l.drop 6).take (valL (l.take 2))) ≠ valL ((l.drop 2).take 4)) :
    Calls Try.prog 21 #[.slice A n c] w (isErr 6 w) := by
  have HL := Lib.hid h.len
  have hm := h.max
  have hcap := h.cap
  have hs4 : valL ((l.drop 2).take 4) < 4294967296 := Nat.lt_of_lt_of_le (valL_lt _) (p256_le (n := 4) (by rw [List.length_take]; omega))
  have hne : ((sumL ((l.drop 6).take (valL (l.take 2))) : Int) != (valL ((l.drop 2).take 4) : Int)) = true := by
    simp
    omega
  clear hs
  obtain ⟨A', hA', hrun⟩ := byP.cut_lh h 6 (6 + valL (l.take 2)) 6 (6 + (valL (l.take 2) : Int)) rfl (by omega) (by omega) (by omega)
  rw [Nat.add_sub_cancel_left] at hA' hrun
  go_enter Try.func21, Try.ntmps21
  go_wp2_with fail
  refine (get_ok A n c l 0 2 _ h (by omega) (by omega) (by omega)).mono ?_
  rw [List.drop_zero]
  generalize valL (l.take 2) = m at hm2 hm3 hne hrun hA'
  rintro e w' ⟨rfl, rfl⟩
  go_wp2_with fail
  refine (get_ok A n c l 2 4 _ h (by omega) (by omega) (by omega)).mono ?_
  generalize valL ((l.drop 2).take 4) = s at hs4 hne
  rintro e w' ⟨rfl, rfl⟩
  go_wp2_with fail
  refine (sum_any _ _ _ _ _ hA').mono ?_
  rintro e w' ⟨rfl, rfl⟩
  go_wp2
  go_ret3
  exact ⟨rfl, rfl⟩

set_option maxHeartbeats 1000000 in
theorem open_ok (A : Option Addr) (n c m : Nat) (l : List UInt8) (w : World) (h : Bs w A n c l) (hmm : valL (l.take 2) = m) (hn : 6 ≤ n) (hm2 : m ≤ 2000) (hm3 : 6 + m ≤ n)
    (hs : sumL ((l.drop 6).take m) = valL ((l.drop 2).take 4)) :
    Calls Try.prog 21 #[.slice A n c] w (RB 5 w m ((l.drop 6).take m) fun x => .tuple #[x, .int .i64 (6 + (m : Int)), .int .i64 0]) := by
  have HL := Lib.hid h.len
  have HM := Lib.hid hmm
  clear hmm
  have hm := h.max
  have hcap := h.cap
  have hs4 : valL ((l.drop 2).take 4) < 4294967296 := Nat.lt_of_lt_of_le (valL_lt _) (p256_le (n := 4) (by rw [List.length_take]; omega))
  have hne : ((sumL ((l.drop 6).take m) : Int) != (valL ((l.drop 2).take 4) : Int)) = false := by
    simp
    omega
  clear hs
  obtain ⟨A', hA', hrun⟩ := byP.cut_lh h 6 (6 + m) 6 (6 + (m : Int)) rfl (by omega) (by omega) (by omega)
  rw [Nat.add_sub_cancel_left] at hA' hrun
  go_enter Try.func21, Try.ntmps21
  go_wp2_with fail
  refine (get_ok A n c l 0 2 _ h (by omega) (by omega) (by omega)).mono ?_
  rw [List.drop_zero, HM.out]
  rintro e w' ⟨rfl, rfl⟩
  go_wp2_with fail
  refine (get_ok A n c l 2 4 _ h (by omega) (by omega) (by omega)).mono ?_
  generalize valL ((l.drop 2).take 4) = s at hs4 hne
  rintro e w' ⟨rfl, rfl⟩
  go_wp2_with fail
  refine (sum_any _ _ _ _ _ hA').mono ?_
  rintro e w' ⟨rfl, rfl⟩
  go_wp2_with fail
  refine (clone_any _ _ _ _ _ hA' (by omega)).mono ?_
  rintro e w1 ⟨A1, c1, rfl, hown1, hb1⟩
  go_wp2
  go_ret3
  exact ⟨A1, c1, rfl, hown1, hb1⟩

/-- Open, by the error that it answers. -/
theorem open_err (A : Option Addr) (n c : Nat) (l : List UInt8) (w : World) (h : Bs w A n c l) (he : openE l ≠ 0) : Calls Try.prog 21 #[.slice A n c] w (isErr (openE l : Nat) w) := by
  have hl := h.len
  unfold openE at he ⊢
  rw [hl] at he ⊢
  by_cases h6 : n < 6
  · rw [if_pos h6]; exact open_short A n c l w h h6
  rw [if_neg h6] at he ⊢
  by_cases h2 : 2000 < valL (l.take 2)
  · rw [if_pos h2]; exact open_form A n c l w h (by omega) h2
  rw [if_neg h2] at he ⊢
  by_cases h3 : n < 6 + valL (l.take 2)
  · rw [if_pos h3]; exact open_part_ A n c l w h (by omega) (by omega) h3
  rw [if_neg h3] at he ⊢
  by_cases h4 : sumL ((l.drop 6).take (valL (l.take 2))) = valL ((l.drop 2).take 4)
  · rw [if_pos h4] at he
    exact absurd rfl he
  · rw [if_neg h4]; exact open_sum A n c l w h (by omega) (by omega) (by omega) h4
theorem openE_zero {l : List UInt8} (he : openE l = 0) :
    6 ≤ l.length ∧ valL (l.take 2) ≤ 2000 ∧ 6 + valL (l.take 2) ≤ l.length ∧ sumL ((l.drop 6).take (valL (l.take 2))) = valL ((l.drop 2).take 4) := by
  unfold openE at he
  by_cases h6 : l.length < 6
  · rw [if_pos h6] at he; cases he
  rw [if_neg h6] at he
  by_cases h2 : 2000 < valL (l.take 2)
  · rw [if_pos h2] at he; cases he
  rw [if_neg h2] at he
  by_cases h3 : l.length < 6 + valL (l.take 2)
  · rw [if_pos h3] at he; cases he
  rw [if_neg h3] at he
  by_cases h4 : sumL ((l.drop 6).take (valL (l.take 2))) = valL ((l.drop 2).take 4)
  · exact ⟨by omega, by omega, by omega, h4⟩
  · rw [if_neg h4] at he; cases he
theorem open_yes (A : Option Addr) (n c m : Nat) (l : List UInt8) (w : World) (h : Bs w A n c l) (hmm : valL (l.take 2) = m) (he : openE l = 0) :
    Calls Try.prog 21 #[.slice A n c] w (RB 5 w m (heldL l) fun x => .tuple #[x, .int .i64 (6 + (m : Int)), .int .i64 0]) := by
  obtain ⟨h1, h2, h3, h4⟩ := openE_zero he
  have hl := h.len
  unfold heldL
  rw [hmm] at h2 h3 h4 ⊢
  exact open_ok A n c m l w h hmm (by omega) h2 (by omega) h4
end Go.Proofs.Ytikgigijngobeaa
