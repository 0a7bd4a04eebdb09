/- What the document's own Open comes to. For all bytes. -/
import Derived.Test.YtikgigijngobeaaCoOpen
import Derived.Deep.RegionWith
import Derived.Deep.DrawnRows
namespace Go.Proofs.Ytikgigijngobeaa
open Go.RowKit Co By
attribute [local go_sem ↓] Go.wp_at_zero Go.wp_at_succ

def isErrB (v : Int) (w : World) (e : Ending) (w' : World) : Prop := e = .returned (.tuple #[.slice none 0 0, .int .i64 0, .int .i64 v]) ∧ Below w.heap.size w w'
def isHeld (m : Nat) (l : List UInt8) (w : World) (e : Ending) (w' : World) : Prop :=
  ∃ A c, e = .returned (.tuple #[.slice A m c, .int .i64 (6 + (m : Int)), .int .i64 0]) ∧ Bs w' A m c l ∧ Below w.heap.size w w'

set_option maxHeartbeats 1000000 in
theorem refOpen_short (A : Option Addr) (n c : Nat) (w : World) (hm : n ≤ 9223372036854775807) (hn : n < 6) :
    Calls Try.prog 22 #[.slice A n c] w (isErrB 4 w) := by
  go_enter Try.func22, Try.ntmps22
  go_wp2
  go_ret3
  exact ⟨rfl, Below.refl _ _⟩

set_option maxHeartbeats 1000000 in
theorem refOpen_form (A : Option Addr) (n c : Nat) (l : List UInt8) (w : World) (h : Bs w A n c l) (hn : 6 ≤ n) (hm2 : 2000 < valL (l.take 2)) :
    Calls Try.prog 22 #[.slice A n c] w (isErrB 2 w) := by
  have hm := h.max
  have hcap := h.cap
  obtain ⟨A', hA', hrun⟩ := byP.cut_h h 2 2 rfl (by omega)
  go_enter Try.func22, Try.ntmps22
  go_wp2_with fail
  refine (value_any _ _ _ _ _ hA' (by omega)).mono ?_
  generalize valL (l.take 2) = m at hm2
  rintro e w' ⟨rfl, rfl⟩
  go_wp2
  go_ret3
  exact ⟨rfl, Below.refl _ _⟩

set_option maxHeartbeats 1000000 in
theorem refOpen_part (A : Option Addr) (n c : Nat) (l : List UInt8) (w : World) (h : Bs w A n c l) (hn : 6 ≤ n) (hm2 : valL (l.take 2) ≤ 2000) (hm3 : n < 6 + valL (l.take 2)) :
    Calls Try.prog 22 #[.slice A n c] w (isErrB 4 w) := by
  have hm := h.max
  have hcap := h.cap
  obtain ⟨A', hA', hrun⟩ := byP.cut_h h 2 2 rfl (by omega)
  go_enter Try.func22, Try.ntmps22
  go_wp2_with fail
  refine (value_any _ _ _ _ _ hA' (by omega)).mono ?_
  generalize valL (l.take 2) = m at hm2 hm3
  rintro e w' ⟨rfl, rfl⟩
  go_wp2
  go_ret3
  exact ⟨rfl, Below.refl _ _⟩

set_option maxHeartbeats 2000000 in
theorem refOpen_ok (A : Option Addr) (n c m : Nat) (l : List UInt8) (w : World) (h : Bs w A n c l) (hmm : valL (l.take 2) = m) (hn : 6 ≤ n) (hm2 : m ≤ 2000) (hm3 : 6 + m ≤ n)
    (hs : sumL ((l.drop 6).take m) = valL ((l.drop 2).take 4)) :
    Calls Try.prog 22 #[.slice A n c] w (isHeld m ((l.drop 6).take m) w) := by
  have HM := Lib.hid hmm
  have hm := h.max
  have hcap := h.cap
  have hl := h.len
  have heq := (frame_test l m hmm.symm hm2 (by omega)).2 hs
  have HE := Lib.hid heq
  clear heq hs hmm hl
  obtain ⟨A', hA', hrun⟩ := byP.cut_h h 2 2 rfl (by omega)
  obtain ⟨A2, hA2, hrun2⟩ := byP.cut_lh h 6 (6 + m) 6 (6 + (m : Int)) rfl (by omega) (by omega) (by omega)
  obtain ⟨A3, hA3, hrun3⟩ := byP.cut_h h (6 + m) (6 + (m : Int)) (by omega) (by omega)
  rw [Nat.add_sub_cancel_left] at hA2 hrun2
  have hcv : (convert 22 9 (.slice A3 (6 + m) c)).run Try.prog w.drew = .ok (.string ⟨(l.take (6 + m)).toArray⟩) w.drew := byP.str hA3.drew
  have hcv1 : ∀ W, Below w.drew.heap.size w.drew W → (convert 22 9 (.slice A3 (6 + m) c)).run Try.prog W = .ok (.string ⟨(l.take (6 + m)).toArray⟩) W := fun W hW => byP.str (hA3.drew.below hW)
  have HCV := Lib.hid hcv1
  clear hcv1
  go_enter Try.func22, Try.ntmps22
  go_wp2_with fail
  refine (value_any _ _ _ _ _ hA' (by omega)).mono ?_
  rw [HM.out]
  rintro e w' ⟨rfl, rfl⟩
  have hwr : IntKind.i64.wrap (6 + (m : Int)) = 6 + (m : Int) := IntWalk.i64_in _ (by omega)
  go_wp2_with fail
  go_region_with ((go_at_call 20; refine (refFrame_any _ _ _ _ _ hA2.drew (by omega)).mono ?_; rintro e w1 ⟨A4, c4, rfl, hown4, hb4⟩; have hcv4 := byP.str hown4.bs; rw [HE.out] at hcv4; have hcv5 := HCV.out _ hb4))
  all_goals go_wp2
  all_goals go_ret3
  all_goals exact ⟨A2, c - 6, rfl, hA2.drew.below hb4, below_undrew hb4⟩

set_option maxHeartbeats 2000000 in
theorem refOpen_sum (A : Option Addr) (n c m : Nat) (l : List UInt8) (w : World) (h : Bs w A n c l) (hmm : valL (l.take 2) = m) (hn : 6 ≤ n) (hm2 : m ≤ 2000) (hm3 : 6 + m ≤ n)
    (hs : sumL ((l.drop 6).take m) ≠ valL ((l.drop 2).take 4)) :
    Calls Try.prog 22 #[.slice A n c] w (isErrB 6 w) := by
  have HM := Lib.hid hmm
  have hm := h.max
  have hcap := h.cap
  have hl := h.len
  have hneq : frameL ((l.drop 6).take m) ≠ l.take (6 + m) := fun e => hs ((frame_test l m hmm.symm hm2 (by omega)).1 e)
  have hb : (frameL ((l.drop 6).take m) == l.take (6 + m)) = false := beq_eq_false_iff_ne.2 hneq
  clear hneq hs hmm hl
  obtain ⟨A', hA', hrun⟩ := byP.cut_h h 2 2 rfl (by omega)
  obtain ⟨A2, hA2, hrun2⟩ := byP.cut_lh h 6 (6 + m) 6 (6 + (m : Int)) rfl (by omega) (by omega) (by omega)
  obtain ⟨A3, hA3, hrun3⟩ := byP.cut_h h (6 + m) (6 + (m : Int)) (by omega) (by omega)
  rw [Nat.add_sub_cancel_left] at hA2 hrun2
  have hcv : (convert 22 9 (.slice A3 (6 + m) c)).run Try.prog w.drew = .ok (.string ⟨(l.take (6 + m)).toArray⟩) w.drew := byP.str hA3.drew
  have hcv1 : ∀ W, Below w.drew.heap.size w.drew W → (convert 22 9 (.slice A3 (6 + m) c)).run Try.prog W = .ok (.string ⟨(l.take (6 + m)).toArray⟩) W := fun W hW => byP.str (hA3.drew.below hW)
  have HCV := Lib.hid hcv1
  clear hcv1
  go_enter Try.func22, Try.ntmps22
  go_wp2_with fail
  refine (value_any _ _ _ _ _ hA' (by omega)).mono ?_
  rw [HM.out]
  rintro e w' ⟨rfl, rfl⟩
  have hwr : IntKind.i64.wrap (6 + (m : Int)) = 6 + (m : Int) := IntWalk.i64_in _ (by omega)
  go_wp2_with fail
  go_region_with ((go_at_call 20; refine (refFrame_any _ _ _ _ _ hA2.drew (by omega)).mono ?_; rintro e w1 ⟨A4, c4, rfl, hown4, hb4⟩; have hcv4 := byP.str hown4.bs; have hcv5 := HCV.out _ hb4))
  all_goals go_wp2
  all_goals go_ret3
  all_goals exact ⟨rfl, below_undrew hb4⟩

theorem refOpen_err (A : Option Addr) (n c : Nat) (l : List UInt8) (w : World) (h : Bs w A n c l) (he : openE l ≠ 0) : Calls Try.prog 22 #[.slice A n c] w (isErrB (openE l : Nat) w) := by
  have hl := h.len
  have hm := h.max
  have hc := h.cap
  unfold openE at he ⊢
  rw [hl] at he ⊢
  by_cases h6 : n < 6
  · rw [if_pos h6]; exact refOpen_short A n c w (by omega) h6
  rw [if_neg h6] at he ⊢
  by_cases h2 : 2000 < valL (l.take 2)
  · rw [if_pos h2]; exact refOpen_form A n c l w h (by omega) h2
  rw [if_neg h2] at he ⊢
  by_cases h3 : n < 6 + valL (l.take 2)
  · rw [if_pos h3]; exact refOpen_part A n c l w h (by omega) (by omega) h3
  rw [if_neg h3] at he ⊢
  by_cases h4 : sumL ((l.drop 6).take (valL (l.take 2))) = valL ((l.drop 2).take 4)
  · rw [if_pos h4] at he
    exact absurd rfl he
  · rw [if_neg h4]; exact refOpen_sum A n c _ l w h rfl (by omega) (by omega) (by omega) h4
theorem refOpen_yes (A : Option Addr) (n c m : Nat) (l : List UInt8) (w : World) (h : Bs w A n c l) (hmm : valL (l.take 2) = m) (he : openE l = 0) :
    Calls Try.prog 22 #[.slice A n c] w (isHeld m (heldL l) w) := by
  obtain ⟨h1, h2, h3, h4⟩ := openE_zero he
  have hl := h.len
  unfold heldL
  rw [hmm] at h2 h3 h4 ⊢
  exact refOpen_ok A n c m l w h hmm (by omega) h2 (by omega) h4
end Go.Proofs.Ytikgigijngobeaa
