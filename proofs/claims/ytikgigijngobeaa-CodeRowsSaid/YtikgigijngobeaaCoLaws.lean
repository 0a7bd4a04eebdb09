/- The walks of CodeSums, CodeBack, CodeOpens: each returns true, and what was in memory stays. For all inputs. -/
import Derived.Test.YtikgigijngobeaaCoKnows
import Derived.Test.YtikgigijngobeaaCoRefOpen
namespace Go.Proofs.Ytikgigijngobeaa
open Go.RowKit Co By

def isTrue (w : World) (e : Ending) (w' : World) : Prop := e = .returned (.bool true) ∧ Below w.heap.size w w'

set_option maxHeartbeats 1000000 in
theorem codeSums_walk (A : Option Addr) (n c : Nat) (l : List UInt8) (w : World) (h : Bs w A n c l) :
    Calls Try.prog 5 #[.slice A n c] w (isTrue w) := by
  have hm := h.max
  have hcap := h.cap
  by_cases hg : 5000 < n
  · have hgd : decide (5000 < n) = true := decide_eq_true hg
    go_enter Try.func5, Try.ntmps5
    go_wp2_with fail
    refine (great_any A n c _ (by omega)).mono ?_
    rw [hgd]
    rintro e w' ⟨rfl, rfl⟩
    go_wp2_with fail
    refine (knows_yes _).mono ?_
    rintro e w1 ⟨rfl, hb1⟩
    go_wp2
    go_ret
    exact ⟨rfl, hb1⟩
  · have hgd : decide (5000 < n) = false := decide_eq_false hg
    go_enter Try.func5, Try.ntmps5
    go_wp2_with fail
    refine (great_any A n c _ (by omega)).mono ?_
    rw [hgd]
    rintro e w' ⟨rfl, rfl⟩
    go_wp2_with (first | fail | (at_builtin; refine wpList_app byP rfl (.tmp 6) (.tmp 7) rfl rfl (Own.lit0 5 w) rfl (h.alloc _) (by omega) (by simp) ?_; intro A' c' w2 hown2 hb2 _ _))
    have hb02 : Below w.heap.size w w2 := ((Below.refl _ _).alloc (Nat.le_refl _) _).trans hb2
    refine (sum_any _ _ _ l _ (by simpa using hown2.bs)).mono ?_
    rintro e w' ⟨rfl, rfl⟩
    go_wp2_with fail
    refine (refSum_any _ _ _ l _ (h.below hb02)).mono ?_
    rintro e w' ⟨rfl, rfl⟩
    go_wp2_with fail
    refine (knows_yes _).mono ?_
    rintro e w3 ⟨rfl, hb3⟩
    go_wp2
    go_ret
    exact ⟨rfl, hb02.trans (hb3.mono hb02.size)⟩

set_option maxHeartbeats 1000000 in
theorem codeOpens_walk (A : Option Addr) (n c : Nat) (l : List UInt8) (w : World) (h : Bs w A n c l) :
    Calls Try.prog 7 #[.slice A n c] w (isTrue w) := by
  have hm := h.max
  have hcap := h.cap
  by_cases hg : 5000 < n
  · have hgd : decide (5000 < n) = true := decide_eq_true hg
    go_enter Try.func7, Try.ntmps7
    go_wp2_with fail
    refine (great_any A n c _ (by omega)).mono ?_
    rw [hgd]
    rintro e w' ⟨rfl, rfl⟩
    go_wp2_with fail
    refine (knows_yes _).mono ?_
    rintro e w1 ⟨rfl, hb1⟩
    go_wp2
    go_ret
    exact ⟨rfl, hb1⟩
  · have hgd : decide (5000 < n) = false := decide_eq_false hg
    by_cases he : openE l = 0
    · obtain ⟨m, hmm⟩ : ∃ m, valL (l.take 2) = m := ⟨_, rfl⟩
      have HE := Lib.hid he
      have HM := Lib.hid hmm
      clear he hmm
      go_enter Try.func7, Try.ntmps7
      go_wp2_with fail
      refine (great_any A n c _ (by omega)).mono ?_
      rw [hgd]
      rintro e w' ⟨rfl, rfl⟩
      go_wp2_with (first | fail | (at_builtin; refine wpList_app byP rfl (.tmp 13) (.tmp 14) rfl rfl (Own.lit0 5 w) rfl (h.alloc _) (by omega) (by simp) ?_; intro A' c' w2 hown2 hb2 _ _))
      have hb02 : Below w.heap.size w w2 := ((Below.refl _ _).alloc (Nat.le_refl _) _).trans hb2
      refine (open_yes _ _ _ m l _ (by simpa using hown2.bs) HM.out HE.out).mono ?_
      rintro e w3 ⟨A3, c3, rfl, hown3, hb3⟩
      have hb03 : Below w.heap.size w w3 := hb02.trans (hb3.mono hb02.size)
      go_wp2_with fail
      refine (refOpen_yes _ _ _ m l _ (h.below hb03) HM.out HE.out).mono ?_
      rintro e w4 ⟨A4, c4, rfl, hbs4, hb4⟩
      have hb04 : Below w.heap.size w w4 := hb03.trans (hb4.mono hb03.size)
      have hcv1 := byP.str (hown3.below hb4).bs
      have hcv2 := byP.str hbs4
      clear hown3 hown2 hbs4
      go_wp2_with fail
      refine (knows_yes _).mono ?_
      rintro e w5 ⟨rfl, hb5⟩
      go_wp2
      go_ret
      exact ⟨rfl, hb04.trans (hb5.mono hb04.size)⟩
    · have HE := Lib.hid he
      clear he
      go_enter Try.func7, Try.ntmps7
      go_wp2_with fail
      refine (great_any A n c _ (by omega)).mono ?_
      rw [hgd]
      rintro e w' ⟨rfl, rfl⟩
      go_wp2_with (first | fail | (at_builtin; refine wpList_app byP rfl (.tmp 13) (.tmp 14) rfl rfl (Own.lit0 5 w) rfl (h.alloc _) (by omega) (by simp) ?_; intro A' c' w2 hown2 hb2 _ _))
      have hb02 : Below w.heap.size w w2 := ((Below.refl _ _).alloc (Nat.le_refl _) _).trans hb2
      refine (open_err _ _ _ l _ (by simpa using hown2.bs) HE.out).mono ?_
      rintro e w' ⟨rfl, rfl⟩
      go_wp2_with fail
      refine (refOpen_err _ _ _ l _ (h.below hb02) HE.out).mono ?_
      rintro e w4 ⟨rfl, hb4⟩
      have hb04 : Below w.heap.size w w4 := hb02.trans (hb4.mono hb02.size)
      have hcv1 := byP.str (Bs.nil w4)
      go_wp2_with fail
      refine (knows_yes _).mono ?_
      rintro e w5 ⟨rfl, hb5⟩
      go_wp2
      go_ret
      exact ⟨rfl, hb04.trans (hb5.mono hb04.size)⟩
end Go.Proofs.Ytikgigijngobeaa
