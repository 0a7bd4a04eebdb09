/- The disks that calls of journal's answer are right ones. No program is called. -/
import Derived.Test.YtlefpodonkdbeaaGreatMathA
import Derived.Test.YtlefpodonkdbeaaGreatJwDo
namespace Go.Proofs.YtlefpodonkdbeaaGreat.La
open Co Ky Rc Dk Jn Jw

theorem goC_good (fuel : Int) : ∀ (l : List Ch) (i : Nat) (d : D), RightD d → RightD (goC fuel i d l).1
  | [], i, d, h => h
  | c :: l, i, d, h => by
    rw [goC]
    split
    · exact h
    split
    · exact h
    · exact goC_good fuel l (i + 1) _ (one_good h c)
theorem do_good (d : D) (l : List Ch) (fuel : Int) : RightD (doC d l fuel).1 := goC_good fuel l 0 _ (good_right d)
theorem crash_good (d : D) (keep : List Int) (dir : Bool) : RightD (crashK d keep dir) := crash_right (good_right d) keep dir
theorem open_good (d : D) : RightD (openJ d).1 := by
  rcases open_any d with ⟨_, h⟩ | ⟨_, _, h, _⟩
  · rw [h]; exact zero_right
  · exact h
theorem go_le (fuel : Int) : ∀ (l : List Ch) (i : Nat) (d : D), (goC fuel i d l).2 ≤ i + l.length
  | [], i, d => Nat.le_refl _
  | c :: l, i, d => by
    rw [goC]
    split
    · exact Nat.le_add_right _ _
    split
    · exact Nat.le_add_right _ _
    · have := go_le fuel l (i + 1) (oneC d c).1
      rw [List.length_cons]
      omega
theorem do_le (d : D) (l : List Ch) (fuel : Int) : (doC d l fuel).2 ≤ l.length := by have := go_le fuel l 0 (goodD d); unfold doC; omega
end Go.Proofs.YtlefpodonkdbeaaGreat.La
