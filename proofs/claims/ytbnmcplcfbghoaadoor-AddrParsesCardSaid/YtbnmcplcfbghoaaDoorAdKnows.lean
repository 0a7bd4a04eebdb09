/- The document's examples for addresses hold of the code: what stands at the end of each statement. -/
import Derived.Test.YtbnmcplcfbghoaaDoorAdRefRead
namespace Go.Proofs.YtbnmcplcfbghoaaDoor
open Go.RowKit Ad

theorem ex1 : textL 3232235777 = [49, 57, 50, 46, 49, 54, 56, 46, 49, 46, 49] := by
  show textL (((192 * 256 + 168) * 256 + 1) * 256 + 1) = _
  rw [textL_of 192 168 1 1 (by decide) (by decide) (by decide), dec3 (n := 192) (by decide) (by decide), dec3 (n := 168) (by decide) (by decide), dec1 (n := 1) (by decide)]
  decide
theorem ex2 : textL 167772167 = [49, 48, 46, 48, 46, 48, 46, 55] := by
  show textL (((10 * 256 + 0) * 256 + 0) * 256 + 7) = _
  rw [textL_of 10 0 0 7 (by decide) (by decide) (by decide), dec2 (n := 10) (by decide) (by decide), dec1 (n := 0) (by decide), dec1 (n := 7) (by decide)]
  decide
theorem ex2p : parseL [49, 48, 46, 48, 46, 48, 46, 55] = some 167772167 := parse_iff.2 ⟨by decide, ex2⟩
theorem ex3p : parseL [49, 48, 46, 48, 46, 48, 46, 48, 55] = none := by decide
theorem ex4 : 4294967296 - sz 24 = 4294967040 := by decide
theorem ex5 : fairB 167772160 24 = true := by decide
theorem ex6 : (167772160 : Int) + sz 24 - 1 = 167772415 := by decide
theorem ex7 : hasB 167772160 24 167772167 = true := by decide
theorem ex8 : fairB 0 0 = true := by decide
theorem ex9 : rightB 167772167 = true := by decide
theorem exA : rightB 3232235777 = true := by decide

set_option maxHeartbeats 1000000 in
theorem knows_any (w : World) (hw : Env w) :
    Calls Tryd.prog 12 #[] w fun e w' => e = .returned (.bool true) ∧ Below w.heap.size w w' := by
  go_enter Tryd.func12, Tryd.ntmps12
  go_wp2_with fail
  refine (text_yes _ _ hw exA).mono ?_
  rintro e w1 ⟨rfl, hb1⟩
  rw [show (3232235777 : Int).toNat = 3232235777 from rfl, ex1]
  have hw1 := hw.below hb1
  go_wp2_with fail
  refine (parse_yes _ _ hw1 (by decide) _ ex2p).mono ?_
  rintro e w2 ⟨rfl, hb2⟩
  have hw2 := hw1.below hb2
  go_wp2_with fail
  refine (parse_no _ _ hw2 (by decide) ex3p).mono ?_
  rintro e w3 ⟨rfl, hb3⟩
  go_wp2_with fail
  refine (mask_yes _ _ (by decide)).mono ?_
  rintro e w4 ⟨rfl, rfl⟩
  rw [ex4]
  go_wp2_with fail
  refine (last_yes _ _ _ ex5).mono ?_
  rintro e w4 ⟨rfl, rfl⟩
  rw [ex6]
  go_wp2_with fail
  refine (has_any _ _ _ _).mono ?_
  rintro e w4 ⟨rfl, rfl⟩
  rw [ex7]
  go_wp2_with fail
  refine (fair_any _ _ _).mono ?_
  rintro e w4 ⟨rfl, rfl⟩
  rw [ex8]
  go_wp2_with fail
  refine (right_any _ _).mono ?_
  rintro e w4 ⟨rfl, rfl⟩
  rw [ex9]
  go_wp2
  go_ret
  exact ⟨rfl, hb1.trans ((hb2.mono hb1.size).trans (hb3.mono (Nat.le_trans hb1.size hb2.size)))⟩
end Go.Proofs.YtbnmcplcfbghoaaDoor
