/- The rows of the document's examples answer yes. -/
import Derived.Test.YtikgigijngobeaaCoOpen
import Derived.Lib.SlBytesConst
namespace Go.Proofs.Ytikgigijngobeaa
open Go.RowKit Co By

set_option maxHeartbeats 2000000 in
theorem knows_yes (w : World) : Calls Try.prog 11 #[] w fun e w' => e = .returned (.bool true) ∧ Below w.heap.size w w' := by
  have H1 := Lib.hid (show putL 258 4 = [0, 0, 1, 2] by decide +kernel)
  have H2 := Lib.hid (show frameL [] = [0, 0, 0, 0, 0, 0] by decide +kernel)
  have H3 := Lib.hid (show sumL [49, 50, 51, 52, 53, 54, 55, 56, 57] = 3421780262 by decide +kernel)
  have H4 := Lib.hid (show openE [0, 0, 0, 0, 0, 0] = 0 by decide +kernel)
  have H5 := Lib.hid (show heldL [0, 0, 0, 0, 0, 0] = [] by decide +kernel)
  go_enter Try.func11, Try.ntmps11
  go_wp2_with fail
  refine (put_ok 258 4 _ (by omega) (by omega) (by decide +kernel)).mono ?_
  rw [H1.out]
  rintro e w1 ⟨A1, c1, rfl, hown1, hb1⟩
  go_wp2_with fail
  refine (frame_ok none 0 0 [] _ (Bs.nil _) (by omega)).mono ?_
  rw [H2.out]
  rintro e w2 ⟨A2, c2, rfl, hown2, hb2⟩
  go_wp2_with fail
  refine (open_yes A2 6 c2 0 _ _ hown2.bs (by decide +kernel) H4.out).mono ?_
  rw [H5.out]
  rintro e w3 ⟨A3, c3, rfl, hown3, hb3⟩
  have hb12 : Below w.heap.size w w2 := hb1.trans (hb2.mono hb1.size)
  have hb13 : Below w.heap.size w w3 := hb12.trans (hb3.mono hb12.size)
  have hcv1 := byP.str ((hown1.below hb2).below hb3).bs
  have kc := Lib.run_convert_bytes_const (P := Try.prog) w3 22 5 #[.int .u8 49, .int .u8 50, .int .u8 51, .int .u8 52, .int .u8 53, .int .u8 54, .int .u8 55, .int .u8 56, .int .u8 57] 9 9 byP.hT byP.he
  have hbs := Bs.const w3 5 (9, 9 + 1) [49, 50, 51, 52, 53, 54, 55, 56, 57] (by decide)
  have hcv2 := byP.str ((hown2.below hb3).bs.alloc (.cells (cellsU [49, 50, 51, 52, 53, 54, 55, 56, 57]).toArray 5 (9, 9 + 1)))
  clear hown1 hown2 hown3
  go_wp2_with fail
  refine (sum_any _ _ _ _ _ hbs).mono ?_
  rw [H3.out]
  rintro e w' ⟨rfl, rfl⟩
  have hb14 : Below w.heap.size w (w3.alloc (.cells (cellsU [49, 50, 51, 52, 53, 54, 55, 56, 57]).toArray 5 (9, 9 + 1))) := hb13.alloc hb13.size _
  generalize (w3.alloc (.cells (cellsU [49, 50, 51, 52, 53, 54, 55, 56, 57]).toArray 5 (9, 9 + 1))) = w4 at hcv2 hb14
  go_wp2
  go_ret
  exact ⟨rfl, hb14⟩
end Go.Proofs.Ytikgigijngobeaa
