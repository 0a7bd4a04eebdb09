/- boarderlaw17's knows: the document's examples come out. No conditions. -/
import Derived.Test.YtoobijefjljnjaaHwOf
import Derived.Laws.StructEq
set_option maxRecDepth 8000
namespace Go.Proofs.Ytoobijefjljnjaa.Hw
open Go.RowKit Go.ChangeMaps Tl Co Ms By Cl
open Pw (boxM celM_all alloc_more small_ms)

def mv (f : Int) (g : Int) : Mv := ⟨0, 0, 0, 0, 0, 0, f, 0, 0, 0, g, none, 0, 0, [], none, 0, 0, []⟩
theorem deq_self (a b : Int) (c : Bool) (W : World) : (binOp .eql 29 (.agg #[.int .i64 a, .int .i64 b, .bool c]) (.agg #[.int .i64 a, .int .i64 b, .bool c])).run Try.prog W = .ok (.bool true) W := by
  have hS : Try.prog.underlying 29 = some (.struct (Try.prog.fieldsOf 29)) := by kernel_rfl
  have hp : Try.prog.stoodInHeld 29 = false := by kernel_rfl
  have u3 := Try.underlying3
  have a3 := Try.isAgg3
  have z3 := Try.sizeOf3
  have u9 := Try.underlying4
  have a9 := Try.isAgg4
  have z9 := Try.sizeOf4
  rw [run_eql_struct, show (10000 : Nat) = 9999 + 1 from rfl, run_equalIn_agg W 9999 29 _ _ hS hp]
  simp only [Program.fieldsOf, Try.underlying29]
  go_simp

set_option maxHeartbeats 4000000 in
theorem knows_yes (w : World) : Calls Try.prog 7 #[] w (isTrue w) := by
  have H1 := Lib.hid (of_any (mv 0 0) 2 167772167)
  have H2 := Lib.hid (of_any (mv 32768 0) 2 167772167)
  rw [show destL (mv 0 0).mm 2 167772167 = (167772167, 68, true) by decide +kernel] at H1
  rw [show destL (mv 32768 0).mm 2 167772167 = (4294967295, 68, false) by decide +kernel] at H2
  have Q1 := fun W => deq_self 167772167 68 true W
  have Q2 := fun W => deq_self 4294967295 68 false W
  go_enter Try.func7, Try.ntmps7
  go_wp2_with fail
  refine (H1.out w).mono ?_
  rintro e w1 ⟨rfl, hb1⟩
  rw [dsC]
  have HB1 := Lib.hid hb1
  clear hb1
  obtain ⟨w2, hw2⟩ : ∃ w2, w2 = w1.alloc (.cells #[.int .i64 167772167, .int .i64 68, .bool true] 29) := ⟨_, rfl⟩
  have hb : Below w1.heap.size w1 w2 := by rw [hw2]; exact alloc_more _ _
  have HD2 := Lib.hid (show Cel w2 w1.heap.size 29 #[.int .i64 167772167, .int .i64 68, .bool true] by rw [hw2]; exact Cel.born _ _ _)
  have HB2 := Lib.hid (HB1.out.trans (hb.mono HB1.out.size))
  clear hb
  go_upto_region 2 with fail
  rw [← hw2]
  clear hw2
  go_wp2_with fail
  refine (H2.out w2).mono ?_
  rintro e w3 ⟨rfl, hb3⟩
  rw [dsC]
  have HB3 := Lib.hid (HB2.out.trans (hb3.mono HB2.out.size))
  have HE3 := Lib.hid (HD2.out.below hb3 HD2.out.lt)
  clear hb3
  obtain ⟨w4, hw4⟩ : ∃ w4, w4 = w3.alloc (.cells #[.int .i64 4294967295, .int .i64 68, .bool false] 29) := ⟨_, rfl⟩
  have hb : Below w3.heap.size w3 w4 := by rw [hw4]; exact alloc_more _ _
  have HD4 := Lib.hid (show Cel w4 w3.heap.size 29 #[.int .i64 4294967295, .int .i64 68, .bool false] by rw [hw4]; exact Cel.born _ _ _)
  have HB4 := Lib.hid (HB3.out.trans (hb.mono HB3.out.size))
  have HE4 := Lib.hid (HE3.out.below hb HE3.out.lt)
  clear hb
  go_upto_region 3 with fail
  rw [← hw4]
  clear hw4
  obtain ⟨p0, p1, p2⟩ := celK3 HD4.out
  obtain ⟨q0, q1, q2⟩ := celK3 HE4.out
  go_wp2
  go_ret
  exact ⟨rfl, HB4.out⟩
end Go.Proofs.Ytoobijefjljnjaa.Hw
