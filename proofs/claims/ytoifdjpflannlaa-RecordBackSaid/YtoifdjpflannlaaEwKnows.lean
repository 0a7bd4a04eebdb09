/- The rows of the document's example of layer 9 answer yes. No conditions. -/
import Derived.Test.YtoifdjpflannlaaEwEq
import Derived.Test.YtoifdjpflannlaaEwRead
set_option maxRecDepth 8000
namespace Go.Proofs.Ytoifdjpflannlaa.Ew
open Go.RowKit Co By Ky Rc
open Dw (ba ba_size ba_data ba_list)

/-- The lease of the example. -/
def exL : L := ⟨1, 1, 258, [105, 48, 49]⟩
set_option maxHeartbeats 1600000 in
theorem knows_yes (w : World) : Calls Try.prog 16 #[] w fun e w' => e = .returned (.bool true) ∧ Below w.heap.size w w' := by
  obtain ⟨w1, hw1⟩ : ∃ w1, w1 = w.alloc (.cells #[.int .i64 1, .int .i64 1, .int .i64 258, .string ⟨#[105, 48, 49]⟩] 47) := ⟨_, rfl⟩
  have HC1 := Lib.hid (show Cel w1 w.heap.size 47 (lcs exL) by rw [hw1]; exact Cel.born _ _ _)
  have HB1 := Lib.hid (show Below w.heap.size w w1 by rw [hw1]; exact (Below.refl _ _).alloc (Nat.le_refl _) _)
  have e1 : writeR exL = ([0, 0, 0, 1, 1, 0, 0, 0, 0, 0, 1, 2, 105, 48, 49], 0) := by decide +kernel
  have e2 : readR [0, 0, 0, 1, 1, 0, 0, 0, 0, 0, 1, 2, 105, 48, 49] = (exL, 0) := by
    have h := read_write (l := exL) (by decide +kernel)
    rw [show encR exL = [0, 0, 0, 1, 1, 0, 0, 0, 0, 0, 1, 2, 105, 48, 49] by decide +kernel] at h
    exact h
  have e3 : rightR exL = true := by decide +kernel
  have hfk : Fk exL := by unfold Fk exL; decide
  have hwr := write_any exL w1 hfk
  rw [e1] at hwr
  have HWR := Lib.hid hwr
  have HRI := Lib.hid (fun W => right_any exL W hfk)
  rw [e3] at HRI
  have HE2 := Lib.hid e2
  have HQ : ∀ W, (binOp .eql 47 (.agg #[.int .i64 1, .int .i64 1, .int .i64 258, .string ⟨#[105, 48, 49]⟩]) (.agg #[.int .i64 1, .int .i64 1, .int .i64 258, .string ⟨#[105, 48, 49]⟩])).run Try.prog W = .ok (.bool true) W := leq_self exL
  clear e1 e2 e3 hwr
  have q := cel4 HC1.out
  obtain ⟨q0, q1, q2, q3⟩ := q
  rw [hw1] at q0 q1 q2 q3
  go_enter Try.func16, Try.ntmps16
  go_wp2_with fail
  rw [← hw1]
  clear hw1 q0 q1 q2 q3
  refine HWR.out.mono ?_
  rintro e w2 ⟨A2, n2, c2, rfl, hown2, hb2⟩
  have HB2 := Lib.hid (HB1.out.trans (hb2.mono HB1.out.size))
  have HC2 := Lib.hid (HC1.out.below hb2 HC1.out.lt)
  have hrd := read_any A2 n2 c2 _ w2 hown2.bs
  rw [HE2.out] at hrd
  have HRD : Hid (Calls Try.prog 21 #[.slice A2 n2 c2] w2 fun e w' => e = .returned (.tuple #[.agg #[.int .i64 1, .int .i64 1, .int .i64 258, .string ⟨#[105, 48, 49]⟩], .int .i64 0]) ∧ Below w2.heap.size w2 w') := hrd
  have HO2 := Lib.hid hown2
  clear hb2 hrd hown2 HC1 HB1
  go_wp2_with fail
  refine HRD.out.mono ?_
  rintro e w3 ⟨rfl, hb3⟩
  have HB3 := Lib.hid (HB2.out.trans (hb3.mono HB2.out.size))
  have HC3 := Lib.hid (HC2.out.below hb3 HC2.out.lt)
  have HO3 := Lib.hid (HO2.out.below hb3)
  clear hb3 HC2 HB2 HO2 HRD
  obtain ⟨w4, hw4⟩ : ∃ w4, w4 = w3.alloc (.cells #[.int .i64 1, .int .i64 1, .int .i64 258, .string ⟨#[105, 48, 49]⟩] 47) := ⟨_, rfl⟩
  have hb4 : Below w3.heap.size w3 w4 := by rw [hw4]; exact (Below.refl _ _).alloc (Nat.le_refl _) _
  have hc4 : Cel w4 w3.heap.size 47 #[.int .i64 1, .int .i64 1, .int .i64 258, .string ⟨#[105, 48, 49]⟩] := by rw [hw4]; exact Cel.born _ _ _
  have hd4 : Cel w4 w.heap.size 47 #[.int .i64 1, .int .i64 1, .int .i64 258, .string ⟨#[105, 48, 49]⟩] := HC3.out.below hb4 HC3.out.lt
  have hcv : (convert 35 9 (.slice A2 n2 c2)).run Try.prog w4 = .ok (.string ⟨#[0, 0, 0, 1, 1, 0, 0, 0, 0, 0, 1, 2, 105, 48, 49]⟩) w4 := byP.str (HO3.out.bs.below hb4)
  have HB4 := Lib.hid (HB3.out.trans (hb4.mono HB3.out.size))
  obtain ⟨p0, p1, p2, p3⟩ := cel4 hc4
  obtain ⟨q0, q1, q2, q3⟩ := cel4 hd4
  rw [hw4] at hcv p0 p1 p2 p3 q0 q1 q2 q3
  have hfin := HRI.out w4
  have HFI := Lib.hid hfin
  clear hb4 hc4 hd4 hfin HRI
  go_wp2_with fail
  rw [← hw4]
  refine HFI.out.mono ?_
  rintro e w5 ⟨rfl, hb5⟩
  clear hcv p0 p1 p2 p3 q0 q1 q2 q3 hw4
  go_wp2
  go_ret
  exact ⟨rfl, HB4.out.trans (hb5.mono HB4.out.size)⟩
end Go.Proofs.Ytoifdjpflannlaa.Ew
