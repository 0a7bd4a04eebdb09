/- The walk of KeyHangs: it returns true, and what was in memory stays. For all messages, where the table of digits holds what the program's text lays. -/
import Derived.Test.YtgdomcjonlngaaaDoorKwLaws3
set_option maxRecDepth 8000
namespace Go.Proofs.YtgdomcjonlngaaaDoor
open Go.RowKit Tl Ms By Ky Kw

set_option maxHeartbeats 4000000 in
theorem keyHangs_walk (x y : Mv) (w : World) (hw : Dig w) (hx : x.ok w) (hy : y.ok w) : Calls Tryd.prog 7 #[x.v, y.v] w (isTrue w) := by
  obtain ⟨w2, hw2⟩ : ∃ w2, w2 = (w.alloc (.cells x.cells 25)).alloc (.cells y.cells 25) := ⟨_, rfl⟩
  have hb2 : Below w.heap.size w w2 := by rw [hw2]; exact ((Below.refl _ _).alloc (Nat.le_refl _) _).alloc (by simp) _
  have hcx : Cel w2 w.heap.size 25 x.cells := by rw [hw2]; exact (Cel.born w _ _).below ((Below.refl _ _).alloc (Nat.le_refl _) _) (by simp)
  have hcy : Cel w2 (w.heap.size + 1) 25 y.cells := by
    rw [hw2]
    have := Cel.born (w.alloc (.cells x.cells 25)) 25 y.cells
    simpa using this
  have HX := Lib.hid (fun W (hb : Below w.heap.size w W) => hx.below hb)
  have HY := Lib.hid (fun W (hb : Below w.heap.size w W) => hy.below hb)
  have HK := Lib.hid (fun W (hb : Below w.heap.size w W) => knows_yes W (hw.below hb))
  have HCX := Lib.hid (fun W (hb : Below w2.heap.size w2 W) => hcx.below hb hcx.lt)
  have HCY := Lib.hid (fun W (hb : Below w2.heap.size w2 W) => hcy.below hb hcy.lt)
  have HTR := Lib.hid (fun W (hb : Below w2.heap.size w2 W) => hb2.trans (hb.mono hb2.size))
  clear hx hy hw hcx hcy
  go_enter Tryd.func7, Tryd.ntmps7
  go_wp2_with fail
  rw [← hw2]
  clear hw2
  refine (Mw.great_msg x _ (HX.out _ hb2)).mono ?_
  rintro e w3 ⟨rfl, h3⟩
  cases q1 : Mw.greatM x.mm
  rotate_left
  · go_wp2_with fail
    refine (HK.out _ (HTR.out _ h3)).mono ?_
    rintro e w9 ⟨rfl, h9⟩
    go_wp2
    go_ret
    exact ⟨rfl, (HTR.out _ h3).trans (h9.mono (HTR.out _ h3).size)⟩
  obtain ⟨r0, r1, r2, r3, r4, r5, r6, r7, r8, r9, r10, r11, r12, _⟩ := Mw.cels13 (HCY.out _ h3)
  go_wp2_with fail
  clear r0 r1 r2 r3 r4 r5 r6 r7 r8 r9 r10 r11 r12
  refine (Mw.great_msg y _ (HY.out _ (HTR.out _ h3))).mono ?_
  rintro e w4 ⟨rfl, h4'⟩
  have h4 := h3.trans (h4'.mono h3.size)
  clear h4' h3
  cases q2 : Mw.greatM y.mm
  rotate_left
  · go_wp2_with fail
    refine (HK.out _ (HTR.out _ h4)).mono ?_
    rintro e w9 ⟨rfl, h9⟩
    go_wp2
    go_ret
    exact ⟨rfl, (HTR.out _ h4).trans (h9.mono (HTR.out _ h4).size)⟩
  obtain ⟨r0, r1, r2, r3, r4, r5, r6, r7, r8, r9, r10, r11, r12, _⟩ := Mw.cels13 (HCX.out _ h4)
  go_wp2_with fail
  clear r0 r1 r2 r3 r4 r5 r6 r7 r8 r9 r10 r11 r12
  refine (Mw.as_msg x _).mono ?_
  rintro e w5 ⟨rfl, h5'⟩
  have h5 := h4.trans (h5'.mono h4.size)
  clear h5' h4
  go_wp2_with fail
  refine (Mw.refRight_msg x _ (HX.out _ (HTR.out _ h5))).mono ?_
  rintro e w6 ⟨rfl, h6'⟩
  have h6 := h5.trans (h6'.mono h5.size)
  clear h6' h5
  cases q3 : rightM x.mm
  · go_wp2_with fail
    refine (HK.out _ (HTR.out _ h6)).mono ?_
    rintro e w9 ⟨rfl, h9⟩
    go_wp2
    go_ret
    exact ⟨rfl, (HTR.out _ h6).trans (h9.mono (HTR.out _ h6).size)⟩
  obtain ⟨r0, r1, r2, r3, r4, r5, r6, r7, r8, r9, r10, r11, r12, _⟩ := Mw.cels13 (HCY.out _ h6)
  go_wp2_with fail
  clear r0 r1 r2 r3 r4 r5 r6 r7 r8 r9 r10 r11 r12
  refine (Mw.as_msg y _).mono ?_
  rintro e w7 ⟨rfl, h7'⟩
  have h7 := h6.trans (h7'.mono h6.size)
  clear h7' h6
  go_wp2_with fail
  refine (Mw.refRight_msg y _ (HY.out _ (HTR.out _ h7))).mono ?_
  rintro e w8 ⟨rfl, h8'⟩
  have h8 := h7.trans (h8'.mono h7.size)
  clear h8' h7
  cases q4 : rightM y.mm
  · go_wp2_with fail
    refine (HK.out _ (HTR.out _ h8)).mono ?_
    rintro e w9 ⟨rfl, h9⟩
    go_wp2
    go_ret
    exact ⟨rfl, (HTR.out _ h8).trans (h9.mono (HTR.out _ h8).size)⟩
  have HRX : Hid (RightM x.mm) := (rightM_iff _).1 q3
  have HRY : Hid (RightM y.mm) := (rightM_iff _).1 q4
  clear q1 q2 q3 q4
  obtain ⟨r0, r1, r2, r3, r4, r5, r6, r7, r8, r9, r10, r11, r12, _⟩ := Mw.cels13 (HCX.out _ h8)
  go_wp2_with fail
  clear r0 r1 r2 r3 r4 r5 r6 r7 r8 r9 r10 r11 r12
  refine (of_any x _ (HX.out _ (HTR.out _ h8))).mono ?_
  rintro e w9 ⟨s1, rfl, hs1, h9'⟩
  have h9 := h8.trans (h9'.mono h8.size)
  clear h9' h8
  have HS1 := Lib.hid hs1
  clear hs1
  obtain ⟨r0, r1, r2, r3, r4, r5, r6, r7, r8, r9, r10, r11, r12, _⟩ := Mw.cels13 (HCX.out _ h9)
  clear r0 r1 r2 r3 r4 r5 r6 r7 r8 r9 r10 r11
  go_wp2_with fail
  clear r12
  refine (Tw.refFind_any x.B x.m x.d x.ps 61 _ (HX.out _ (HTR.out _ h9)).os).mono ?_
  rintro e w10 ⟨A1, m1, c1, rfl, hbs1, rfl⟩
  have HCL : Hid ((clientL x.mm).length = m1) := hbs1.len
  have hm1 := hbs1.cap
  have hm2 := hbs1.max
  clear hbs1
  generalize (findL (osP x.ps) 61).isSome = f1
  have hb9 := HTR.out _ h9
  have HXO := Lib.hid (HX.out _ hb9)
  have HYO := Lib.hid (HY.out _ hb9)
  obtain ⟨r0, r1, r2, r3, r4, r5, r6, r7, r8, r9, r10, r11, r12, _⟩ := Mw.cels13 (HCY.out _ h9)
  have hby : Below w9.heap.size w9 (w9.alloc (.cells y.cells 25)) := (Below.refl _ _).alloc (Nat.le_refl _) _
  obtain ⟨t0, t1, t2, t3, t4, t5, t6, t7, t8, t9, t10, t11, t12, _⟩ := Mw.cels13 ((HCX.out _ h9).below hby (HCX.out _ h9).lt)
  by_cases hl : (1 : Int) < (m1 : Int)
  · have hba : Below w9.heap.size w9 (w9.alloc (.cells (Mw.withO y x.B x.m x.d x.ps).cells 25)) := (Below.refl _ _).alloc (Nat.le_refl _) _
    have HOF := Lib.hid (of_any (Mw.withO y x.B x.m x.d x.ps) (w9.alloc (.cells (Mw.withO y x.B x.m x.d x.ps).cells 25)) ⟨HYO.out.ch.below hba, HXO.out.os.below hba⟩)
    have HE : Hid (ofK (Mw.withO y x.B x.m x.d x.ps).mm = ofK x.mm) := hangs_client (m := x.mm) (n := y.mm) HRX.out HRY.out (by rw [HCL.out]; omega)
    rw [HE.out] at HOF
    have hb0a := hb9.trans (hba.mono hb9.size)
    clear HE hby hba
    generalize ofK x.mm = R at HS1 HOF
    obtain ⟨l, er⟩ := R
    go_wp2_with fail
    refine HOF.out.mono ?_
    rintro e w11 ⟨s2, rfl, hs2, h11⟩
    obtain rfl : s2 = s1 := arr_eq (hs2.trans HS1.out.symm)
    have hb11 := hb0a.trans (h11.mono hb0a.size)
    clear hs2 t0 t1 t2 t3 t4 t5 t6 t7 t8 t9 t10 t11 t12 r0 r1 r2 r3 r4 r5 r6 r7 r8 r9 r10 r11 r12
    go_wp2_with fail
    refine (HK.out _ hb11).mono ?_
    rintro e w12 ⟨rfl, h12⟩
    go_wp2
    go_ret
    exact ⟨rfl, hb11.trans (h12.mono hb11.size)⟩
  · have hba : Below w9.heap.size w9 (w9.alloc (.cells (Mw.withO x none 0 0 []).cells 25)) := (Below.refl _ _).alloc (Nat.le_refl _) _
    have HOF := Lib.hid (of_any (Mw.withO x none 0 0 []) (w9.alloc (.cells (Mw.withO x none 0 0 []).cells 25)) ⟨HXO.out.ch.below hba, RdO.nil _⟩)
    have HE : Hid (ofK (Mw.withO x none 0 0 []).mm = ofK x.mm) := hangs_head (m := x.mm) HRX.out (by rw [HCL.out]; omega)
    rw [HE.out] at HOF
    have hb0a := hb9.trans (hba.mono hb9.size)
    clear HE hby hba
    generalize ofK x.mm = R at HS1 HOF
    obtain ⟨l, er⟩ := R
    go_wp2_with fail
    refine HOF.out.mono ?_
    rintro e w11 ⟨s2, rfl, hs2, h11⟩
    obtain rfl : s2 = s1 := arr_eq (hs2.trans HS1.out.symm)
    have hb11 := hb0a.trans (h11.mono hb0a.size)
    clear hs2 t0 t1 t2 t3 t4 t5 t6 t7 t8 t9 t10 t11 t12 r0 r1 r2 r3 r4 r5 r6 r7 r8 r9 r10 r11 r12
    go_wp2_with fail
    refine (HK.out _ hb11).mono ?_
    rintro e w12 ⟨rfl, h12⟩
    go_wp2
    go_ret
    exact ⟨rfl, hb11.trans (h12.mono hb11.size)⟩
end Go.Proofs.YtgdomcjonlngaaaDoor
