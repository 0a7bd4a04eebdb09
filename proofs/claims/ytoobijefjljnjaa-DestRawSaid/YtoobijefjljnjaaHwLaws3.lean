/- The walk of DestRaw: it returns true, and what was in memory stays. For all inputs. -/
import Derived.Test.YtoobijefjljnjaaHwKnows
import Derived.Test.YtoobijefjljnjaaMwRef1
set_option maxRecDepth 8000
namespace Go.Proofs.Ytoobijefjljnjaa
open Go.RowKit Go.ChangeMaps Tl Co Ms By Cl Hw
open Pw (boxM celM_all alloc_more small_ms)

set_option maxHeartbeats 16000000 in
theorem destRaw_walk (x : Mv) (kd yi : Int) (w : World) (h : x.ok w) : Calls Try.prog 5 #[x.v, .int .i64 kd, .int .i64 yi] w (isTrue w) := by
  obtain ⟨w0, hw0, hc0, hb0, hz⟩ := boxM w x 25
  have HG := Lib.hid (Mw.great_msg x w0 (h.below hb0))
  have HB := Lib.hid hb0
  have HM0 := Lib.hid hc0
  clear hc0 hb0 h hz
  cases hg : Mw.greatM x.mm with
  | true =>
    rw [hg] at HG
    clear hg
    go_enter Try.func5, Try.ntmps5
    go_upto_region 1 with fail
    rw [← hw0]
    clear hw0
    obtain ⟨⟨m0, m1, m2, m3, m4, m5, m6⟩, m7, m8, m9, m10, m11, m12⟩ := celM_all HM0.out
    go_wp2_with fail
    refine HG.out.mono ?_
    rintro e w1 ⟨rfl, hb⟩
    have HB1 := Lib.hid hb
    have HM1 := Lib.hid (HM0.out.below hb HM0.out.lt)
    clear hb m0 m1 m2 m3 m4 m5 m6 m7 m8 m9 m10 m11 m12
    go_wp2_with fail
    refine (knows_yes _).mono ?_
    rintro e wz ⟨rfl, hb⟩
    have HBZ := Lib.hid (HB1.out.trans (hb.mono HB1.out.size))
    clear hb
    go_wp2
    go_ret
    exact ⟨rfl, HB.out.trans (HBZ.out.mono HB.out.size)⟩
  | false =>
    rw [hg] at HG
    clear hg
    have HO := Lib.hid (of_any x kd yi)
    rw [dest_eq, show x.mm.gi = x.gi from rfl, show x.mm.ci = x.ci from rfl, show x.mm.flags = x.flags from rfl] at HO
    cases h1 : (x.gi != 0) with
    | true =>
      rw [if_pos h1] at HO
      have e1 : (x.gi == 0) = false := by simpa using h1
      go_enter Try.func5, Try.ntmps5
      go_upto_region 1 with fail
      rw [← hw0]
      clear hw0
      obtain ⟨⟨m0, m1, m2, m3, m4, m5, m6⟩, m7, m8, m9, m10, m11, m12⟩ := celM_all HM0.out
      go_wp2_with fail
      refine HG.out.mono ?_
      rintro e w1 ⟨rfl, hb⟩
      have HB1 := Lib.hid hb
      have HM1 := Lib.hid (HM0.out.below hb HM0.out.lt)
      clear hb m0 m1 m2 m3 m4 m5 m6 m7 m8 m9 m10 m11 m12
      obtain ⟨⟨m0, m1, m2, m3, m4, m5, m6⟩, m7, m8, m9, m10, m11, m12⟩ := celM_all HM1.out
      go_wp2_with fail
      refine (HO.out _).mono ?_
      rintro e wv ⟨rfl, hb⟩
      rw [dsC]
      have HBv := Lib.hid (HB1.out.trans (hb.mono HB1.out.size))
      have HMv := Lib.hid (HM1.out.below hb HM1.out.lt)
      clear hb m0 m1 m2 m3 m4 m5 m6 m7 m8 m9 m10 m11 m12
      obtain ⟨w2, hw2⟩ : ∃ w2, w2 = wv.alloc (.cells #[.int .i64 x.gi, .int .i64 67, .bool false] 29) := ⟨_, rfl⟩
      have hb : Below wv.heap.size wv w2 := by rw [hw2]; exact alloc_more _ _
      have HD2 := Lib.hid (show Cel w2 wv.heap.size 29 #[.int .i64 x.gi, .int .i64 67, .bool false] by rw [hw2]; exact Cel.born _ _ _)
      have HB2 := Lib.hid (HBv.out.trans (hb.mono HBv.out.size))
      have HM2 := Lib.hid (HMv.out.below hb HMv.out.lt)
      clear hb HBv HMv
      go_upto_region 4 with fail
      rw [← hw2]
      clear hw2
      obtain ⟨p0, p1, p2⟩ := celK3 HD2.out
      obtain ⟨⟨m0, m1, m2, m3, m4, m5, m6⟩, m7, m8, m9, m10, m11, m12⟩ := celM_all HM2.out
      go_wp2_with fail
      refine (knows_yes _).mono ?_
      rintro e wz ⟨rfl, hb⟩
      have HBZ := Lib.hid (HB2.out.trans (hb.mono HB2.out.size))
      clear hb
      go_wp2
      go_ret
      exact ⟨rfl, HB.out.trans (HBZ.out.mono HB.out.size)⟩
    | false =>
    have e1 : (x.gi == 0) = true := by simpa using h1
    rw [if_neg (by rw [h1]; exact Bool.false_ne_true)] at HO
    cases h2 : (kd == 6) with
    | true =>
      rw [if_pos h2] at HO
      have e2 : (kd != 6) = false := by simpa using h2
      cases h3 : (x.ci != 0) with
      | true =>
        have e3 : (x.ci == 0) = false := by simpa using h3
        go_enter Try.func5, Try.ntmps5
        go_upto_region 1 with fail
        rw [← hw0]
        clear hw0
        obtain ⟨⟨m0, m1, m2, m3, m4, m5, m6⟩, m7, m8, m9, m10, m11, m12⟩ := celM_all HM0.out
        go_wp2_with fail
        refine HG.out.mono ?_
        rintro e w1 ⟨rfl, hb⟩
        have HB1 := Lib.hid hb
        have HM1 := Lib.hid (HM0.out.below hb HM0.out.lt)
        clear hb m0 m1 m2 m3 m4 m5 m6 m7 m8 m9 m10 m11 m12
        obtain ⟨⟨m0, m1, m2, m3, m4, m5, m6⟩, m7, m8, m9, m10, m11, m12⟩ := celM_all HM1.out
        go_wp2_with fail
        refine (HO.out _).mono ?_
        rintro e wv ⟨rfl, hb⟩
        rw [dsC]
        have HBv := Lib.hid (HB1.out.trans (hb.mono HB1.out.size))
        have HMv := Lib.hid (HM1.out.below hb HM1.out.lt)
        clear hb m0 m1 m2 m3 m4 m5 m6 m7 m8 m9 m10 m11 m12
        obtain ⟨w2, hw2⟩ : ∃ w2, w2 = wv.alloc (.cells #[.int .i64 4294967295, .int .i64 68, .bool false] 29) := ⟨_, rfl⟩
        have hb : Below wv.heap.size wv w2 := by rw [hw2]; exact alloc_more _ _
        have HD2 := Lib.hid (show Cel w2 wv.heap.size 29 #[.int .i64 4294967295, .int .i64 68, .bool false] by rw [hw2]; exact Cel.born _ _ _)
        have HB2 := Lib.hid (HBv.out.trans (hb.mono HBv.out.size))
        have HM2 := Lib.hid (HMv.out.below hb HMv.out.lt)
        clear hb HBv HMv
        go_upto_region 4 with fail
        rw [← hw2]
        clear hw2
        obtain ⟨p0, p1, p2⟩ := celK3 HD2.out
        obtain ⟨⟨m0, m1, m2, m3, m4, m5, m6⟩, m7, m8, m9, m10, m11, m12⟩ := celM_all HM2.out
        go_wp2_with fail
        refine (knows_yes _).mono ?_
        rintro e wz ⟨rfl, hb⟩
        have HBZ := Lib.hid (HB2.out.trans (hb.mono HB2.out.size))
        clear hb
        go_wp2
        go_ret
        exact ⟨rfl, HB.out.trans (HBZ.out.mono HB.out.size)⟩
      | false =>
        have e3 : (x.ci == 0) = true := by simpa using h3
        go_enter Try.func5, Try.ntmps5
        go_upto_region 1 with fail
        rw [← hw0]
        clear hw0
        obtain ⟨⟨m0, m1, m2, m3, m4, m5, m6⟩, m7, m8, m9, m10, m11, m12⟩ := celM_all HM0.out
        go_wp2_with fail
        refine HG.out.mono ?_
        rintro e w1 ⟨rfl, hb⟩
        have HB1 := Lib.hid hb
        have HM1 := Lib.hid (HM0.out.below hb HM0.out.lt)
        clear hb m0 m1 m2 m3 m4 m5 m6 m7 m8 m9 m10 m11 m12
        obtain ⟨⟨m0, m1, m2, m3, m4, m5, m6⟩, m7, m8, m9, m10, m11, m12⟩ := celM_all HM1.out
        go_wp2_with fail
        refine (HO.out _).mono ?_
        rintro e wv ⟨rfl, hb⟩
        rw [dsC]
        have HBv := Lib.hid (HB1.out.trans (hb.mono HB1.out.size))
        have HMv := Lib.hid (HM1.out.below hb HM1.out.lt)
        clear hb m0 m1 m2 m3 m4 m5 m6 m7 m8 m9 m10 m11 m12
        obtain ⟨w2, hw2⟩ : ∃ w2, w2 = wv.alloc (.cells #[.int .i64 4294967295, .int .i64 68, .bool false] 29) := ⟨_, rfl⟩
        have hb : Below wv.heap.size wv w2 := by rw [hw2]; exact alloc_more _ _
        have HD2 := Lib.hid (show Cel w2 wv.heap.size 29 #[.int .i64 4294967295, .int .i64 68, .bool false] by rw [hw2]; exact Cel.born _ _ _)
        have HB2 := Lib.hid (HBv.out.trans (hb.mono HBv.out.size))
        have HM2 := Lib.hid (HMv.out.below hb HMv.out.lt)
        clear hb HBv HMv
        go_upto_region 4 with fail
        rw [← hw2]
        clear hw2
        obtain ⟨p0, p1, p2⟩ := celK3 HD2.out
        obtain ⟨⟨m0, m1, m2, m3, m4, m5, m6⟩, m7, m8, m9, m10, m11, m12⟩ := celM_all HM2.out
        go_wp2_with fail
        refine (knows_yes _).mono ?_
        rintro e wz ⟨rfl, hb⟩
        have HBZ := Lib.hid (HB2.out.trans (hb.mono HB2.out.size))
        clear hb
        go_wp2
        go_ret
        exact ⟨rfl, HB.out.trans (HBZ.out.mono HB.out.size)⟩
    | false =>
    have e2 : (kd != 6) = true := by simpa using h2
    rw [if_neg (by rw [h2]; exact Bool.false_ne_true)] at HO
    cases h3 : (x.ci != 0) with
    | true =>
      rw [if_pos h3] at HO
      have e3 : (x.ci == 0) = false := by simpa using h3
      go_enter Try.func5, Try.ntmps5
      go_upto_region 1 with fail
      rw [← hw0]
      clear hw0
      obtain ⟨⟨m0, m1, m2, m3, m4, m5, m6⟩, m7, m8, m9, m10, m11, m12⟩ := celM_all HM0.out
      go_wp2_with fail
      refine HG.out.mono ?_
      rintro e w1 ⟨rfl, hb⟩
      have HB1 := Lib.hid hb
      have HM1 := Lib.hid (HM0.out.below hb HM0.out.lt)
      clear hb m0 m1 m2 m3 m4 m5 m6 m7 m8 m9 m10 m11 m12
      obtain ⟨⟨m0, m1, m2, m3, m4, m5, m6⟩, m7, m8, m9, m10, m11, m12⟩ := celM_all HM1.out
      go_wp2_with fail
      refine (HO.out _).mono ?_
      rintro e wv ⟨rfl, hb⟩
      rw [dsC]
      have HBv := Lib.hid (HB1.out.trans (hb.mono HB1.out.size))
      have HMv := Lib.hid (HM1.out.below hb HM1.out.lt)
      clear hb m0 m1 m2 m3 m4 m5 m6 m7 m8 m9 m10 m11 m12
      obtain ⟨w2, hw2⟩ : ∃ w2, w2 = wv.alloc (.cells #[.int .i64 x.ci, .int .i64 68, .bool false] 29) := ⟨_, rfl⟩
      have hb : Below wv.heap.size wv w2 := by rw [hw2]; exact alloc_more _ _
      have HD2 := Lib.hid (show Cel w2 wv.heap.size 29 #[.int .i64 x.ci, .int .i64 68, .bool false] by rw [hw2]; exact Cel.born _ _ _)
      have HB2 := Lib.hid (HBv.out.trans (hb.mono HBv.out.size))
      have HM2 := Lib.hid (HMv.out.below hb HMv.out.lt)
      clear hb HBv HMv
      go_upto_region 4 with fail
      rw [← hw2]
      clear hw2
      obtain ⟨p0, p1, p2⟩ := celK3 HD2.out
      obtain ⟨⟨m0, m1, m2, m3, m4, m5, m6⟩, m7, m8, m9, m10, m11, m12⟩ := celM_all HM2.out
      go_wp2_with fail
      refine (knows_yes _).mono ?_
      rintro e wz ⟨rfl, hb⟩
      have HBZ := Lib.hid (HB2.out.trans (hb.mono HB2.out.size))
      clear hb
      go_wp2
      go_ret
      exact ⟨rfl, HB.out.trans (HBZ.out.mono HB.out.size)⟩
    | false =>
    have e3 : (x.ci == 0) = true := by simpa using h3
    rw [if_neg (by rw [h3]; exact Bool.false_ne_true)] at HO
    rcases bcast_cases x.flags with ⟨hf, h5, h6⟩ | ⟨hf, h5⟩ | ⟨hf, h5, h6⟩
    · rw [if_pos hf] at HO
      clear hf
      go_enter Try.func5, Try.ntmps5
      go_upto_region 1 with fail
      rw [← hw0]
      clear hw0
      obtain ⟨⟨m0, m1, m2, m3, m4, m5, m6⟩, m7, m8, m9, m10, m11, m12⟩ := celM_all HM0.out
      go_wp2_with fail
      refine HG.out.mono ?_
      rintro e w1 ⟨rfl, hb⟩
      have HB1 := Lib.hid hb
      have HM1 := Lib.hid (HM0.out.below hb HM0.out.lt)
      clear hb m0 m1 m2 m3 m4 m5 m6 m7 m8 m9 m10 m11 m12
      obtain ⟨⟨m0, m1, m2, m3, m4, m5, m6⟩, m7, m8, m9, m10, m11, m12⟩ := celM_all HM1.out
      go_wp2_with fail
      refine (HO.out _).mono ?_
      rintro e wv ⟨rfl, hb⟩
      rw [dsC]
      have HBv := Lib.hid (HB1.out.trans (hb.mono HB1.out.size))
      have HMv := Lib.hid (HM1.out.below hb HM1.out.lt)
      clear hb m0 m1 m2 m3 m4 m5 m6 m7 m8 m9 m10 m11 m12
      obtain ⟨w2, hw2⟩ : ∃ w2, w2 = wv.alloc (.cells #[.int .i64 4294967295, .int .i64 68, .bool false] 29) := ⟨_, rfl⟩
      have hb : Below wv.heap.size wv w2 := by rw [hw2]; exact alloc_more _ _
      have HD2 := Lib.hid (show Cel w2 wv.heap.size 29 #[.int .i64 4294967295, .int .i64 68, .bool false] by rw [hw2]; exact Cel.born _ _ _)
      have HB2 := Lib.hid (HBv.out.trans (hb.mono HBv.out.size))
      have HM2 := Lib.hid (HMv.out.below hb HMv.out.lt)
      clear hb HBv HMv
      go_upto_region 4 with fail
      rw [← hw2]
      clear hw2
      obtain ⟨p0, p1, p2⟩ := celK3 HD2.out
      obtain ⟨⟨m0, m1, m2, m3, m4, m5, m6⟩, m7, m8, m9, m10, m11, m12⟩ := celM_all HM2.out
      go_wp2_with fail
      refine (knows_yes _).mono ?_
      rintro e wz ⟨rfl, hb⟩
      have HBZ := Lib.hid (HB2.out.trans (hb.mono HB2.out.size))
      clear hb
      go_wp2
      go_ret
      exact ⟨rfl, HB.out.trans (HBZ.out.mono HB.out.size)⟩
    · rw [if_neg (by rw [hf]; exact Bool.false_ne_true)] at HO
      have h7 : decide (x.flags < 32768) = true := by simp only [decide_eq_false_iff_not, decide_eq_true_eq] at h5 ⊢; omega
      clear hf
      go_enter Try.func5, Try.ntmps5
      go_upto_region 1 with fail
      rw [← hw0]
      clear hw0
      obtain ⟨⟨m0, m1, m2, m3, m4, m5, m6⟩, m7, m8, m9, m10, m11, m12⟩ := celM_all HM0.out
      go_wp2_with fail
      refine HG.out.mono ?_
      rintro e w1 ⟨rfl, hb⟩
      have HB1 := Lib.hid hb
      have HM1 := Lib.hid (HM0.out.below hb HM0.out.lt)
      clear hb m0 m1 m2 m3 m4 m5 m6 m7 m8 m9 m10 m11 m12
      obtain ⟨⟨m0, m1, m2, m3, m4, m5, m6⟩, m7, m8, m9, m10, m11, m12⟩ := celM_all HM1.out
      go_wp2_with fail
      refine (HO.out _).mono ?_
      rintro e wv ⟨rfl, hb⟩
      rw [dsC]
      have HBv := Lib.hid (HB1.out.trans (hb.mono HB1.out.size))
      have HMv := Lib.hid (HM1.out.below hb HM1.out.lt)
      clear hb m0 m1 m2 m3 m4 m5 m6 m7 m8 m9 m10 m11 m12
      obtain ⟨w2, hw2⟩ : ∃ w2, w2 = wv.alloc (.cells #[.int .i64 yi, .int .i64 68, .bool true] 29) := ⟨_, rfl⟩
      have hb : Below wv.heap.size wv w2 := by rw [hw2]; exact alloc_more _ _
      have HD2 := Lib.hid (show Cel w2 wv.heap.size 29 #[.int .i64 yi, .int .i64 68, .bool true] by rw [hw2]; exact Cel.born _ _ _)
      have HB2 := Lib.hid (HBv.out.trans (hb.mono HBv.out.size))
      have HM2 := Lib.hid (HMv.out.below hb HMv.out.lt)
      clear hb HBv HMv
      go_upto_region 4 with fail
      rw [← hw2]
      clear hw2
      obtain ⟨p0, p1, p2⟩ := celK3 HD2.out
      obtain ⟨⟨m0, m1, m2, m3, m4, m5, m6⟩, m7, m8, m9, m10, m11, m12⟩ := celM_all HM2.out
      go_wp2_with fail
      refine (knows_yes _).mono ?_
      rintro e wz ⟨rfl, hb⟩
      have HBZ := Lib.hid (HB2.out.trans (hb.mono HB2.out.size))
      clear hb
      go_wp2
      go_ret
      exact ⟨rfl, HB.out.trans (HBZ.out.mono HB.out.size)⟩
    · rw [if_neg (by rw [hf]; exact Bool.false_ne_true)] at HO
      have h7 : decide (x.flags < 32768) = false := by simp only [decide_eq_false_iff_not, decide_eq_true_eq] at h5 ⊢; omega
      have h8 : decide (x.flags > 65535) = true := by simp only [decide_eq_false_iff_not, decide_eq_true_eq] at h6 ⊢; omega
      clear hf
      go_enter Try.func5, Try.ntmps5
      go_upto_region 1 with fail
      rw [← hw0]
      clear hw0
      obtain ⟨⟨m0, m1, m2, m3, m4, m5, m6⟩, m7, m8, m9, m10, m11, m12⟩ := celM_all HM0.out
      go_wp2_with fail
      refine HG.out.mono ?_
      rintro e w1 ⟨rfl, hb⟩
      have HB1 := Lib.hid hb
      have HM1 := Lib.hid (HM0.out.below hb HM0.out.lt)
      clear hb m0 m1 m2 m3 m4 m5 m6 m7 m8 m9 m10 m11 m12
      obtain ⟨⟨m0, m1, m2, m3, m4, m5, m6⟩, m7, m8, m9, m10, m11, m12⟩ := celM_all HM1.out
      go_wp2_with fail
      refine (HO.out _).mono ?_
      rintro e wv ⟨rfl, hb⟩
      rw [dsC]
      have HBv := Lib.hid (HB1.out.trans (hb.mono HB1.out.size))
      have HMv := Lib.hid (HM1.out.below hb HM1.out.lt)
      clear hb m0 m1 m2 m3 m4 m5 m6 m7 m8 m9 m10 m11 m12
      obtain ⟨w2, hw2⟩ : ∃ w2, w2 = wv.alloc (.cells #[.int .i64 yi, .int .i64 68, .bool true] 29) := ⟨_, rfl⟩
      have hb : Below wv.heap.size wv w2 := by rw [hw2]; exact alloc_more _ _
      have HD2 := Lib.hid (show Cel w2 wv.heap.size 29 #[.int .i64 yi, .int .i64 68, .bool true] by rw [hw2]; exact Cel.born _ _ _)
      have HB2 := Lib.hid (HBv.out.trans (hb.mono HBv.out.size))
      have HM2 := Lib.hid (HMv.out.below hb HMv.out.lt)
      clear hb HBv HMv
      go_upto_region 4 with fail
      rw [← hw2]
      clear hw2
      obtain ⟨p0, p1, p2⟩ := celK3 HD2.out
      obtain ⟨⟨m0, m1, m2, m3, m4, m5, m6⟩, m7, m8, m9, m10, m11, m12⟩ := celM_all HM2.out
      go_wp2_with fail
      refine (knows_yes _).mono ?_
      rintro e wz ⟨rfl, hb⟩
      have HBZ := Lib.hid (HB2.out.trans (hb.mono HB2.out.size))
      clear hb
      go_wp2
      go_ret
      exact ⟨rfl, HB.out.trans (HBZ.out.mono HB.out.size)⟩
end Go.Proofs.Ytoobijefjljnjaa
