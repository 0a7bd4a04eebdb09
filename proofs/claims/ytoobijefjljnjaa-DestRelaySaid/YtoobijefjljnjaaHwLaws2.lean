/- The walk of DestRelay: it returns true, and what was in memory stays. For all inputs. -/
import Derived.Test.YtoobijefjljnjaaHwKnows
import Derived.Test.YtoobijefjljnjaaMwRef1
set_option maxRecDepth 8000
namespace Go.Proofs.Ytoobijefjljnjaa
open Go.RowKit Go.ChangeMaps Tl Co Ms By Cl Hw
open Pw (boxM celM_all alloc_more small_ms)

set_option maxHeartbeats 16000000 in
theorem destRelay_walk (x : Mv) (kd yi ot : Int) (w : World) (h : x.ok w) : Calls Try.prog 4 #[x.v, .int .i64 kd, .int .i64 yi, .int .i64 ot] w (isTrue w) := by
  obtain ⟨w0, hw0, hc0, hb0, hz⟩ := boxM w x 25
  have HG := Lib.hid (Mw.great_msg x w0 (h.below hb0))
  have HB := Lib.hid hb0
  have HM0 := Lib.hid hc0
  clear hc0 hb0 h hz
  cases hg : Mw.greatM x.mm with
  | true =>
    rw [hg] at HG
    clear hg
    go_enter Try.func4, Try.ntmps4
    go_upto_region 1 with fail
    rw [← hw0]
    clear hw0
    obtain ⟨⟨m0, m1, m2, m3, m4, m5, m6⟩, m7, m8, m9, m10, m11, m12⟩ := celM_all HM0.out
    go_wp2_with fail
    refine HG.out.mono ?_
    rintro e w1 ⟨rfl, hb⟩
    have HB1 := Lib.hid hb
    have HM1 := Lib.hid (HM0.out.below hb HM0.out.lt)
    clear hb m0 m1 m2 m3 m4 m5 m6 m7 m8 m9 m10 m11 m12
    go_wp2_with fail
    refine (knows_yes _).mono ?_
    rintro e wz ⟨rfl, hb⟩
    have HBZ := Lib.hid (HB1.out.trans (hb.mono HB1.out.size))
    clear hb
    go_wp2
    go_ret
    exact ⟨rfl, HB.out.trans (HBZ.out.mono HB.out.size)⟩
  | false =>
    rw [hg] at HG
    clear hg
    cases hi : (x.gi == 0) with
    | true =>
      go_enter Try.func4, Try.ntmps4
      go_upto_region 1 with fail
      rw [← hw0]
      clear hw0
      obtain ⟨⟨m0, m1, m2, m3, m4, m5, m6⟩, m7, m8, m9, m10, m11, m12⟩ := celM_all HM0.out
      go_wp2_with fail
      refine HG.out.mono ?_
      rintro e w1 ⟨rfl, hb⟩
      have HB1 := Lib.hid hb
      have HM1 := Lib.hid (HM0.out.below hb HM0.out.lt)
      clear hb m0 m1 m2 m3 m4 m5 m6 m7 m8 m9 m10 m11 m12
      obtain ⟨⟨m0, m1, m2, m3, m4, m5, m6⟩, m7, m8, m9, m10, m11, m12⟩ := celM_all HM1.out
      go_wp2_with fail
      refine (knows_yes _).mono ?_
      rintro e wz ⟨rfl, hb⟩
      have HBZ := Lib.hid (HB1.out.trans (hb.mono HB1.out.size))
      clear hb
      go_wp2
      go_ret
      exact ⟨rfl, HB.out.trans (HBZ.out.mono HB.out.size)⟩
    | false =>
      have hn : x.gi ≠ 0 := by simpa using hi
      have HO := Lib.hid (of_any x kd yi)
      have HP := Lib.hid (of_any (mv 0 x.gi) ot kd)
      rw [dest_relay (m := x.mm) hn] at HO
      rw [dest_relay (m := (mv 0 x.gi).mm) hn] at HP
      have HQ := Lib.hid (fun W => deq_self x.gi 67 false W)
      rw [show (mv 0 x.gi).mm.gi = x.gi from rfl] at HP
      rw [show x.mm.gi = x.gi from rfl] at HO
      clear hn
      go_enter Try.func4, Try.ntmps4
      go_upto_region 1 with fail
      rw [← hw0]
      clear hw0
      obtain ⟨⟨m0, m1, m2, m3, m4, m5, m6⟩, m7, m8, m9, m10, m11, m12⟩ := celM_all HM0.out
      go_wp2_with fail
      refine HG.out.mono ?_
      rintro e w1 ⟨rfl, hb⟩
      have HB1 := Lib.hid hb
      have HM1 := Lib.hid (HM0.out.below hb HM0.out.lt)
      clear hb m0 m1 m2 m3 m4 m5 m6 m7 m8 m9 m10 m11 m12
      obtain ⟨⟨m0, m1, m2, m3, m4, m5, m6⟩, m7, m8, m9, m10, m11, m12⟩ := celM_all HM1.out
      go_wp2_with fail
      refine (HO.out _).mono ?_
      rintro e wv ⟨rfl, hb⟩
      rw [dsC]
      have HBv := Lib.hid (HB1.out.trans (hb.mono HB1.out.size))
      have HMv := Lib.hid (HM1.out.below hb HM1.out.lt)
      clear hb m0 m1 m2 m3 m4 m5 m6 m7 m8 m9 m10 m11 m12
      obtain ⟨w2, hw2⟩ : ∃ w2, w2 = wv.alloc (.cells #[.int .i64 x.gi, .int .i64 67, .bool false] 29) := ⟨_, rfl⟩
      have hb : Below wv.heap.size wv w2 := by rw [hw2]; exact alloc_more _ _
      have HD2 := Lib.hid (show Cel w2 wv.heap.size 29 #[.int .i64 x.gi, .int .i64 67, .bool false] by rw [hw2]; exact Cel.born _ _ _)
      have HB2 := Lib.hid (HBv.out.trans (hb.mono HBv.out.size))
      have HM2 := Lib.hid (HMv.out.below hb HMv.out.lt)
      clear hb HBv HMv
      go_upto_region 4 with fail
      rw [← hw2]
      clear hw2
      obtain ⟨⟨m0, m1, m2, m3, m4, m5, m6⟩, m7, m8, m9, m10, m11, m12⟩ := celM_all HM2.out
      go_wp2_with fail
      refine (HP.out _).mono ?_
      rintro e wv ⟨rfl, hb⟩
      rw [dsC]
      have HBv := Lib.hid (HB2.out.trans (hb.mono HB2.out.size))
      have HMv := Lib.hid (HM2.out.below hb HM2.out.lt)
      have HEv := Lib.hid (HD2.out.below hb HD2.out.lt)
      clear hb m0 m1 m2 m3 m4 m5 m6 m7 m8 m9 m10 m11 m12
      obtain ⟨w4, hw4⟩ : ∃ w4, w4 = wv.alloc (.cells #[.int .i64 x.gi, .int .i64 67, .bool false] 29) := ⟨_, rfl⟩
      have hb : Below wv.heap.size wv w4 := by rw [hw4]; exact alloc_more _ _
      have HD4 := Lib.hid (show Cel w4 wv.heap.size 29 #[.int .i64 x.gi, .int .i64 67, .bool false] by rw [hw4]; exact Cel.born _ _ _)
      have HB4 := Lib.hid (HBv.out.trans (hb.mono HBv.out.size))
      have HM4 := Lib.hid (HMv.out.below hb HMv.out.lt)
      have HE4 := Lib.hid (HEv.out.below hb HEv.out.lt)
      clear hb
      go_upto_region 5 with fail
      rw [← hw4]
      clear hw4
      obtain ⟨p0, p1, p2⟩ := celK3 HD4.out
      obtain ⟨q0, q1, q2⟩ := celK3 HE4.out
      have Q := HQ.out
      obtain ⟨⟨m0, m1, m2, m3, m4, m5, m6⟩, m7, m8, m9, m10, m11, m12⟩ := celM_all HM4.out
      go_wp2_with fail
      refine (knows_yes _).mono ?_
      rintro e wz ⟨rfl, hb⟩
      have HBZ := Lib.hid (HB4.out.trans (hb.mono HB4.out.size))
      clear hb
      go_wp2
      go_ret
      exact ⟨rfl, HB.out.trans (HBZ.out.mono HB.out.size)⟩
end Go.Proofs.Ytoobijefjljnjaa
