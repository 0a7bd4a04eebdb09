/- The walk of ReplyEchoes: it returns true, and what was in memory stays. Condition: the configuration and the message read. -/
import Derived.Test.YtabjcgchcnnjjaaRpGrt
set_option maxRecDepth 8000
namespace Go.Proofs.Ytabjcgchcnnjjaa
open Go.RowKit Tl Co Ms Cf Ad By Ow Rp Rpw
open Pw (alloc_more celM_all boxM small_ms)
open Vw (Cx Sx cel3C atN atS Seven snsOf sns_len sns_get nets_len nets_get)
open Mw (set13 cels13)

set_option maxHeartbeats 16000000 in
theorem replyEchoes_walk (c : Cx) (net sub : Int) (x : Mv) (kind yi : Int) (w : World) (hc : c.ok w.heap.size w) (hx : x.ok w) : Calls Try.prog 3 #[c.v, .int .i64 net, .int .i64 sub, x.v, .int .i64 kind, .int .i64 yi] w (isTrue w) := by
  obtain ⟨w0, hw0, hc0, hm0, hb0, hs0⟩ := boxK2 w c x
  have HGR := Lib.hid (great_any c x w.heap.size w0 (hc.below hb0) hb0.size (hx.below hb0))
  have HC0 := Lib.hid hc0
  have HM0 := Lib.hid hm0
  have HB0 := Lib.hid hb0
  have HCO := Lib.hid (fun W (hW : Below w.heap.size w W) => hc.below hW)
  have HXO := Lib.hid (fun W (hW : Below w.heap.size w W) => hx.below hW)
  obtain ⟨c0, c1, c2⟩ := cel3C hc0
  obtain ⟨⟨m0, m1, m2, m3, m4, m5, m6⟩, m7, m8, m9, m10, m11, m12⟩ := celM_all hm0
  clear hc hx hc0 hm0 hb0 hs0
  cases hg : greatR c x with
  | true =>
    rw [hg] at HGR
    clear hg
    go_enter Try.func3, Try.ntmps3
    go_upto_region 1 with fail
    rw [← hw0]
    clear hw0
    go_wp2_with fail
    refine HGR.out.mono ?_
    rintro e w1 ⟨rfl, hb1⟩
    have HB1 := Lib.hid (tr HB0.out hb1)
    clear hb1 c0 c1 c2 m0 m1 m2 m3 m4 m5 m6 m7 m8 m9 m10 m11 m12
    go_wp2_with fail
    refine (Rpw.knows_yes _).mono ?_
    rintro e wz ⟨rfl, hbz⟩
    go_wp2
    go_ret
    exact ⟨rfl, tr HB1.out hbz⟩
  | false =>
  rw [hg] at HGR
  obtain ⟨hg1, hg2⟩ := great_no hg
  have HSM := Lib.hid (small_ms hg1)
  have HS := Lib.hid (small_iff.1 hg2)
  clear hg hg1 hg2
  go_enter Try.func3, Try.ntmps3
  go_upto_region 1 with fail
  rw [← hw0]
  clear hw0
  go_wp2_with fail
  refine HGR.out.mono ?_
  rintro e w1 ⟨rfl, hb1⟩
  have HB1 := Lib.hid (tr HB0.out hb1)
  have HC1 := Lib.hid (HC0.out.below hb1 HC0.out.lt)
  have HM1 := Lib.hid (HM0.out.below hb1 HM0.out.lt)
  clear hb1 HGR HC0 HM0 c0 c1 c2 m0 m1 m2 m3 m4 m5 m6 m7 m8 m9 m10 m11 m12
  obtain ⟨c0, c1, c2⟩ := cel3C HC1.out
  obtain ⟨⟨m0, m1, m2, m3, m4, m5, m6⟩, m7, m8, m9, m10, m11, m12⟩ := celM_all HM1.out
  go_wp2_with fail
  refine (make_any c net sub x kind yi w.heap.size w1 (HCO.out _ HB1.out) HB1.out.size HS.out (HXO.out _ HB1.out) HSM.out).mono ?_
  rintro e w2 ⟨hb2, hJ⟩
  have HB2 := Lib.hid (tr HB1.out hb2)
  have HC2 := Lib.hid (HC1.out.below hb2 HC1.out.lt)
  have HM2 := Lib.hid (HM1.out.below hb2 HM1.out.lt)
  clear hb2 HC1 HM1 c0 c1 c2 m0 m1 m2 m3 m4 m5 m6 m7 m8 m9 m10 m11 m12
  rcases hJ with ⟨hfair, y, rfl, hmo, hym⟩ | ⟨hfair, he⟩
  rotate_left
  · have HFR := Lib.hid hfair
    clear hfair
    obtain rfl : e = .returned (.tuple #[.agg zc13, .int .i64 1]) := he
    have hbz3 := alloc_more w2 (.cells zc13 28)
    obtain ⟨w3, hw3⟩ : ∃ w3, w3 = w2.alloc (.cells zc13 28) := ⟨_, rfl⟩
    rw [← hw3] at hbz3
    have HB3 := Lib.hid (tr HB2.out hbz3)
    have HZ3 := Lib.hid (show Cel w3 w2.heap.size 28 zc13 by rw [hw3]; exact Cel.born _ _ _)
    clear hbz3
    go_upto_region 4 with fail
    rw [← hw3]
    clear hw3
    go_wp2_with fail
    refine (Rpw.knows_yes _).mono ?_
    rintro e wz ⟨rfl, hbz⟩
    go_wp2
    go_ret
    exact ⟨rfl, tr HB3.out hbz⟩
  · have HFR := Lib.hid hfair
    have HYM := Lib.hid hym
    have hbz3 := alloc_more w2 (.cells y.cells 28)
    obtain ⟨w3, hw3⟩ : ∃ w3, w3 = w2.alloc (.cells y.cells 28) := ⟨_, rfl⟩
    rw [← hw3] at hbz3
    have HB3 := Lib.hid (tr HB2.out hbz3)
    have HY3 := Lib.hid (show Cel w3 w2.heap.size 28 y.cells by rw [hw3]; exact Cel.born _ _ _)
    have HC3 := Lib.hid (HC2.out.below hbz3 HC2.out.lt)
    have HM3 := Lib.hid (HM2.out.below hbz3 HM2.out.lt)
    have HYO := Lib.hid (hmo.ok.below hbz3)
    clear hfair hym hmo hbz3 HC2 HM2
    go_upto_region 4 with fail
    rw [← hw3]
    clear hw3
    have E1 : y.xid = x.xid := congrArg M.xid HYM.out
    have E2 : y.gi = x.gi := congrArg M.gi HYM.out
    have E3 : y.ch = x.ch := congrArg M.ch HYM.out
    have EO := made_os HYM.out
    have F1 := Lib.hid (Tw.refFind_any x.B x.m x.d x.ps 61 w3 (HXO.out _ HB3.out).os)
    have F2 := Lib.hid (Tw.refFind_any y.B y.m y.d y.ps 61 w3 HYO.out.os)
    have F3 := Lib.hid (Tw.refFind_any x.B x.m x.d x.ps 82 w3 (HXO.out _ HB3.out).os)
    have F4 := Lib.hid (Tw.refFind_any y.B y.m y.d y.ps 82 w3 HYO.out.os)
    rw [EO, find_61] at F2
    rw [EO, find_82] at F4
    generalize findL (osP x.ps) 61 = r1 at F1 F2
    generalize findL (osP x.ps) 82 = r2 at F3 F4
    have hx3 := (HXO.out _ HB3.out).ch
    have hy3 := HYO.out.ch
    rw [E3] at hy3
    have cv1 : (convert 25 9 (.slice x.A x.n x.c)).run Try.prog w3 = .ok (.string ⟨x.ch.toArray⟩) w3 := byP.str hx3
    have cv2 : (convert 25 9 (.slice y.A y.n y.c)).run Try.prog w3 = .ok (.string ⟨x.ch.toArray⟩) w3 := byP.str hy3
    generalize x.ch = ch at cv1 cv2
    obtain ⟨⟨m0, m1, m2, m3, m4, m5, m6⟩, m7, m8, m9, m10, m11, m12⟩ := celM_all HM3.out
    obtain ⟨⟨y0, y1, y2, y3, y4, y5, y6⟩, y7, y8, y9, y10, y11, y12⟩ := celM_all HY3.out
    rw [E1] at y4
    rw [E2] at y10
    clear E1 E2 E3 EO hx3 hy3 y0 y1 y2 y3 y5 y6 y7 y8 y9 m0 m1 m2 m3 m5 m6 m7 m8 m9
    go_wp2_with fail
    refine F1.out.mono ?_
    rintro e w4 ⟨A1, n1, k1, rfl, hbs1, rfl⟩
    have d1 : (convert 25 9 (.slice A1 n1 k1)).run Try.prog w3 = .ok (.string ⟨(r1.getD []).toArray⟩) w3 := byP.str hbs1
    clear hbs1
    go_wp2_with fail
    refine F2.out.mono ?_
    rintro e w4 ⟨A2, n2, k2, rfl, hbs2, rfl⟩
    have d2 : (convert 25 9 (.slice A2 n2 k2)).run Try.prog w3 = .ok (.string ⟨(r1.getD []).toArray⟩) w3 := byP.str hbs2
    generalize r1.getD [] = l1 at d1 d2
    generalize r1.isSome = b1
    clear hbs2
    go_wp2_with fail
    refine F3.out.mono ?_
    rintro e w4 ⟨A3, n3, k3, rfl, hbs3, rfl⟩
    have d3 : (convert 25 9 (.slice A3 n3 k3)).run Try.prog w3 = .ok (.string ⟨(r2.getD []).toArray⟩) w3 := byP.str hbs3
    clear hbs3
    go_wp2_with fail
    refine F4.out.mono ?_
    rintro e w4 ⟨A4, n4, k4, rfl, hbs4, rfl⟩
    have d4 : (convert 25 9 (.slice A4 n4 k4)).run Try.prog w3 = .ok (.string ⟨(r2.getD []).toArray⟩) w3 := byP.str hbs4
    generalize r2.getD [] = l2 at d3 d4
    generalize r2.isSome = b2
    clear hbs4
    go_wp2_with fail
    refine (Rpw.knows_yes _).mono ?_
    rintro e wz ⟨rfl, hbz⟩
    go_wp2
    go_ret
    exact ⟨rfl, tr HB3.out hbz⟩
end Go.Proofs.Ytabjcgchcnnjjaa
