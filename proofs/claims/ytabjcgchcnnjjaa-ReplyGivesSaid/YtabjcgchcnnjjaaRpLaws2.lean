/- The walk of ReplyGives: it returns true, and what was in memory stays. Condition: the configuration and the message read. -/
import Derived.Test.YtabjcgchcnnjjaaRpGrt
set_option maxRecDepth 8000
namespace Go.Proofs.Ytabjcgchcnnjjaa
open Go.RowKit Tl Co Ms Cf Ad By Ow Rp Rpw
open Pw (alloc_more celM_all boxM small_ms)
open Vw (Cx Sx cel3C atN atS Seven snsOf sns_len sns_get nets_len nets_get)
open Mw (set13 cels13)

set_option maxHeartbeats 16000000 in
theorem replyGives_walk (c : Cx) (net sub : Int) (x : Mv) (kind yi : Int) (w : World) (hc : c.ok w.heap.size w) (hx : x.ok w) : Calls Try.prog 4 #[c.v, .int .i64 net, .int .i64 sub, x.v, .int .i64 kind, .int .i64 yi] w (isTrue w) := by
  obtain ⟨w0, hw0, hc0, hm0, hb0, hs0⟩ := boxK2 w c x
  have HGR := Lib.hid (great_any c x w.heap.size w0 (hc.below hb0) hb0.size (hx.below hb0))
  have HC0 := Lib.hid hc0
  have HM0 := Lib.hid hm0
  have HB0 := Lib.hid hb0
  have HCO := Lib.hid (fun W (hW : Below w.heap.size w W) => hc.below hW)
  have HXO := Lib.hid (fun W (hW : Below w.heap.size w W) => hx.below hW)
  obtain ⟨c0, c1, c2⟩ := cel3C hc0
  obtain ⟨⟨m0, m1, m2, m3, m4, m5, m6⟩, m7, m8, m9, m10, m11, m12⟩ := celM_all hm0
  clear hc hx hc0 hm0 hb0 hs0
  cases hg : greatR c x with
  | true =>
    rw [hg] at HGR
    clear hg
    go_enter Try.func4, Try.ntmps4
    go_upto_region 1 with fail
    rw [← hw0]
    clear hw0
    go_wp2_with fail
    refine HGR.out.mono ?_
    rintro e w1 ⟨rfl, hb1⟩
    have HB1 := Lib.hid (tr HB0.out hb1)
    clear hb1 c0 c1 c2 m0 m1 m2 m3 m4 m5 m6 m7 m8 m9 m10 m11 m12
    go_wp2_with fail
    refine (Rpw.knows_yes _).mono ?_
    rintro e wz ⟨rfl, hbz⟩
    go_wp2
    go_ret
    exact ⟨rfl, tr HB1.out hbz⟩
  | false =>
  rw [hg] at HGR
  obtain ⟨hg1, hg2⟩ := great_no hg
  have HSM := Lib.hid (small_ms hg1)
  have HS := Lib.hid (small_iff.1 hg2)
  clear hg hg1 hg2
  go_enter Try.func4, Try.ntmps4
  go_upto_region 1 with fail
  rw [← hw0]
  clear hw0
  go_wp2_with fail
  refine HGR.out.mono ?_
  rintro e w1 ⟨rfl, hb1⟩
  have HB1 := Lib.hid (tr HB0.out hb1)
  have HC1 := Lib.hid (HC0.out.below hb1 HC0.out.lt)
  have HM1 := Lib.hid (HM0.out.below hb1 HM0.out.lt)
  clear hb1 HGR HC0 HM0 c0 c1 c2 m0 m1 m2 m3 m4 m5 m6 m7 m8 m9 m10 m11 m12
  obtain ⟨c0, c1, c2⟩ := cel3C HC1.out
  obtain ⟨⟨m0, m1, m2, m3, m4, m5, m6⟩, m7, m8, m9, m10, m11, m12⟩ := celM_all HM1.out
  go_wp2_with fail
  refine (make_any c net sub x kind yi w.heap.size w1 (HCO.out _ HB1.out) HB1.out.size HS.out (HXO.out _ HB1.out) HSM.out).mono ?_
  rintro e w2 ⟨hb2, hJ⟩
  have HB2 := Lib.hid (tr HB1.out hb2)
  have HC2 := Lib.hid (HC1.out.below hb2 HC1.out.lt)
  have HM2 := Lib.hid (HM1.out.below hb2 HM1.out.lt)
  clear hb2 HC1 HM1 c0 c1 c2 m0 m1 m2 m3 m4 m5 m6 m7 m8 m9 m10 m11 m12
  rcases hJ with ⟨hfair, y, rfl, hmo, hym⟩ | ⟨hfair, he⟩
  rotate_left
  · have HFR := Lib.hid hfair
    clear hfair
    obtain rfl : e = .returned (.tuple #[.agg zc13, .int .i64 1]) := he
    have hbz3 := alloc_more w2 (.cells zc13 28)
    obtain ⟨w3, hw3⟩ : ∃ w3, w3 = w2.alloc (.cells zc13 28) := ⟨_, rfl⟩
    rw [← hw3] at hbz3
    have HB3 := Lib.hid (tr HB2.out hbz3)
    have HZ3 := Lib.hid (show Cel w3 w2.heap.size 28 zc13 by rw [hw3]; exact Cel.born _ _ _)
    clear hbz3
    go_upto_region 4 with fail
    rw [← hw3]
    clear hw3
    go_wp2_with fail
    refine (Rpw.knows_yes _).mono ?_
    rintro e wz ⟨rfl, hbz⟩
    go_wp2
    go_ret
    exact ⟨rfl, tr HB3.out hbz⟩
  · have HFR := Lib.hid hfair
    have HYM := Lib.hid hym
    have hbz3 := alloc_more w2 (.cells y.cells 28)
    obtain ⟨w3, hw3⟩ : ∃ w3, w3 = w2.alloc (.cells y.cells 28) := ⟨_, rfl⟩
    rw [← hw3] at hbz3
    have HB3 := Lib.hid (tr HB2.out hbz3)
    have HY3 := Lib.hid (show Cel w3 w2.heap.size 28 y.cells by rw [hw3]; exact Cel.born _ _ _)
    have HC3 := Lib.hid (HC2.out.below hbz3 HC2.out.lt)
    have HM3 := Lib.hid (HM2.out.below hbz3 HM2.out.lt)
    have HYO := Lib.hid (hmo.ok.below hbz3)
    clear hfair hym hmo hbz3 HC2 HM2
    go_upto_region 4 with fail
    rw [← hw3]
    clear hw3
    obtain ⟨hsub, hrm, hry, hkd⟩ := fair_all HFR.out
    obtain ⟨_, ⟨hn0, hn1⟩, hs0, hs1⟩ := subB_iff.1 hsub
    obtain ⟨hsv, htm⟩ := sub_all hsub
    obtain ⟨i, rfl⟩ := Int.eq_ofNat_of_zero_le hn0
    obtain ⟨j, rfl⟩ := Int.eq_ofNat_of_zero_le hs0
    have hrd := Vw.Cx.ok.rd (HCO.out _ HB3.out)
    have hin : i < c.n := by have e := (HCO.out _ HB3.out).nets; omega
    have hcap := hrd.cap
    have hmax := hrd.max
    obtain ⟨b, o, nx, m, hA, hbU, hget, hrx, hcell⟩ := atN hrd hin
    have hcap2 := hrx.cap
    have hmax2 := hrx.max
    have hgn : c.cf.nets.getD i [] = snsOf nx.xs := by rw [List.getD_eq_getElem?_getD, show c.cf.nets[i]? = some (snsOf nx.xs) from nets_get hget.out]; rfl
    have hjm : j < m := by
      rw [Int.toNat_natCast, hgn, sns_len, hrx.len] at hs1
      omega
    obtain ⟨bs, os, s, pn, rn, hAs, hbs, hgs, _, _, _, hsev⟩ := atS hrx hjm
    have hat : subAt c.cf (i : Int) (j : Int) = s.s := by
      unfold subAt
      rw [Int.toNat_natCast, Int.toNat_natCast, hgn, List.getD_eq_getElem?_getD, sns_get hgs.out]
      rfl
    have HAT := Lib.hid hat
    have EO := made_os HYM.out
    have EYI : y.yi = if kind = 6 then 0 else yi := congrArg M.yi HYM.out
    obtain ⟨v54, hv54, hv54s⟩ := num_54 c.server (subAt c.cf (i : Int) (j : Int)) (osP x.ps) kind yi hsv
    have N54 := Lib.hid (fun W (hW : Below w3.heap.size w3 W) => refNumber_any y.B y.m y.d y.ps 54 W (HYO.out.below hW).os)
    have N51 := Lib.hid (fun W (hW : Below w3.heap.size w3 W) => refNumber_any y.B y.m y.d y.ps 51 W (HYO.out.below hW).os)
    have KK := Lib.hid (fun W (hW : Below w3.heap.size w3 W) => refKind_any y.B y.m y.d y.ps W (HYO.out.below hW).os)
    rw [EO] at N54 N51 KK
    rw [hv54] at N54
    rw [kind_53 c.server (subAt c.cf (i : Int) (j : Int)) (osP x.ps) yi hkd] at KK
    have HV54 := Lib.hid hv54s
    have HHC := Lib.hid (fun W (hW : Below w3.heap.size w3 W) => cel3C (HC3.out.below hW HC3.out.lt))
    have HHY := Lib.hid (fun W (hW : Below w3.heap.size w3 W) => celM_all (HY3.out.below hW HY3.out.lt))
    have hb3U : w.heap.size ≤ w3.heap.size := HB3.out.size
    have HN := Lib.hid (fun W (hW : Below w3.heap.size w3 W) => (hW.cell (p := ⟨b, o + i, none⟩) (by show b < w3.heap.size; omega)).trans hcell)
    have HT := Lib.hid (fun W (hW : Below w3.heap.size w3 W) => (hW.cell (p := ⟨bs, os + j * 7 + 6, none⟩) (by show bs < w3.heap.size; omega)).trans hsev.2.2.2.2.2.2)
    rw [hAs] at HN
    rw [hA] at HHC
    have HTM : Hid (rightB s.time = true) := by show _ = _; have e := htm; rw [hat] at e; exact e
    have HYI := Lib.hid hry
    clear hcell hsev hget hgs hrx hgn hat hv54 hv54s EO hsub hrm hry hsv htm hrd hA hAs hs1 hn1
    obtain ⟨c0, c1, c2⟩ := HHC.out w3 (Below.refl _ _)
    obtain ⟨⟨y0, y1, y2, y3, y4, y5, y6⟩, y7, y8, y9, y10, y11, y12⟩ := HHY.out w3 (Below.refl _ _)
    have hnn := HN.out w3 (Below.refl _ _)
    go_wp2_with fail
    refine (N54.out _ (Below.refl _ _)).mono ?_
    rintro e w4 ⟨rfl, hb4⟩
    have HB4 := Lib.hid hb4
    clear hb4 c0 c1 c2 y0 y1 y2 y3 y4 y5 y6 y7 y8 y9 y10 y11 y12 hnn
    obtain ⟨⟨y0, y1, y2, y3, y4, y5, y6⟩, y7, y8, y9, y10, y11, y12⟩ := HHY.out w4 HB4.out
    by_cases hgive : kind ≠ 6 ∧ 0 < yi
    rotate_left
    · have hyz : y.yi = 0 := by
        rw [EYI]
        split
        · rfl
        · have := (rightB_iff.1 HYI.out).1; omega
      rw [num_51_no c.server (subAt c.cf (i : Int) (j : Int)) (osP x.ps) kind yi hgive] at N51
      have HNG := Lib.hid hgive
      have HYI2 : Hid (0 ≤ yi) := (rightB_iff.1 HYI.out).1
      clear EYI hgive
      go_wp2_with fail
      refine (N51.out _ HB4.out).mono ?_
      rintro e w5 ⟨rfl, hb5⟩
      have HB5 := Lib.hid (tr HB4.out hb5)
      clear hb5 y0 y1 y2 y3 y4 y5 y6 y7 y8 y9 y10 y11 y12
      obtain ⟨⟨y0, y1, y2, y3, y4, y5, y6⟩, y7, y8, y9, y10, y11, y12⟩ := HHY.out w5 HB5.out
      obtain ⟨c0, c1, c2⟩ := HHC.out w5 HB5.out
      rw [hyz] at y8
      rw [← HV54.out] at c0
      clear hyz
      go_wp2_with fail
      refine (KK.out _ HB5.out).mono ?_
      rintro e w6 ⟨rfl, rfl⟩
      by_cases hk6 : kind = 6
      · subst hk6
        go_wp2_with fail
        refine (Rpw.knows_yes _).mono ?_
        rintro e wz ⟨rfl, hbz⟩
        go_wp2
        go_ret
        exact ⟨rfl, tr (tr HB3.out HB5.out) hbz⟩
      · have hy0 : yi = 0 := by
          have e1 := HNG.out
          have e2 := HYI2.out
          omega
        subst hy0
        go_wp2_with fail
        refine (Rpw.knows_yes _).mono ?_
        rintro e wz ⟨rfl, hbz⟩
        go_wp2
        go_ret
        exact ⟨rfl, tr (tr HB3.out HB5.out) hbz⟩
    · obtain ⟨hk6, hy0⟩ := hgive
      have hyz : y.yi = yi := by rw [EYI, if_neg hk6]
      obtain ⟨v51, hv51, hv51s⟩ := num_51 c.server (subAt c.cf (i : Int) (j : Int)) (osP x.ps) kind yi (by rw [HAT.out]; exact HTM.out) ⟨hk6, hy0⟩
      rw [hv51] at N51
      rw [HAT.out] at hv51s
      have HV51 := Lib.hid hv51s
      clear EYI hv51 hv51s
      have hyb : (yi == 0) = false := by simp; omega
      clear hy0
      go_wp2_with fail
      refine (N51.out _ HB4.out).mono ?_
      rintro e w5 ⟨rfl, hb5⟩
      have HB5 := Lib.hid (tr HB4.out hb5)
      clear hb5 y0 y1 y2 y3 y4 y5 y6 y7 y8 y9 y10 y11 y12
      obtain ⟨⟨y0, y1, y2, y3, y4, y5, y6⟩, y7, y8, y9, y10, y11, y12⟩ := HHY.out w5 HB5.out
      obtain ⟨c0, c1, c2⟩ := HHC.out w5 HB5.out
      have hnn := HN.out w5 HB5.out
      have htt := HT.out w5 HB5.out
      rw [show s.time = (v51 : Int) from HV51.out.symm] at htt
      rw [hyz] at y8
      rw [← HV54.out] at c0
      clear hyz
      go_wp2_with fail
      refine (KK.out _ HB5.out).mono ?_
      rintro e w6 ⟨rfl, rfl⟩
      go_wp2_with fail
      refine (Rpw.knows_yes _).mono ?_
      rintro e wz ⟨rfl, hbz⟩
      go_wp2
      go_ret
      exact ⟨rfl, tr (tr HB3.out HB5.out) hbz⟩
end Go.Proofs.Ytabjcgchcnnjjaa
