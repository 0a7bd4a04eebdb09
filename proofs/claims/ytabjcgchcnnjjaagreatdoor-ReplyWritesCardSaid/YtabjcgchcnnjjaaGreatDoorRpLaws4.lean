/- The walk of ReplyWrites: it returns true, and what was in memory stays. Conditions: the configuration and the message read; what msg's package-level variables hold (En.ok). -/
import Derived.Test.YtabjcgchcnnjjaaGreatDoorRpGrt
import Derived.Test.YtabjcgchcnnjjaaGreatDoorMwRw
set_option maxRecDepth 8000
namespace Go.Proofs.YtabjcgchcnnjjaaGreatDoor
open Go.RowKit Tl Co Ms Cf Ad By Ow Rp Rpw
open Pw (alloc_more celM_all boxM small_ms)
open Vw (Cx Sx cel3C atN atS Seven snsOf sns_len sns_get nets_len nets_get)
open Mw (set13 cels13)

set_option maxHeartbeats 16000000 in
theorem replyWrites_walk (E : Mw.En) (c : Cx) (net sub : Int) (x : Mv) (kind yi : Int) (w : World) (hE : E.ok w) (hc : c.ok w.heap.size w) (hx : x.ok w) : Calls Tryz.prog 3 #[c.v, .int .i64 net, .int .i64 sub, x.v, .int .i64 kind, .int .i64 yi] w (isTrue w) := by
  obtain ⟨w0, hw0, hc0, hm0, hb0, hs0⟩ := boxK2 w c x
  have HGR := Lib.hid (great_any c x w.heap.size w0 (hc.below hb0) hb0.size (hx.below hb0))
  have HC0 := Lib.hid hc0
  have HM0 := Lib.hid hm0
  have HB0 := Lib.hid hb0
  have HCO := Lib.hid (fun W (hW : Below w.heap.size w W) => hc.below hW)
  have HXO := Lib.hid (fun W (hW : Below w.heap.size w W) => hx.below hW)
  obtain ⟨c0, c1, c2⟩ := cel3C hc0
  obtain ⟨⟨m0, m1, m2, m3, m4, m5, m6⟩, m7, m8, m9, m10, m11, m12⟩ := celM_all hm0
  have HE := Lib.hid (fun W (hW : Below w.heap.size w W) => hE.below hW)
  clear hc hx hE hc0 hm0 hb0 hs0
  cases hg : greatR c x with
  | true =>
    rw [hg] at HGR
    clear hg
    go_enter Tryz.func3, Tryz.ntmps3
    go_upto_region 1 with fail
    rw [← hw0]
    clear hw0
    go_wp2_with fail
    refine HGR.out.mono ?_
    rintro e w1 ⟨rfl, hb1⟩
    have HB1 := Lib.hid (tr HB0.out hb1)
    clear hb1 c0 c1 c2 m0 m1 m2 m3 m4 m5 m6 m7 m8 m9 m10 m11 m12
    go_wp2_with fail
    refine (Rpw.knows_yes _).mono ?_
    rintro e wz ⟨rfl, hbz⟩
    go_wp2
    go_ret
    exact ⟨rfl, tr HB1.out hbz⟩
  | false =>
  rw [hg] at HGR
  obtain ⟨hg1, hg2⟩ := great_no hg
  have HSM := Lib.hid (small_ms hg1)
  have HS := Lib.hid (small_iff.1 hg2)
  clear hg hg1 hg2
  go_enter Tryz.func3, Tryz.ntmps3
  go_upto_region 1 with fail
  rw [← hw0]
  clear hw0
  go_wp2_with fail
  refine HGR.out.mono ?_
  rintro e w1 ⟨rfl, hb1⟩
  have HB1 := Lib.hid (tr HB0.out hb1)
  have HC1 := Lib.hid (HC0.out.below hb1 HC0.out.lt)
  have HM1 := Lib.hid (HM0.out.below hb1 HM0.out.lt)
  clear hb1 HGR HC0 HM0 c0 c1 c2 m0 m1 m2 m3 m4 m5 m6 m7 m8 m9 m10 m11 m12
  obtain ⟨c0, c1, c2⟩ := cel3C HC1.out
  obtain ⟨⟨m0, m1, m2, m3, m4, m5, m6⟩, m7, m8, m9, m10, m11, m12⟩ := celM_all HM1.out
  go_wp2_with fail
  refine (make_any c net sub x kind yi w.heap.size w1 (HCO.out _ HB1.out) HB1.out.size HS.out (HXO.out _ HB1.out) HSM.out).mono ?_
  rintro e w2 ⟨hb2, hJ⟩
  have HB2 := Lib.hid (tr HB1.out hb2)
  have HC2 := Lib.hid (HC1.out.below hb2 HC1.out.lt)
  have HM2 := Lib.hid (HM1.out.below hb2 HM1.out.lt)
  clear hb2 HC1 HM1 c0 c1 c2 m0 m1 m2 m3 m4 m5 m6 m7 m8 m9 m10 m11 m12
  rcases hJ with ⟨hfair, y, rfl, hmo, hym⟩ | ⟨hfair, he⟩
  rotate_left
  · have HFR := Lib.hid hfair
    clear hfair
    obtain rfl : e = .returned (.tuple #[.agg zc13, .int .i64 1]) := he
    have hbz3 := alloc_more w2 (.cells zc13 28)
    obtain ⟨w3, hw3⟩ : ∃ w3, w3 = w2.alloc (.cells zc13 28) := ⟨_, rfl⟩
    rw [← hw3] at hbz3
    have HB3 := Lib.hid (tr HB2.out hbz3)
    have HZ3 := Lib.hid (show Cel w3 w2.heap.size 28 zc13 by rw [hw3]; exact Cel.born _ _ _)
    clear hbz3
    go_upto_region 4 with fail
    rw [← hw3]
    clear hw3
    obtain ⟨z0, z1, z2, z3, z4, z5, z6, z7, z8, z9, z10, z11, z12, zf⟩ := cels13 HZ3.out
    go_wp2_with fail
    refine (Rpw.knows_yes _).mono ?_
    rintro e wz ⟨rfl, hbz⟩
    go_wp2
    go_ret
    exact ⟨rfl, tr HB3.out hbz⟩
  · have HFR := Lib.hid hfair
    have HYM := Lib.hid hym
    have hbz3 := alloc_more w2 (.cells y.cells 28)
    obtain ⟨w3, hw3⟩ : ∃ w3, w3 = w2.alloc (.cells y.cells 28) := ⟨_, rfl⟩
    rw [← hw3] at hbz3
    have HB3 := Lib.hid (tr HB2.out hbz3)
    have HY3 := Lib.hid (show Cel w3 w2.heap.size 28 y.cells by rw [hw3]; exact Cel.born _ _ _)
    have HC3 := Lib.hid (HC2.out.below hbz3 HC2.out.lt)
    have HM3 := Lib.hid (HM2.out.below hbz3 HM2.out.lt)
    have HYO := Lib.hid (hmo.ok.below hbz3)
    clear hfair hym hmo hbz3 HC2 HM2
    go_upto_region 4 with fail
    rw [← hw3]
    clear hw3
    obtain ⟨hsub, hrm, hry, hkd⟩ := fair_all HFR.out
    have hRM := (rightM_iff x.mm).1 hrm
    have hyr : RightM y.mm := by rw [HYM.out]; exact make_right hRM c.server (subAt c.cf net sub) hry
    have hyr2 : rightM y.mm = true := (rightM_iff y.mm).2 hyr
    have hyl : (bytesM y.mm).length ≤ 1500 := by rw [HYM.out]; exact make_len hRM c.server (subAt c.cf net sub) kind yi
    have hyb : readM (bytesM y.mm) = (y.mm, 0) := read_backM hyr hyl
    have hbl : ¬ 1500 < (bodyM y.mm).length := by
      have e : (bytesM y.mm).length = (bodyM y.mm).length + (300 - (bodyM y.mm).length) := by unfold bytesM padL; rw [List.length_append, List.length_replicate]
      omega
    have HYR2 := Lib.hid hyr2
    have HYB := Lib.hid hyb
    have HBL := Lib.hid hbl
    have HSY := Lib.hid (fun W (hW : Below w3.heap.size w3 W) => celM_all (HY3.out.below hW HY3.out.lt))
    have HYW := Lib.hid (fun W (hW : Below w3.heap.size w3 W) => HYO.out.below hW)
    clear hsub hrm hry hkd hRM hyr hyr2 hyl hyb hbl
    obtain ⟨⟨y0, y1, y2, y3, y4, y5, y6⟩, y7, y8, y9, y10, y11, y12⟩ := HSY.out w3 (Below.refl _ _)
    go_wp2_with fail
    refine (Mw.write_any E y w3 (HE.out _ HB3.out) HYO.out).mono ?_
    rintro e w4 ⟨hb4, hJ⟩
    have HB4 := Lib.hid hb4
    clear hb4 y0 y1 y2 y3 y4 y5 y6 y7 y8 y9 y10 y11 y12
    rcases hJ with ⟨hr, _⟩ | ⟨_, hl, _⟩ | ⟨_, _, A, n, k, rfl, hown⟩
    · exact absurd (HYR2.out.symm.trans hr) (by decide)
    · exact absurd hl HBL.out
    have HBS := Lib.hid (fun W (hW : Below w4.heap.size w4 W) => hown.bs.below hW)
    clear hown
    obtain ⟨⟨y0, y1, y2, y3, y4, y5, y6⟩, y7, y8, y9, y10, y11, y12⟩ := HSY.out w4 HB4.out
    go_wp2_with fail
    refine (Mw.right_any y w4 (HYW.out _ HB4.out)).mono ?_
    rw [HYR2.out]
    rintro e w5 ⟨rfl, hb5⟩
    have HB45 := Lib.hid hb5
    have HB5 := Lib.hid (tr HB4.out hb5)
    clear hb5 y0 y1 y2 y3 y4 y5 y6 y7 y8 y9 y10 y11 y12
    obtain ⟨⟨y0, y1, y2, y3, y4, y5, y6⟩, y7, y8, y9, y10, y11, y12⟩ := HSY.out w5 HB5.out
    go_wp2_with fail
    refine (Mw.as_msg y w5).mono ?_
    rintro e w6 ⟨rfl, hb6⟩
    have HB46 := Lib.hid (tr HB45.out hb6)
    have HB6 := Lib.hid (tr HB5.out hb6)
    clear hb6 y0 y1 y2 y3 y4 y5 y6 y7 y8 y9 y10 y11 y12
    go_wp2_with fail
    refine (Mw.refRight_msg y w6 (HYW.out _ HB6.out)).mono ?_
    rw [HYR2.out]
    rintro e w7 ⟨rfl, hb7⟩
    have HB47 := Lib.hid (tr HB46.out hb7)
    have HB7 := Lib.hid (tr HB6.out hb7)
    clear hb7
    go_wp2_with fail
    refine (Mw.read_any E A n k (bytesM y.mm) w7 (HE.out _ (tr HB3.out HB7.out)) (HBS.out _ HB47.out)).mono ?_
    rw [HYB.out]
    rintro e w8 ⟨r, rfl, hro, hrm, hb8⟩
    have hbz := alloc_more w8 (.cells r.cells 28)
    obtain ⟨w9, hw9⟩ : ∃ w9, w9 = w8.alloc (.cells r.cells 28) := ⟨_, rfl⟩
    have HR9 := Lib.hid (show Cel w9 w8.heap.size 28 r.cells by rw [hw9]; exact Cel.born _ _ _)
    rw [← hw9] at hbz
    have HB9 := Lib.hid (tr (tr HB7.out hb8) hbz)
    have HRO := Lib.hid (hro.below hbz)
    have HRM := Lib.hid hrm
    clear hb8 hbz hro hrm
    go_upto_region 12 with fail
    rw [← hw9]
    clear hw9
    have SB := Lib.hid (fun W (hW : Below w9.heap.size w9 W) => And.intro (HSY.out W (tr HB9.out hW)) (celM_all (HR9.out.below hW HR9.out.lt)))
    have HRW := Lib.hid (fun W (hW : Below w9.heap.size w9 W) => HRO.out.below hW)
    have HYV := Lib.hid (fun W (hW : Below w9.heap.size w9 W) => HYW.out W (tr HB9.out hW))
    have HAY := Lib.hid (fun W => Mw.as_msg y W)
    have HAR := Lib.hid (fun W => Mw.as_msg r W)
    have HKN := Lib.hid (fun W => Rpw.knows_yes W)
    obtain ⟨⟨⟨y0, y1, y2, y3, y4, y5, y6⟩, y7, y8, y9, y10, y11, y12⟩, ⟨q0, q1, q2, q3, q4, q5, q6⟩, q7, q8, q9, q10, q11, q12⟩ := SB.out w9 (Below.refl _ _)
    go_region_held3 (fun W => ((W.cell? ⟨w2.heap.size, 0, none⟩ = some (.int .i64 y.op) ∧ W.cell? ⟨w2.heap.size, 1, none⟩ = some (.int .i64 y.htype) ∧ W.cell? ⟨w2.heap.size, 2, none⟩ = some (.int .i64 y.hlen) ∧ W.cell? ⟨w2.heap.size, 3, none⟩ = some (.int .i64 y.hops) ∧ W.cell? ⟨w2.heap.size, 4, none⟩ = some (.int .i64 y.xid) ∧ W.cell? ⟨w2.heap.size, 5, none⟩ = some (.int .i64 y.secs) ∧ W.cell? ⟨w2.heap.size, 6, none⟩ = some (.int .i64 y.flags)) ∧ W.cell? ⟨w2.heap.size, 7, none⟩ = some (.int .i64 y.ci) ∧ W.cell? ⟨w2.heap.size, 8, none⟩ = some (.int .i64 y.yi) ∧ W.cell? ⟨w2.heap.size, 9, none⟩ = some (.int .i64 y.si) ∧ W.cell? ⟨w2.heap.size, 10, none⟩ = some (.int .i64 y.gi) ∧ W.cell? ⟨w2.heap.size, 11, none⟩ = some (.slice y.A y.n y.c) ∧ W.cell? ⟨w2.heap.size, 12, none⟩ = some (.slice y.B y.m y.d)) ∧ (W.cell? ⟨w8.heap.size, 0, none⟩ = some (.int .i64 r.op) ∧ W.cell? ⟨w8.heap.size, 1, none⟩ = some (.int .i64 r.htype) ∧ W.cell? ⟨w8.heap.size, 2, none⟩ = some (.int .i64 r.hlen) ∧ W.cell? ⟨w8.heap.size, 3, none⟩ = some (.int .i64 r.hops) ∧ W.cell? ⟨w8.heap.size, 4, none⟩ = some (.int .i64 r.xid) ∧ W.cell? ⟨w8.heap.size, 5, none⟩ = some (.int .i64 r.secs) ∧ W.cell? ⟨w8.heap.size, 6, none⟩ = some (.int .i64 r.flags)) ∧ W.cell? ⟨w8.heap.size, 7, none⟩ = some (.int .i64 r.ci) ∧ W.cell? ⟨w8.heap.size, 8, none⟩ = some (.int .i64 r.yi) ∧ W.cell? ⟨w8.heap.size, 9, none⟩ = some (.int .i64 r.si) ∧ W.cell? ⟨w8.heap.size, 10, none⟩ = some (.int .i64 r.gi) ∧ W.cell? ⟨w8.heap.size, 11, none⟩ = some (.slice r.A r.n r.c) ∧ W.cell? ⟨w8.heap.size, 12, none⟩ = some (.slice r.B r.m r.d))
      (((refine SB.out _ ?_); first
        | (with_reducible exact (Below.refl _ _))
        | (with_reducible exact (Below.refl _ _).drew)
        | (with_reducible exact hbq4)
        | (with_reducible exact hbq3)
        | (with_reducible exact hbq2)
        | (with_reducible exact hbq1)))
      (first
        | (go_simp; go_at_call 10; have hq := hbq1; (with_reducible refine (HAY.out _).mono ?_); rintro ee wq2 ⟨rfl, hbu⟩; have hbq2 : Below w9.heap.size w9 wq2 := tr hbq1 hbu; clear hq)
        | (go_simp; go_at_call 10; have hq := hbq1; (with_reducible refine (HAR.out _).mono ?_); rintro ee wq2 ⟨rfl, hbu⟩; have hbq2 : Below w9.heap.size w9 wq2 := tr hbq1 hbu; clear hq)
        | (go_simp; go_at_call 10; (with_reducible refine (HAY.out _).mono ?_); rintro ee wq1 ⟨rfl, hbu⟩; have hbq1 : Below w9.heap.size w9 wq1 := below_undrew hbu)
        | (go_simp; go_at_call 10; (with_reducible refine (HAR.out _).mono ?_); rintro ee wq1 ⟨rfl, hbu⟩; have hbq1 : Below w9.heap.size w9 wq1 := below_undrew hbu)
        | (go_simp; go_at_call 13; (with_reducible refine (Mw.same_yes y r _ (HYV.out _ hbq2) (HRW.out _ hbq2) HRM.out.symm).mono ?_); rintro ee wq3 ⟨rfl, hbu⟩; have hbq3 : Below w9.heap.size w9 wq3 := tr hbq2 hbu)
        | (go_simp; go_at_call 5; (with_reducible refine (HKN.out _).mono ?_); rintro ee wq4 ⟨rfl, hbu⟩; have hbq4 : Below w9.heap.size w9 wq4 := tr hbq3 hbu))
    all_goals (
      clear q0 q1 q2 q3 q4 q5 q6 q7 q8 q9 q10 q11 q12 y0 y1 y2 y3 y4 y5 y6 y7 y8 y9 y10 y11 y12
      go_wp2
      go_ret
      exact ⟨rfl, tr (tr HB3.out HB9.out) hbq4⟩)
end Go.Proofs.YtabjcgchcnnjjaaGreatDoor
