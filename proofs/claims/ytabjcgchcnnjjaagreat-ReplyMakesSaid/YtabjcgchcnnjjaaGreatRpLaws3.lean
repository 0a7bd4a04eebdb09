/- The walk of ReplyMakes: it returns true, and what was in memory stays. Condition: the configuration and the message read. -/
import Derived.Test.YtabjcgchcnnjjaaGreatRpGrt
import Derived.Test.YtabjcgchcnnjjaaGreatRpRef2
set_option maxRecDepth 8000
namespace Go.Proofs.YtabjcgchcnnjjaaGreat
open Go.RowKit Tl Co Ms Cf Ad By Ow Rp Rpw
open Pw (alloc_more celM_all boxM small_ms)
open Vw (Cx Sx cel3C atN atS Seven snsOf sns_len sns_get nets_len nets_get)
open Mw (set13 cels13)

set_option maxHeartbeats 16000000 in
theorem replyMakes_walk (c : Cx) (net sub : Int) (x : Mv) (kind yi : Int) (w : World) (hc : c.ok w.heap.size w) (hx : x.ok w) : Calls Tryz.prog 3 #[c.v, .int .i64 net, .int .i64 sub, x.v, .int .i64 kind, .int .i64 yi] w (isTrue w) := by
  obtain ⟨w0, hw0, hc0, hm0, hb0, hs0⟩ := boxK2 w c x
  have HGR := Lib.hid (great_any c x w.heap.size w0 (hc.below hb0) hb0.size (hx.below hb0))
  have HC0 := Lib.hid hc0
  have HM0 := Lib.hid hm0
  have HB0 := Lib.hid hb0
  have HCO := Lib.hid (fun W (hW : Below w.heap.size w W) => hc.below hW)
  have HXO := Lib.hid (fun W (hW : Below w.heap.size w W) => hx.below hW)
  obtain ⟨c0, c1, c2⟩ := cel3C hc0
  obtain ⟨⟨m0, m1, m2, m3, m4, m5, m6⟩, m7, m8, m9, m10, m11, m12⟩ := celM_all hm0
  clear hc hx hc0 hm0 hb0 hs0
  cases hg : greatR c x with
  | true =>
    rw [hg] at HGR
    clear hg
    go_enter Tryz.func3, Tryz.ntmps3
    go_upto_region 1 with fail
    rw [← hw0]
    clear hw0
    go_wp2_with fail
    refine HGR.out.mono ?_
    rintro e w1 ⟨rfl, hb1⟩
    have HB1 := Lib.hid (tr HB0.out hb1)
    clear hb1 c0 c1 c2 m0 m1 m2 m3 m4 m5 m6 m7 m8 m9 m10 m11 m12
    go_wp2_with fail
    refine (Rpw.knows_yes _).mono ?_
    rintro e wz ⟨rfl, hbz⟩
    go_wp2
    go_ret
    exact ⟨rfl, tr HB1.out hbz⟩
  | false =>
  rw [hg] at HGR
  obtain ⟨hg1, hg2⟩ := great_no hg
  have HSM := Lib.hid (small_ms hg1)
  have HS := Lib.hid (small_iff.1 hg2)
  clear hg hg1 hg2
  go_enter Tryz.func3, Tryz.ntmps3
  go_upto_region 1 with fail
  rw [← hw0]
  clear hw0
  go_wp2_with fail
  refine HGR.out.mono ?_
  rintro e w1 ⟨rfl, hb1⟩
  have HB1 := Lib.hid (tr HB0.out hb1)
  have HC1 := Lib.hid (HC0.out.below hb1 HC0.out.lt)
  have HM1 := Lib.hid (HM0.out.below hb1 HM0.out.lt)
  clear hb1 HGR HC0 HM0 c0 c1 c2 m0 m1 m2 m3 m4 m5 m6 m7 m8 m9 m10 m11 m12
  obtain ⟨⟨m0, m1, m2, m3, m4, m5, m6⟩, m7, m8, m9, m10, m11, m12⟩ := celM_all HM1.out
  go_wp2_with fail
  refine (Mw.as_msg x w1).mono ?_
  rintro e w2 ⟨rfl, hb2⟩
  have hb23 := alloc_more w2 (.cells x.cells 31)
  obtain ⟨w3, hw3⟩ : ∃ w3, w3 = w2.alloc (.cells x.cells 31) := ⟨_, rfl⟩
  have HK3 := Lib.hid (show Cel w3 w2.heap.size 31 x.cells by rw [hw3]; exact Cel.born _ _ _)
  rw [← hw3] at hb23
  have HB3 := Lib.hid (tr (tr HB1.out hb2) hb23)
  have HC3 := Lib.hid ((HC1.out.below hb2 HC1.out.lt).below hb23 (Nat.lt_of_lt_of_le HC1.out.lt hb2.size))
  have HM3 := Lib.hid ((HM1.out.below hb2 HM1.out.lt).below hb23 (Nat.lt_of_lt_of_le HM1.out.lt hb2.size))
  clear hb2 hb23 HC1 HM1 m0 m1 m2 m3 m4 m5 m6 m7 m8 m9 m10 m11 m12
  go_upto_region 4 with fail
  rw [← hw3]
  clear hw3
  obtain ⟨c0, c1, c2⟩ := cel3C HC3.out
  obtain ⟨⟨m0, m1, m2, m3, m4, m5, m6⟩, m7, m8, m9, m10, m11, m12⟩ := celM_all HM3.out
  go_wp2_with fail
  refine (make_any c net sub x kind yi w.heap.size w3 (HCO.out _ HB3.out) HB3.out.size HS.out (HXO.out _ HB3.out) HSM.out).mono ?_
  rintro e w4 ⟨hb4, hJ⟩
  have HB4 := Lib.hid (tr HB3.out hb4)
  have HC4 := Lib.hid (HC3.out.below hb4 HC3.out.lt)
  have HM4 := Lib.hid (HM3.out.below hb4 HM3.out.lt)
  have HK4 := Lib.hid (HK3.out.below hb4 HK3.out.lt)
  clear hb4 HC3 HM3 HK3 c0 c1 c2 m0 m1 m2 m3 m4 m5 m6 m7 m8 m9 m10 m11 m12
  rcases hJ with ⟨hfair, y, rfl, hmo, hym⟩ | ⟨hfair, he⟩
  rotate_left
  · have HFR := Lib.hid hfair
    clear hfair
    obtain rfl : e = .returned (.tuple #[.agg zc13, .int .i64 1]) := he
    have hbz := alloc_more w4 (.cells zc13 28)
    obtain ⟨w5, hw5⟩ : ∃ w5, w5 = w4.alloc (.cells zc13 28) := ⟨_, rfl⟩
    rw [← hw5] at hbz
    have HB5 := Lib.hid (tr HB4.out hbz)
    have HY5 := Lib.hid (show Cel w5 w4.heap.size 28 zc13 by rw [hw5]; exact Cel.born _ _ _)
    have HC5 := Lib.hid (HC4.out.below hbz HC4.out.lt)
    have HM5 := Lib.hid (HM4.out.below hbz HM4.out.lt)
    have HK5 := Lib.hid (HK4.out.below hbz HK4.out.lt)
    clear hbz HC4 HM4 HK4
    have SA := Lib.hid (fun W (hW : Below w5.heap.size w5 W) => And.intro (celM_all (HM5.out.below hW HM5.out.lt)) (celM_all (HK5.out.below hW HK5.out.lt)))
    obtain ⟨av, hav⟩ : ∃ av, asksL (osP x.ps) kind = av := ⟨_, rfl⟩
    have A1 := Lib.hid (fun W (hW : Below w5.heap.size w5 W) => asked_any x kind W (HXO.out _ (tr HB5.out hW)) HSM.out)
    have A2 := Lib.hid (fun W (hW : Below w5.heap.size w5 W) => refAsked_any x kind W (HXO.out _ (tr HB5.out hW)))
    rw [hav] at A1 A2
    clear hav
    have hvv : (av != av) = false := by cases av <;> rfl
    go_upto_region 5 with fail
    rw [← hw5]
    clear hw5
    go_cut [38] from 32 to 38 (fun v wx => v = .bool false ∧ Hid (Below w5.heap.size w5 wx))
    case first =>
      obtain ⟨⟨⟨m0, m1, m2, m3, m4, m5, m6⟩, m7, m8, m9, m10, m11, m12⟩, ⟨q0, q1, q2, q3, q4, q5, q6⟩, q7, q8, q9, q10, q11, q12⟩ := SA.out w5 (Below.refl _ _)
      go_region_held3 (fun W => ((W.cell? ⟨w.heap.size + 1, 0, none⟩ = some (.int .i64 x.op) ∧ W.cell? ⟨w.heap.size + 1, 1, none⟩ = some (.int .i64 x.htype) ∧ W.cell? ⟨w.heap.size + 1, 2, none⟩ = some (.int .i64 x.hlen) ∧ W.cell? ⟨w.heap.size + 1, 3, none⟩ = some (.int .i64 x.hops) ∧ W.cell? ⟨w.heap.size + 1, 4, none⟩ = some (.int .i64 x.xid) ∧ W.cell? ⟨w.heap.size + 1, 5, none⟩ = some (.int .i64 x.secs) ∧ W.cell? ⟨w.heap.size + 1, 6, none⟩ = some (.int .i64 x.flags)) ∧ W.cell? ⟨w.heap.size + 1, 7, none⟩ = some (.int .i64 x.ci) ∧ W.cell? ⟨w.heap.size + 1, 8, none⟩ = some (.int .i64 x.yi) ∧ W.cell? ⟨w.heap.size + 1, 9, none⟩ = some (.int .i64 x.si) ∧ W.cell? ⟨w.heap.size + 1, 10, none⟩ = some (.int .i64 x.gi) ∧ W.cell? ⟨w.heap.size + 1, 11, none⟩ = some (.slice x.A x.n x.c) ∧ W.cell? ⟨w.heap.size + 1, 12, none⟩ = some (.slice x.B x.m x.d)) ∧ (W.cell? ⟨w2.heap.size, 0, none⟩ = some (.int .i64 x.op) ∧ W.cell? ⟨w2.heap.size, 1, none⟩ = some (.int .i64 x.htype) ∧ W.cell? ⟨w2.heap.size, 2, none⟩ = some (.int .i64 x.hlen) ∧ W.cell? ⟨w2.heap.size, 3, none⟩ = some (.int .i64 x.hops) ∧ W.cell? ⟨w2.heap.size, 4, none⟩ = some (.int .i64 x.xid) ∧ W.cell? ⟨w2.heap.size, 5, none⟩ = some (.int .i64 x.secs) ∧ W.cell? ⟨w2.heap.size, 6, none⟩ = some (.int .i64 x.flags)) ∧ W.cell? ⟨w2.heap.size, 7, none⟩ = some (.int .i64 x.ci) ∧ W.cell? ⟨w2.heap.size, 8, none⟩ = some (.int .i64 x.yi) ∧ W.cell? ⟨w2.heap.size, 9, none⟩ = some (.int .i64 x.si) ∧ W.cell? ⟨w2.heap.size, 10, none⟩ = some (.int .i64 x.gi) ∧ W.cell? ⟨w2.heap.size, 11, none⟩ = some (.slice x.A x.n x.c) ∧ W.cell? ⟨w2.heap.size, 12, none⟩ = some (.slice x.B x.m x.d))
        (((refine SA.out _ ?_); first
          | (with_reducible exact (Below.refl _ _))
          | (with_reducible exact (Below.refl _ _).drew)
          | (with_reducible exact hbq2)
          | (with_reducible exact hbq1)))
        (first
          | (go_simp; go_at_call 8; (with_reducible refine (A1.out _ (Below.refl _ _).drew).mono ?_); rintro ee wq1 ⟨rfl, hbu⟩; have hbq1 : Below w5.heap.size w5 wq1 := below_undrew hbu)
          | (go_simp; go_at_call 9; (with_reducible refine (A2.out _ (Below.refl _ _).drew).mono ?_); rintro ee wq1 ⟨rfl, hbu⟩; have hbq1 : Below w5.heap.size w5 wq1 := below_undrew hbu)
          | (go_simp; go_at_call 8; (with_reducible refine (A1.out _ hbq1).mono ?_); rintro ee wq2 ⟨rfl, hbu⟩; have hbq2 : Below w5.heap.size w5 wq2 := tr hbq1 hbu)
          | (go_simp; go_at_call 9; (with_reducible refine (A2.out _ hbq1).mono ?_); rintro ee wq2 ⟨rfl, hbu⟩; have hbq2 : Below w5.heap.size w5 wq2 := tr hbq1 hbu))
      all_goals (
        clear m0 m1 m2 m3 m4 m5 m6 m7 m8 m9 m10 m11 m12 q0 q1 q2 q3 q4 q5 q6 q7 q8 q9 q10 q11 q12
        go_wp2_with fail
        go_meet
        exact ⟨rfl, Lib.hid hbq2⟩)
    case rest =>
    obtain ⟨rfl, HBZ⟩ := hcut
    obtain ⟨w6, hww⟩ : ∃ q, q = wc := ⟨_, rfl⟩
    subst hww
    clear hvv A1 A2 SA
    have HB6 := Lib.hid (tr HB5.out HBZ.out)
    have HC6 := Lib.hid (HC5.out.below HBZ.out HC5.out.lt)
    have HK6 := Lib.hid (HK5.out.below HBZ.out HK5.out.lt)
    have HY6 := Lib.hid (HY5.out.below HBZ.out HY5.out.lt)
    clear HC5 HM5 HK5 HY5 HBZ
    obtain ⟨c0, c1, c2⟩ := cel3C HC6.out
    obtain ⟨⟨q0, q1, q2, q3, q4, q5, q6⟩, q7, q8, q9, q10, q11, q12⟩ := celM_all HK6.out
    have HFC := Lib.hid (refFair_any c net sub x kind yi w.heap.size w6 (HCO.out _ HB6.out) HB6.out.size HS.out (HXO.out _ HB6.out))
    rw [HFR.out] at HFC
    go_wp2_with fail
    refine HFC.out.mono ?_
    rintro e w7 ⟨rfl, hb7⟩
    have HB7 := Lib.hid (tr HB6.out hb7)
    have HC7 := Lib.hid (HC6.out.below hb7 HC6.out.lt)
    have HK7 := Lib.hid (HK6.out.below hb7 HK6.out.lt)
    have HY7 := Lib.hid (HY6.out.below hb7 HY6.out.lt)
    clear hb7 c0 c1 c2 q0 q1 q2 q3 q4 q5 q6 q7 q8 q9 q10 q11 q12
    obtain ⟨z0, z1, z2, z3, z4, z5, z6, z7, z8, z9, z10, z11, z12, zf⟩ := cels13 HY7.out
    go_wp2_with fail
    refine (Mw.as_msg zeroV w7).mono ?_
    rintro e w8 ⟨he8, hb8⟩
    obtain rfl : e = .returned (.agg zc13) := he8
    have HB8 := Lib.hid (tr HB7.out hb8)
    clear hb8 z0 z1 z2 z3 z4 z5 z6 z7 z8 z9 z10 z11 z12 zf
    go_wp2_with fail
    refine (Mw.same_yes zeroV zeroV w8 (zeroV_ok _) (zeroV_ok _) rfl).mono ?_
    rintro e w9 ⟨rfl, hb9⟩
    have HB9 := Lib.hid (tr HB8.out hb9)
    clear hb9
    go_wp2_with fail
    refine (Rpw.knows_yes _).mono ?_
    rintro e wz ⟨rfl, hbz⟩
    go_wp2
    go_ret
    exact ⟨rfl, tr HB9.out hbz⟩
  · have HFR := Lib.hid hfair
    have HYM := Lib.hid (show y.mm = makeR c.server (subAt c.cf net sub) x.mm kind yi from hym)
    clear hfair hym
    have hbz := alloc_more w4 (.cells y.cells 28)
    obtain ⟨w5, hw5⟩ : ∃ w5, w5 = w4.alloc (.cells y.cells 28) := ⟨_, rfl⟩
    rw [← hw5] at hbz
    have HB5 := Lib.hid (tr HB4.out hbz)
    have HY5 := Lib.hid (show Cel w5 w4.heap.size 28 y.cells by rw [hw5]; exact Cel.born _ _ _)
    have HC5 := Lib.hid (HC4.out.below hbz HC4.out.lt)
    have HM5 := Lib.hid (HM4.out.below hbz HM4.out.lt)
    have HK5 := Lib.hid (HK4.out.below hbz HK4.out.lt)
    have HYO := Lib.hid (hmo.ok.below hbz)
    clear hbz HC4 HM4 HK4 hmo
    have SA := Lib.hid (fun W (hW : Below w5.heap.size w5 W) => And.intro (celM_all (HM5.out.below hW HM5.out.lt)) (celM_all (HK5.out.below hW HK5.out.lt)))
    obtain ⟨av, hav⟩ : ∃ av, asksL (osP x.ps) kind = av := ⟨_, rfl⟩
    have A1 := Lib.hid (fun W (hW : Below w5.heap.size w5 W) => asked_any x kind W (HXO.out _ (tr HB5.out hW)) HSM.out)
    have A2 := Lib.hid (fun W (hW : Below w5.heap.size w5 W) => refAsked_any x kind W (HXO.out _ (tr HB5.out hW)))
    rw [hav] at A1 A2
    clear hav
    have hvv : (av != av) = false := by cases av <;> rfl
    go_upto_region 5 with fail
    rw [← hw5]
    clear hw5
    go_cut [38] from 32 to 38 (fun v wx => v = .bool false ∧ Hid (Below w5.heap.size w5 wx))
    case first =>
      obtain ⟨⟨⟨m0, m1, m2, m3, m4, m5, m6⟩, m7, m8, m9, m10, m11, m12⟩, ⟨q0, q1, q2, q3, q4, q5, q6⟩, q7, q8, q9, q10, q11, q12⟩ := SA.out w5 (Below.refl _ _)
      go_region_held3 (fun W => ((W.cell? ⟨w.heap.size + 1, 0, none⟩ = some (.int .i64 x.op) ∧ W.cell? ⟨w.heap.size + 1, 1, none⟩ = some (.int .i64 x.htype) ∧ W.cell? ⟨w.heap.size + 1, 2, none⟩ = some (.int .i64 x.hlen) ∧ W.cell? ⟨w.heap.size + 1, 3, none⟩ = some (.int .i64 x.hops) ∧ W.cell? ⟨w.heap.size + 1, 4, none⟩ = some (.int .i64 x.xid) ∧ W.cell? ⟨w.heap.size + 1, 5, none⟩ = some (.int .i64 x.secs) ∧ W.cell? ⟨w.heap.size + 1, 6, none⟩ = some (.int .i64 x.flags)) ∧ W.cell? ⟨w.heap.size + 1, 7, none⟩ = some (.int .i64 x.ci) ∧ W.cell? ⟨w.heap.size + 1, 8, none⟩ = some (.int .i64 x.yi) ∧ W.cell? ⟨w.heap.size + 1, 9, none⟩ = some (.int .i64 x.si) ∧ W.cell? ⟨w.heap.size + 1, 10, none⟩ = some (.int .i64 x.gi) ∧ W.cell? ⟨w.heap.size + 1, 11, none⟩ = some (.slice x.A x.n x.c) ∧ W.cell? ⟨w.heap.size + 1, 12, none⟩ = some (.slice x.B x.m x.d)) ∧ (W.cell? ⟨w2.heap.size, 0, none⟩ = some (.int .i64 x.op) ∧ W.cell? ⟨w2.heap.size, 1, none⟩ = some (.int .i64 x.htype) ∧ W.cell? ⟨w2.heap.size, 2, none⟩ = some (.int .i64 x.hlen) ∧ W.cell? ⟨w2.heap.size, 3, none⟩ = some (.int .i64 x.hops) ∧ W.cell? ⟨w2.heap.size, 4, none⟩ = some (.int .i64 x.xid) ∧ W.cell? ⟨w2.heap.size, 5, none⟩ = some (.int .i64 x.secs) ∧ W.cell? ⟨w2.heap.size, 6, none⟩ = some (.int .i64 x.flags)) ∧ W.cell? ⟨w2.heap.size, 7, none⟩ = some (.int .i64 x.ci) ∧ W.cell? ⟨w2.heap.size, 8, none⟩ = some (.int .i64 x.yi) ∧ W.cell? ⟨w2.heap.size, 9, none⟩ = some (.int .i64 x.si) ∧ W.cell? ⟨w2.heap.size, 10, none⟩ = some (.int .i64 x.gi) ∧ W.cell? ⟨w2.heap.size, 11, none⟩ = some (.slice x.A x.n x.c) ∧ W.cell? ⟨w2.heap.size, 12, none⟩ = some (.slice x.B x.m x.d))
        (((refine SA.out _ ?_); first
          | (with_reducible exact (Below.refl _ _))
          | (with_reducible exact (Below.refl _ _).drew)
          | (with_reducible exact hbq2)
          | (with_reducible exact hbq1)))
        (first
          | (go_simp; go_at_call 8; (with_reducible refine (A1.out _ (Below.refl _ _).drew).mono ?_); rintro ee wq1 ⟨rfl, hbu⟩; have hbq1 : Below w5.heap.size w5 wq1 := below_undrew hbu)
          | (go_simp; go_at_call 9; (with_reducible refine (A2.out _ (Below.refl _ _).drew).mono ?_); rintro ee wq1 ⟨rfl, hbu⟩; have hbq1 : Below w5.heap.size w5 wq1 := below_undrew hbu)
          | (go_simp; go_at_call 8; (with_reducible refine (A1.out _ hbq1).mono ?_); rintro ee wq2 ⟨rfl, hbu⟩; have hbq2 : Below w5.heap.size w5 wq2 := tr hbq1 hbu)
          | (go_simp; go_at_call 9; (with_reducible refine (A2.out _ hbq1).mono ?_); rintro ee wq2 ⟨rfl, hbu⟩; have hbq2 : Below w5.heap.size w5 wq2 := tr hbq1 hbu))
      all_goals (
        clear m0 m1 m2 m3 m4 m5 m6 m7 m8 m9 m10 m11 m12 q0 q1 q2 q3 q4 q5 q6 q7 q8 q9 q10 q11 q12
        go_wp2_with fail
        go_meet
        exact ⟨rfl, Lib.hid hbq2⟩)
    case rest =>
    obtain ⟨rfl, HBZ⟩ := hcut
    obtain ⟨w6, hww⟩ : ∃ q, q = wc := ⟨_, rfl⟩
    subst hww
    clear hvv A1 A2 SA
    have HB6 := Lib.hid (tr HB5.out HBZ.out)
    have HC6 := Lib.hid (HC5.out.below HBZ.out HC5.out.lt)
    have HK6 := Lib.hid (HK5.out.below HBZ.out HK5.out.lt)
    have HY6 := Lib.hid (HY5.out.below HBZ.out HY5.out.lt)
    have HYO6 := Lib.hid (HYO.out.below HBZ.out)
    clear HC5 HM5 HK5 HY5 HBZ HYO
    obtain ⟨c0, c1, c2⟩ := cel3C HC6.out
    obtain ⟨⟨q0, q1, q2, q3, q4, q5, q6⟩, q7, q8, q9, q10, q11, q12⟩ := celM_all HK6.out
    have HFC := Lib.hid (refFair_any c net sub x kind yi w.heap.size w6 (HCO.out _ HB6.out) HB6.out.size HS.out (HXO.out _ HB6.out))
    rw [HFR.out] at HFC
    go_wp2_with fail
    refine HFC.out.mono ?_
    rintro e w7 ⟨rfl, hb7⟩
    have HB7 := Lib.hid (tr HB6.out hb7)
    have HC7 := Lib.hid (HC6.out.below hb7 HC6.out.lt)
    have HK7 := Lib.hid (HK6.out.below hb7 HK6.out.lt)
    have HY7 := Lib.hid (HY6.out.below hb7 HY6.out.lt)
    have HYO7 := Lib.hid (HYO6.out.below hb7)
    clear hb7 c0 c1 c2 q0 q1 q2 q3 q4 q5 q6 q7 q8 q9 q10 q11 q12
    have HMK := Lib.hid (fun W (hW : Below w7.heap.size w7 W) => refMake_any c net sub x kind yi w.heap.size W (HCO.out _ (tr HB7.out hW)) (tr HB7.out hW).size (HXO.out _ (tr HB7.out hW)) HFR.out)
    have SB := Lib.hid (fun W (hW : Below w7.heap.size w7 W) => And.intro (cel3C (HC7.out.below hW HC7.out.lt)) (And.intro (celM_all (HK7.out.below hW HK7.out.lt)) (celM_all (HY7.out.below hW HY7.out.lt))))
    have HAS := Lib.hid (fun W => Mw.as_msg y W)
    have HYO8 := Lib.hid (fun W (hW : Below w7.heap.size w7 W) => HYO7.out.below hW)
    have HKN := Lib.hid (fun W => Rpw.knows_yes W)
    go_wp2_with fail
    obtain ⟨⟨c0, c1, c2⟩, ⟨⟨q0, q1, q2, q3, q4, q5, q6⟩, q7, q8, q9, q10, q11, q12⟩, ⟨y0, y1, y2, y3, y4, y5, y6⟩, y7, y8, y9, y10, y11, y12⟩ := SB.out w7 (Below.refl _ _)
    go_region_held3 (fun W => (W.cell? ⟨w.heap.size, 0, none⟩ = some (.int .i64 c.server) ∧ W.cell? ⟨w.heap.size, 1, none⟩ = some (.int .i64 c.prob) ∧ W.cell? ⟨w.heap.size, 2, none⟩ = some (.slice c.A c.n c.c)) ∧ ((W.cell? ⟨w2.heap.size, 0, none⟩ = some (.int .i64 x.op) ∧ W.cell? ⟨w2.heap.size, 1, none⟩ = some (.int .i64 x.htype) ∧ W.cell? ⟨w2.heap.size, 2, none⟩ = some (.int .i64 x.hlen) ∧ W.cell? ⟨w2.heap.size, 3, none⟩ = some (.int .i64 x.hops) ∧ W.cell? ⟨w2.heap.size, 4, none⟩ = some (.int .i64 x.xid) ∧ W.cell? ⟨w2.heap.size, 5, none⟩ = some (.int .i64 x.secs) ∧ W.cell? ⟨w2.heap.size, 6, none⟩ = some (.int .i64 x.flags)) ∧ W.cell? ⟨w2.heap.size, 7, none⟩ = some (.int .i64 x.ci) ∧ W.cell? ⟨w2.heap.size, 8, none⟩ = some (.int .i64 x.yi) ∧ W.cell? ⟨w2.heap.size, 9, none⟩ = some (.int .i64 x.si) ∧ W.cell? ⟨w2.heap.size, 10, none⟩ = some (.int .i64 x.gi) ∧ W.cell? ⟨w2.heap.size, 11, none⟩ = some (.slice x.A x.n x.c) ∧ W.cell? ⟨w2.heap.size, 12, none⟩ = some (.slice x.B x.m x.d)) ∧ (W.cell? ⟨w4.heap.size, 0, none⟩ = some (.int .i64 y.op) ∧ W.cell? ⟨w4.heap.size, 1, none⟩ = some (.int .i64 y.htype) ∧ W.cell? ⟨w4.heap.size, 2, none⟩ = some (.int .i64 y.hlen) ∧ W.cell? ⟨w4.heap.size, 3, none⟩ = some (.int .i64 y.hops) ∧ W.cell? ⟨w4.heap.size, 4, none⟩ = some (.int .i64 y.xid) ∧ W.cell? ⟨w4.heap.size, 5, none⟩ = some (.int .i64 y.secs) ∧ W.cell? ⟨w4.heap.size, 6, none⟩ = some (.int .i64 y.flags)) ∧ W.cell? ⟨w4.heap.size, 7, none⟩ = some (.int .i64 y.ci) ∧ W.cell? ⟨w4.heap.size, 8, none⟩ = some (.int .i64 y.yi) ∧ W.cell? ⟨w4.heap.size, 9, none⟩ = some (.int .i64 y.si) ∧ W.cell? ⟨w4.heap.size, 10, none⟩ = some (.int .i64 y.gi) ∧ W.cell? ⟨w4.heap.size, 11, none⟩ = some (.slice y.A y.n y.c) ∧ W.cell? ⟨w4.heap.size, 12, none⟩ = some (.slice y.B y.m y.d))
      (((refine SB.out _ ?_); first
        | (with_reducible exact (Below.refl _ _))
        | (with_reducible exact (Below.refl _ _).drew)
        | (with_reducible exact hbq4)
        | (with_reducible exact hbq3)
        | (with_reducible exact hbq2)
        | (with_reducible exact hbq1)))
      (first
        | (go_simp; go_at_call 6; have hq := hbq1; (with_reducible refine (HAS.out _).mono ?_); rintro ee wq2 ⟨rfl, hbu⟩; have hbq2 : Below w7.heap.size w7 wq2 := tr hbq1 hbu; have HRO2 := Lib.hid (HRO.out.below hbu); clear hq)
        | (go_simp; go_at_call 6; (with_reducible refine (HAS.out _).mono ?_); rintro ee wq1 ⟨rfl, hbu⟩; have hbq1 : Below w7.heap.size w7 wq1 := below_undrew hbu)
        | (go_simp; go_at_call 12; have hq := hbq1; (with_reducible refine (HMK.out _ hbq1).mono ?_); rintro ee wq2 ⟨r, rfl, hro, hrm, hbu⟩; have hbq2 : Below w7.heap.size w7 wq2 := tr hbq1 hbu; have HRO2 := Lib.hid hro; have HRM := Lib.hid hrm; clear hq hro hrm)
        | (go_simp; go_at_call 12; (with_reducible refine (HMK.out _ (Below.refl _ _).drew).mono ?_); rintro ee wq1 ⟨r, rfl, hro, hrm, hbu⟩; have hbq1 : Below w7.heap.size w7 wq1 := below_undrew hbu; have HRO := Lib.hid hro; have HRM := Lib.hid hrm; clear hro hrm)
        | (go_simp; go_at_call 11; (with_reducible refine (Mw.same_yes y r _ (HYO8.out _ hbq2) HRO2.out (HYM.out.trans HRM.out.symm)).mono ?_); rintro ee wq3 ⟨rfl, hbu⟩; have hbq3 : Below w7.heap.size w7 wq3 := tr hbq2 hbu)
        | (go_simp; go_at_call 5; (with_reducible refine (HKN.out _).mono ?_); rintro ee wq4 ⟨rfl, hbu⟩; have hbq4 : Below w7.heap.size w7 wq4 := tr hbq3 hbu))
    all_goals (
      clear c0 c1 c2 q0 q1 q2 q3 q4 q5 q6 q7 q8 q9 q10 q11 q12 y0 y1 y2 y3 y4 y5 y6 y7 y8 y9 y10 y11 y12
      go_wp2
      go_ret
      exact ⟨rfl, tr HB7.out hbq4⟩)
end Go.Proofs.YtabjcgchcnnjjaaGreat
