/- The walk of ClassOf: it returns true, and what was in memory stays. For all inputs. -/
import Derived.Test.YtmefnlgoejbgfaaGwKnows
import Derived.Deep.RegionHeld3
set_option maxRecDepth 8000
namespace Go.Proofs.Ytmefnlgoejbgfaa
open Go.RowKit Tl Co Ms By Cl Ow Gw
open Pw (boxM celM_all alloc_more small_ms)

set_option maxHeartbeats 16000000 in
theorem classOf_walk (x : Mv) (s : Int) (w : World) (h : x.ok w) (_ : (Lit.int .i64 s).wf = true) : Calls Try.prog 3 #[x.v, .int .i64 s] w (isTrue w) := by
  obtain ⟨w0, hw0, hc0, hb0, hz⟩ := boxM w x 25
  have hx0 := h.below hb0
  have HG := Lib.hid (Mw.great_msg x w0 hx0)
  have HB := Lib.hid hb0
  have HM := Lib.hid hc0
  have HB0 := Lib.hid (Below.refl w0.heap.size w0)
  cases hg : Mw.greatM x.mm with
  | true =>
    rw [hg] at HG
    clear hg hc0 hb0 h hz hx0
    go_enter Try.func3, Try.ntmps3
    go_upto_region 1 with fail
    rw [← hw0]
    clear hw0
    obtain ⟨⟨m0, m1, m2, m3, m4, m5, m6⟩, m7, m8, m9, m10, m11, m12⟩ := celM_all (HM.out.below HB0.out HM.out.lt)
    go_wp2_with fail
    refine (HG.out).mono ?_
    rintro e w1 ⟨rfl, hb⟩
    have HB1 := Lib.hid (HB0.out.trans (hb.mono HB0.out.size))
    clear hb m0 m1 m2 m3 m4 m5 m6 m7 m8 m9 m10 m11 m12
    go_wp2_with fail
    refine (knows_yes _).mono ?_
    rintro e w2 ⟨rfl, hb⟩
    have HB2 := Lib.hid (HB1.out.trans (hb.mono HB1.out.size))
    clear hb
    go_wp2
    go_ret
    exact ⟨rfl, HB.out.trans (HB2.out.mono HB.out.size)⟩
  | false =>
    rw [hg] at HG
    have hsm := small_ms hg
    have HO := Lib.hid (fun W (hW : Below w0.heap.size w0 W) => of_any x W (hx0.below hW) hsm)
    have HA := Lib.hid (fun W (hW : Below w0.heap.size w0 W) => about_any x W (hx0.below hW) hsm)
    have HF := Lib.hid (fun W (hW : Below w0.heap.size w0 W) => foreign_any x s W (hx0.below hW) hsm)
    have RO := Lib.hid (fun W (hW : Below w0.heap.size w0 W) => refOf_any x W (hx0.below hW))
    have RA := Lib.hid (fun W (hW : Below w0.heap.size w0 W) => refAbout_any x W (hx0.below hW))
    have RF := Lib.hid (fun W (hW : Below w0.heap.size w0 W) => refForeign_any x s W (hx0.below hW))
    generalize classL x.mm = kk at HO RO
    generalize aboutL x.mm = aa at HA RA
    generalize foreignL x.mm s = ff at HF RF
    clear hg hsm hc0 hb0 h hx0
    go_enter Try.func3, Try.ntmps3
    go_upto_region 1 with fail
    rw [← hw0]
    clear hw0
    obtain ⟨⟨m0, m1, m2, m3, m4, m5, m6⟩, m7, m8, m9, m10, m11, m12⟩ := celM_all (HM.out.below HB0.out HM.out.lt)
    go_wp2_with fail
    refine (HG.out).mono ?_
    rintro e w1 ⟨rfl, hb⟩
    have HB1 := Lib.hid (HB0.out.trans (hb.mono HB0.out.size))
    clear hb m0 m1 m2 m3 m4 m5 m6 m7 m8 m9 m10 m11 m12
    obtain ⟨⟨m0, m1, m2, m3, m4, m5, m6⟩, m7, m8, m9, m10, m11, m12⟩ := celM_all (HM.out.below HB1.out HM.out.lt)
    go_wp2_with fail
    refine (Mw.as_msg x w1).mono ?_
    rintro e w2 ⟨rfl, hb⟩
    have HB2 := Lib.hid (HB1.out.trans (hb.mono HB1.out.size))
    clear hb m0 m1 m2 m3 m4 m5 m6 m7 m8 m9 m10 m11 m12
    obtain ⟨wk, hwk⟩ : ∃ wk, wk = w2.alloc (.cells #[.int .i64 x.op, .int .i64 x.htype, .int .i64 x.hlen, .int .i64 x.hops, .int .i64 x.xid, .int .i64 x.secs, .int .i64 x.flags, .int .i64 x.ci, .int .i64 x.yi, .int .i64 x.si, .int .i64 x.gi, .slice x.A x.n x.c, .slice x.B x.m x.d] 28) := ⟨_, rfl⟩
    have hbk : Below w2.heap.size w2 wk := by rw [hwk]; exact alloc_more _ _
    have HCK := Lib.hid (show Cel wk w2.heap.size 28 x.cells by rw [hwk]; exact Cel.born _ _ _)
    have HBK := Lib.hid (HB2.out.trans (hbk.mono HB2.out.size))
    clear hbk
    go_upto_region 4 with fail
    rw [← hwk]
    clear hwk
    have HS : Hid (∀ W, Below wk.heap.size wk W → ((W.cell? ⟨w.heap.size, 0, none⟩ = some (.int .i64 x.op) ∧ W.cell? ⟨w.heap.size, 1, none⟩ = some (.int .i64 x.htype) ∧ W.cell? ⟨w.heap.size, 2, none⟩ = some (.int .i64 x.hlen) ∧ W.cell? ⟨w.heap.size, 3, none⟩ = some (.int .i64 x.hops) ∧ W.cell? ⟨w.heap.size, 4, none⟩ = some (.int .i64 x.xid) ∧ W.cell? ⟨w.heap.size, 5, none⟩ = some (.int .i64 x.secs) ∧ W.cell? ⟨w.heap.size, 6, none⟩ = some (.int .i64 x.flags)) ∧ W.cell? ⟨w.heap.size, 7, none⟩ = some (.int .i64 x.ci) ∧ W.cell? ⟨w.heap.size, 8, none⟩ = some (.int .i64 x.yi) ∧ W.cell? ⟨w.heap.size, 9, none⟩ = some (.int .i64 x.si) ∧ W.cell? ⟨w.heap.size, 10, none⟩ = some (.int .i64 x.gi) ∧ W.cell? ⟨w.heap.size, 11, none⟩ = some (.slice x.A x.n x.c) ∧ W.cell? ⟨w.heap.size, 12, none⟩ = some (.slice x.B x.m x.d)) ∧ (W.cell? ⟨w2.heap.size, 0, none⟩ = some (.int .i64 x.op) ∧ W.cell? ⟨w2.heap.size, 1, none⟩ = some (.int .i64 x.htype) ∧ W.cell? ⟨w2.heap.size, 2, none⟩ = some (.int .i64 x.hlen) ∧ W.cell? ⟨w2.heap.size, 3, none⟩ = some (.int .i64 x.hops) ∧ W.cell? ⟨w2.heap.size, 4, none⟩ = some (.int .i64 x.xid) ∧ W.cell? ⟨w2.heap.size, 5, none⟩ = some (.int .i64 x.secs) ∧ W.cell? ⟨w2.heap.size, 6, none⟩ = some (.int .i64 x.flags)) ∧ W.cell? ⟨w2.heap.size, 7, none⟩ = some (.int .i64 x.ci) ∧ W.cell? ⟨w2.heap.size, 8, none⟩ = some (.int .i64 x.yi) ∧ W.cell? ⟨w2.heap.size, 9, none⟩ = some (.int .i64 x.si) ∧ W.cell? ⟨w2.heap.size, 10, none⟩ = some (.int .i64 x.gi) ∧ W.cell? ⟨w2.heap.size, 11, none⟩ = some (.slice x.A x.n x.c) ∧ W.cell? ⟨w2.heap.size, 12, none⟩ = some (.slice x.B x.m x.d)) := fun W hW => ⟨celM_all (HM.out.below (HBK.out.trans (hW.mono HBK.out.size)) HM.out.lt), celM_all (HCK.out.below hW HCK.out.lt)⟩
    obtain ⟨⟨⟨m0, m1, m2, m3, m4, m5, m6⟩, m7, m8, m9, m10, m11, m12⟩, ⟨⟨n0, n1, n2, n3, n4, n5, n6⟩, n7, n8, n9, n10, n11, n12⟩⟩ := HS.out wk (Below.refl _ _)
    clear HB0 HB1 HB2
    go_region_held3 (fun W => ((W.cell? ⟨w.heap.size, 0, none⟩ = some (.int .i64 x.op) ∧ W.cell? ⟨w.heap.size, 1, none⟩ = some (.int .i64 x.htype) ∧ W.cell? ⟨w.heap.size, 2, none⟩ = some (.int .i64 x.hlen) ∧ W.cell? ⟨w.heap.size, 3, none⟩ = some (.int .i64 x.hops) ∧ W.cell? ⟨w.heap.size, 4, none⟩ = some (.int .i64 x.xid) ∧ W.cell? ⟨w.heap.size, 5, none⟩ = some (.int .i64 x.secs) ∧ W.cell? ⟨w.heap.size, 6, none⟩ = some (.int .i64 x.flags)) ∧ W.cell? ⟨w.heap.size, 7, none⟩ = some (.int .i64 x.ci) ∧ W.cell? ⟨w.heap.size, 8, none⟩ = some (.int .i64 x.yi) ∧ W.cell? ⟨w.heap.size, 9, none⟩ = some (.int .i64 x.si) ∧ W.cell? ⟨w.heap.size, 10, none⟩ = some (.int .i64 x.gi) ∧ W.cell? ⟨w.heap.size, 11, none⟩ = some (.slice x.A x.n x.c) ∧ W.cell? ⟨w.heap.size, 12, none⟩ = some (.slice x.B x.m x.d)) ∧ (W.cell? ⟨w2.heap.size, 0, none⟩ = some (.int .i64 x.op) ∧ W.cell? ⟨w2.heap.size, 1, none⟩ = some (.int .i64 x.htype) ∧ W.cell? ⟨w2.heap.size, 2, none⟩ = some (.int .i64 x.hlen) ∧ W.cell? ⟨w2.heap.size, 3, none⟩ = some (.int .i64 x.hops) ∧ W.cell? ⟨w2.heap.size, 4, none⟩ = some (.int .i64 x.xid) ∧ W.cell? ⟨w2.heap.size, 5, none⟩ = some (.int .i64 x.secs) ∧ W.cell? ⟨w2.heap.size, 6, none⟩ = some (.int .i64 x.flags)) ∧ W.cell? ⟨w2.heap.size, 7, none⟩ = some (.int .i64 x.ci) ∧ W.cell? ⟨w2.heap.size, 8, none⟩ = some (.int .i64 x.yi) ∧ W.cell? ⟨w2.heap.size, 9, none⟩ = some (.int .i64 x.si) ∧ W.cell? ⟨w2.heap.size, 10, none⟩ = some (.int .i64 x.gi) ∧ W.cell? ⟨w2.heap.size, 11, none⟩ = some (.slice x.A x.n x.c) ∧ W.cell? ⟨w2.heap.size, 12, none⟩ = some (.slice x.B x.m x.d))
      (first
        | exact HS.out _ hbq7
        | exact HS.out _ hbq6
        | exact HS.out _ hbq5
        | exact HS.out _ hbq4
        | exact HS.out _ hbq3
        | exact HS.out _ hbq2
        | exact HS.out _ hbq1
        | exact HS.out _ (Below.refl _ _)
        | exact HS.out _ (Below.refl _ _).drew)
      (first
        | (go_simp; go_at_call 10; (with_reducible refine (HO.out _ (HBK.out.trans (Below.refl _ _).drew)).mono ?_); rintro ee wq1 ⟨rfl, hbv⟩; have hbq1 : Below wk.heap.size wk wq1 := (show Below wk.heap.size wk _ from (Below.refl _ _).drew).trans (hbv.mono (show Below wk.heap.size wk _ from (Below.refl _ _).drew).size); clear hbv)
        | (go_simp; go_at_call 11; (with_reducible refine (RO.out _ (HBK.out.trans (hbq1.mono HBK.out.size))).mono ?_); rintro ee wq2 ⟨rfl, hbv⟩; have hbq2 : Below wk.heap.size wk wq2 := (show Below wk.heap.size wk _ from hbq1).trans (hbv.mono (show Below wk.heap.size wk _ from hbq1).size); clear hbv)
        | (go_simp; go_at_call 12; (with_reducible refine (HA.out _ (HBK.out.trans (hbq2.mono HBK.out.size))).mono ?_); rintro ee wq3 ⟨rfl, hbv⟩; have hbq3 : Below wk.heap.size wk wq3 := (show Below wk.heap.size wk _ from hbq2).trans (hbv.mono (show Below wk.heap.size wk _ from hbq2).size); clear hbv)
        | (go_simp; go_at_call 13; (with_reducible refine (RA.out _ (HBK.out.trans (hbq3.mono HBK.out.size))).mono ?_); rintro ee wq4 ⟨rfl, hbv⟩; have hbq4 : Below wk.heap.size wk wq4 := (show Below wk.heap.size wk _ from hbq3).trans (hbv.mono (show Below wk.heap.size wk _ from hbq3).size); clear hbv)
        | (go_simp; go_at_call 14; (with_reducible refine (HF.out _ (HBK.out.trans (hbq4.mono HBK.out.size))).mono ?_); rintro ee wq5 ⟨rfl, hbv⟩; have hbq5 : Below wk.heap.size wk wq5 := (show Below wk.heap.size wk _ from hbq4).trans (hbv.mono (show Below wk.heap.size wk _ from hbq4).size); clear hbv)
        | (go_simp; go_at_call 15; (with_reducible refine (RF.out _ (HBK.out.trans (hbq5.mono HBK.out.size))).mono ?_); rintro ee wq6 ⟨rfl, hbv⟩; have hbq6 : Below wk.heap.size wk wq6 := (show Below wk.heap.size wk _ from hbq5).trans (hbv.mono (show Below wk.heap.size wk _ from hbq5).size); clear hbv)
        | (go_simp; go_at_call 8; (with_reducible refine (knows_yes _).mono ?_); rintro ee wq7 ⟨rfl, hbv⟩; have hbq7 : Below wk.heap.size wk wq7 := (show Below wk.heap.size wk _ from hbq6).trans (hbv.mono (show Below wk.heap.size wk _ from hbq6).size); clear hbv)
)
    all_goals (
      have HE := Lib.hid (HB.out.trans ((HBK.out.trans (hbq7.mono HBK.out.size)).mono HB.out.size))
      go_wp2
      go_ret
      exact ⟨rfl, HE.out⟩)
end Go.Proofs.Ytmefnlgoejbgfaa
