/- The walk of PickSubnets: it returns true, and what was in memory stays. Condition: the configuration and the message read. -/
import Derived.Test.YtehanbmnkoebcaaGreatPwKnows
import Derived.Test.YtehanbmnkoebcaaGreatPwRfSub
import Derived.Test.YtehanbmnkoebcaaGreatVwF
set_option maxRecDepth 8000
namespace Go.Proofs.YtehanbmnkoebcaaGreat
open Go.RowKit Tl Co Ms Ry Cf Ad By Pk Pw
open Vw (Cx FiR cel3C)
theorem s16 {w W : World} {c : Cx} {x : Mv} (hc : Cel W w.heap.size 24 c.cs) (hm : Cel W (w.heap.size + 1) 28 x.cells) : (W.cell? ⟨w.heap.size, 0, none⟩ = some (.int .i64 c.server) ∧ W.cell? ⟨w.heap.size, 1, none⟩ = some (.int .i64 c.prob) ∧ W.cell? ⟨w.heap.size, 2, none⟩ = some (.slice c.A c.n c.c)) ∧ (W.cell? ⟨w.heap.size + 1, 0, none⟩ = some (.int .i64 x.op) ∧ W.cell? ⟨w.heap.size + 1, 1, none⟩ = some (.int .i64 x.htype) ∧ W.cell? ⟨w.heap.size + 1, 2, none⟩ = some (.int .i64 x.hlen) ∧ W.cell? ⟨w.heap.size + 1, 3, none⟩ = some (.int .i64 x.hops) ∧ W.cell? ⟨w.heap.size + 1, 4, none⟩ = some (.int .i64 x.xid) ∧ W.cell? ⟨w.heap.size + 1, 5, none⟩ = some (.int .i64 x.secs) ∧ W.cell? ⟨w.heap.size + 1, 6, none⟩ = some (.int .i64 x.flags)) ∧ W.cell? ⟨w.heap.size + 1, 7, none⟩ = some (.int .i64 x.ci) ∧ W.cell? ⟨w.heap.size + 1, 8, none⟩ = some (.int .i64 x.yi) ∧ W.cell? ⟨w.heap.size + 1, 9, none⟩ = some (.int .i64 x.si) ∧ W.cell? ⟨w.heap.size + 1, 10, none⟩ = some (.int .i64 x.gi) ∧ W.cell? ⟨w.heap.size + 1, 11, none⟩ = some (.slice x.A x.n x.c) ∧ W.cell? ⟨w.heap.size + 1, 12, none⟩ = some (.slice x.B x.m x.d) := ⟨cel3C hc, celM_all hm⟩

set_option maxHeartbeats 16000000 in
theorem pickSubnets_walk (c : Cx) (x : Mv) (i : Int) (w : World) (hc : c.ok w.heap.size w) (h : x.ok w) : Calls Tryz.prog 3 #[c.v, x.v, .int .i64 i] w (isTrue w) := by
  obtain ⟨w0, hw0, hc0, hm0, hb0, hz⟩ := boxCM w c x 28
  have hx0 := h.below hb0
  have hk0 := hc.below hb0
  have hU0 := hb0.size
  have HG := Lib.hid (Mw.great_msg x w0 hx0)
  have HGC := Lib.hid (fun W (hW : Below w0.heap.size w0 W) => Vw.great_any c w.heap.size W (hk0.below (hW.mono hU0)) (Nat.le_trans hU0 hW.size))
  have HB := Lib.hid hb0
  have HM := Lib.hid hm0
  have HC := Lib.hid hc0
  have HB0 := Lib.hid (Below.refl w0.heap.size w0)
  cases hg : Mw.greatM x.mm with
  | true =>
    rw [hg] at HG
    clear hg hc0 hm0 hb0 h hc hz HGC hx0 hk0 hU0
    go_enter Tryz.func3, Tryz.ntmps3
    go_wp2_with fail
    rw [← hw0]
    clear hw0
    refine HG.out.mono ?_
    rintro e w1 ⟨rfl, hb⟩
    have HB1 := Lib.hid hb
    clear hb
    go_wp2_with fail
    refine (Pw.knows_yes _).mono ?_
    rintro e wz ⟨rfl, hbz⟩
    go_wp2
    go_ret
    exact ⟨rfl, HB.out.trans ((HB1).out.trans (hbz.mono (HB1).out.size) |>.mono HB.out.size)⟩
  | false =>
  rw [hg] at HG
  cases hgc : greatC c.cf with
  | true =>
    rw [hgc] at HGC
    clear hg hgc hc0 hm0 hb0 h hc hz hx0 hk0 hU0
    go_enter Tryz.func3, Tryz.ntmps3
    go_wp2_with fail
    rw [← hw0]
    clear hw0
    refine HG.out.mono ?_
    rintro e w1 ⟨rfl, hb⟩
    have HB1 := Lib.hid hb
    clear hb
    obtain ⟨x0, x1, x2⟩ := cel3C (HC.out.below HB1.out HC.out.lt)
    go_wp2_with fail
    refine (HGC.out w1 HB1.out).mono ?_
    rintro e w2 ⟨rfl, hb⟩
    have HB2 := Lib.hid (HB1.out.trans (hb.mono HB1.out.size))
    clear hb x0 x1 x2
    go_wp2_with fail
    refine (Pw.knows_yes _).mono ?_
    rintro e wz ⟨rfl, hbz⟩
    go_wp2
    go_ret
    exact ⟨rfl, HB.out.trans ((HB2).out.trans (hbz.mono (HB2).out.size) |>.mono HB.out.size)⟩
  | false =>
  rw [hgc] at HGC
  have hsm := small_ms hg
  have hS := small_iff.1 hgc
  clear hg hgc
  have HP := Lib.hid (fun W (hW : Below w0.heap.size w0 W) => subnet_any c x i w.heap.size W (hk0.below (hW.mono hU0)) (Nat.le_trans hU0 hW.size) hS (hx0.below hW) hsm)
  have HR := Lib.hid (fun W (hW : Below w0.heap.size w0 W) => refSubnet_any c x i w.heap.size W (hk0.below (hW.mono hU0)) (Nat.le_trans hU0 hW.size) hS (hx0.below hW))
  generalize subnetM c.cf x.mm i = t at HP HR
  obtain ⟨t1, t2, t3⟩ := t
  have he1 : (t1 == t1) = true := beq_self_eq_true _
  have he2 : (t2 == t2) = true := beq_self_eq_true _
  have he3 : (t3 == t3) = true := beq_self_eq_true _
  clear hc0 hm0 hb0 h hc hz hx0 hk0 hU0 hS hsm
  go_enter Tryz.func3, Tryz.ntmps3
  go_wp2_with fail
  rw [← hw0]
  clear hw0
  refine HG.out.mono ?_
  rintro e w1 ⟨rfl, hb⟩
  have HB1 := Lib.hid hb
  clear hb
  obtain ⟨x0, x1, x2⟩ := cel3C (HC.out.below HB1.out HC.out.lt)
  go_wp2_with fail
  refine (HGC.out w1 HB1.out).mono ?_
  rintro e w2 ⟨rfl, hb⟩
  have HB2 := Lib.hid (HB1.out.trans (hb.mono HB1.out.size))
  clear hb x0 x1 x2
  obtain ⟨⟨m0, m1, m2, m3, m4, m5, m6⟩, m7, m8, m9, m10, m11, m12⟩ := celM_all (HM.out.below HB2.out HM.out.lt)
  obtain ⟨x0, x1, x2⟩ := cel3C (HC.out.below HB2.out HC.out.lt)
  go_wp2_with fail
  refine (HP.out w2 HB2.out).mono ?_
  rintro e w3 ⟨rfl, hb⟩
  have HB3 := Lib.hid (HB2.out.trans (hb.mono HB2.out.size))
  clear hb m0 m1 m2 m3 m4 m5 m6 m7 m8 m9 m10 m11 m12 x0 x1 x2
  obtain ⟨⟨m0, m1, m2, m3, m4, m5, m6⟩, m7, m8, m9, m10, m11, m12⟩ := celM_all (HM.out.below HB3.out HM.out.lt)
  obtain ⟨x0, x1, x2⟩ := cel3C (HC.out.below HB3.out HC.out.lt)
  have HS : Hid (∀ W, Below w3.heap.size w3 W → (W.cell? ⟨w.heap.size, 0, none⟩ = some (.int .i64 c.server) ∧ W.cell? ⟨w.heap.size, 1, none⟩ = some (.int .i64 c.prob) ∧ W.cell? ⟨w.heap.size, 2, none⟩ = some (.slice c.A c.n c.c)) ∧ (W.cell? ⟨w.heap.size + 1, 0, none⟩ = some (.int .i64 x.op) ∧ W.cell? ⟨w.heap.size + 1, 1, none⟩ = some (.int .i64 x.htype) ∧ W.cell? ⟨w.heap.size + 1, 2, none⟩ = some (.int .i64 x.hlen) ∧ W.cell? ⟨w.heap.size + 1, 3, none⟩ = some (.int .i64 x.hops) ∧ W.cell? ⟨w.heap.size + 1, 4, none⟩ = some (.int .i64 x.xid) ∧ W.cell? ⟨w.heap.size + 1, 5, none⟩ = some (.int .i64 x.secs) ∧ W.cell? ⟨w.heap.size + 1, 6, none⟩ = some (.int .i64 x.flags)) ∧ W.cell? ⟨w.heap.size + 1, 7, none⟩ = some (.int .i64 x.ci) ∧ W.cell? ⟨w.heap.size + 1, 8, none⟩ = some (.int .i64 x.yi) ∧ W.cell? ⟨w.heap.size + 1, 9, none⟩ = some (.int .i64 x.si) ∧ W.cell? ⟨w.heap.size + 1, 10, none⟩ = some (.int .i64 x.gi) ∧ W.cell? ⟨w.heap.size + 1, 11, none⟩ = some (.slice x.A x.n x.c) ∧ W.cell? ⟨w.heap.size + 1, 12, none⟩ = some (.slice x.B x.m x.d)) := fun W hW => s16 (HC.out.below (HB3.out.trans (hW.mono HB3.out.size)) HC.out.lt) (HM.out.below (HB3.out.trans (hW.mono HB3.out.size)) HM.out.lt)
  have HAS := Lib.hid (Mw.as_msg x w3.drew)
  go_wp2_with fail
  go_region_held3 (fun W => (W.cell? ⟨w.heap.size, 0, none⟩ = some (.int .i64 c.server) ∧ W.cell? ⟨w.heap.size, 1, none⟩ = some (.int .i64 c.prob) ∧ W.cell? ⟨w.heap.size, 2, none⟩ = some (.slice c.A c.n c.c)) ∧ (W.cell? ⟨w.heap.size + 1, 0, none⟩ = some (.int .i64 x.op) ∧ W.cell? ⟨w.heap.size + 1, 1, none⟩ = some (.int .i64 x.htype) ∧ W.cell? ⟨w.heap.size + 1, 2, none⟩ = some (.int .i64 x.hlen) ∧ W.cell? ⟨w.heap.size + 1, 3, none⟩ = some (.int .i64 x.hops) ∧ W.cell? ⟨w.heap.size + 1, 4, none⟩ = some (.int .i64 x.xid) ∧ W.cell? ⟨w.heap.size + 1, 5, none⟩ = some (.int .i64 x.secs) ∧ W.cell? ⟨w.heap.size + 1, 6, none⟩ = some (.int .i64 x.flags)) ∧ W.cell? ⟨w.heap.size + 1, 7, none⟩ = some (.int .i64 x.ci) ∧ W.cell? ⟨w.heap.size + 1, 8, none⟩ = some (.int .i64 x.yi) ∧ W.cell? ⟨w.heap.size + 1, 9, none⟩ = some (.int .i64 x.si) ∧ W.cell? ⟨w.heap.size + 1, 10, none⟩ = some (.int .i64 x.gi) ∧ W.cell? ⟨w.heap.size + 1, 11, none⟩ = some (.slice x.A x.n x.c) ∧ W.cell? ⟨w.heap.size + 1, 12, none⟩ = some (.slice x.B x.m x.d))
    (first
      | exact HS.out _ (Below.refl _ _)
      | exact HS.out _ (Below.refl _ _).drew
      | exact HS.out _ hbq2
      | exact HS.out _ hbq1)
    (first
      | (go_simp; go_at_call 9; (with_reducible refine HAS.out.mono ?_); rintro ee wq1 ⟨rfl, hbu⟩; have hbq1 : Below w3.heap.size w3 wq1 := below_undrew hbu)
      | (go_simp; go_at_call 8; (with_reducible refine (HR.out _ (HB3.out.trans (hbq1.mono HB3.out.size))).mono ?_); rintro ee w5 ⟨rfl, hbv⟩; have hbq2 : Below w3.heap.size w3 w5 := hbq1.trans (hbv.mono hbq1.size)))
  all_goals (
    have HB5 := Lib.hid (HB3.out.trans (hbq2.mono HB3.out.size))
    clear m0 m1 m2 m3 m4 m5 m6 m7 m8 m9 m10 m11 m12 x0 x1 x2
    go_wp2_with fail
    refine (Pw.knows_yes _).mono ?_
    rintro e wz ⟨rfl, hbz⟩
    go_wp2
    go_ret
    exact ⟨rfl, HB.out.trans ((HB5).out.trans (hbz.mono (HB5).out.size) |>.mono HB.out.size)⟩)
end Go.Proofs.YtehanbmnkoebcaaGreat
