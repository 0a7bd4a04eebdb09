/- The walk of PickWire: it returns true, and what was in memory stays. Condition: the configuration and the message read. -/
import Derived.Test.YtehanbmnkoebcaaPwKnows
import Derived.Test.YtehanbmnkoebcaaVwE
import Derived.Test.YtehanbmnkoebcaaVwF
set_option maxRecDepth 8000
namespace Go.Proofs.Ytehanbmnkoebcaa
open Go.RowKit Tl Co Ms Ry Cf Ad By Pk Pw
open Vw (Cx FiR cel3C)
open Mw (cels13)
/-- The message without options, Gi and Ci. -/
@[reducible] def withW (x : Mv) : Mv := ⟨x.op, x.htype, x.hlen, x.hops, x.xid, x.secs, x.flags, 0, x.yi, x.si, 0, x.A, x.n, x.c, x.ch, none, 0, 0, []⟩
theorem wire_cells {w : World} {g : Nat} {t : TypeId} (x : Mv) (h : Cel w g t x.cells) : Cel (((w.setCell ⟨g, 12, none⟩ (.slice none 0 0)).setCell ⟨g, 10, none⟩ (.int .i64 0)).setCell ⟨g, 7, none⟩ (.int .i64 0)) g t (withW x).cells := by
  have h2 := Mw.Cel.set (Mw.Cel.set (Mw.Cel.set h 12 (.slice none 0 0)) 10 (.int .i64 0)) 7 (.int .i64 0)
  exact h2
theorem wire_cells2 {w : World} {g : Nat} {t : TypeId} (x : Mv) (h : Cel w g t x.cells) : ∃ cs : Array Value, Cel ((w.setCell ⟨g, 12, none⟩ (.slice none 0 0)).setCell ⟨g, 10, none⟩ (.int .i64 0)) g t cs ∧ cs[7]? = some (.int .i64 x.ci) := ⟨_, Mw.Cel.set (Mw.Cel.set h 12 (.slice none 0 0)) 10 (.int .i64 0), rfl⟩
theorem wire_cells1 {w : World} {g : Nat} {t : TypeId} (x : Mv) (h : Cel w g t x.cells) : ∃ cs : Array Value, Cel (w.setCell ⟨g, 12, none⟩ (.slice none 0 0)) g t cs ∧ cs[10]? = some (.int .i64 x.gi) := ⟨_, Mw.Cel.set h 12 (.slice none 0 0), rfl⟩

set_option maxHeartbeats 16000000 in
theorem pickWire_walk (c : Cx) (x : Mv) (i : Int) (w : World) (hc : c.ok w.heap.size w) (h : x.ok w) : Calls Try.prog 5 #[c.v, x.v, .int .i64 i] w (isTrue w) := by
  obtain ⟨w0, hw0, hc0, hm0, hb0, hz⟩ := boxCM w c x 25
  have hx0 := h.below hb0
  have hk0 := hc.below hb0
  have hU0 := hb0.size
  have HG := Lib.hid (Mw.great_msg x w0 hx0)
  have HGC := Lib.hid (fun W (hW : Below w0.heap.size w0 W) => Vw.great_any c w.heap.size W (hk0.below (hW.mono hU0)) (Nat.le_trans hU0 hW.size))
  have HB := Lib.hid hb0
  have HM := Lib.hid hm0
  have HC := Lib.hid hc0
  have HB0 := Lib.hid (Below.refl w0.heap.size w0)
  cases hg : Mw.greatM x.mm with
  | true =>
    rw [hg] at HG
    clear hg hc0 hm0 hb0 h hc hz HGC hx0 hk0 hU0
    go_enter Try.func5, Try.ntmps5
    go_wp2_with fail
    rw [← hw0]
    clear hw0
    refine HG.out.mono ?_
    rintro e w1 ⟨rfl, hb⟩
    have HB1 := Lib.hid hb
    clear hb
    go_wp2_with fail
    refine (Pw.knows_yes _).mono ?_
    rintro e wz ⟨rfl, hbz⟩
    go_wp2
    go_ret
    exact ⟨rfl, HB.out.trans ((HB1).out.trans (hbz.mono (HB1).out.size) |>.mono HB.out.size)⟩
  | false =>
  rw [hg] at HG
  cases hgc : greatC c.cf with
  | true =>
    rw [hgc] at HGC
    clear hg hgc hc0 hm0 hb0 h hc hz hx0 hk0 hU0
    go_enter Try.func5, Try.ntmps5
    go_wp2_with fail
    rw [← hw0]
    clear hw0
    refine HG.out.mono ?_
    rintro e w1 ⟨rfl, hb⟩
    have HB1 := Lib.hid hb
    clear hb
    obtain ⟨x0, x1, x2⟩ := cel3C (HC.out.below HB1.out HC.out.lt)
    go_wp2_with fail
    refine (HGC.out w1 HB1.out).mono ?_
    rintro e w2 ⟨rfl, hb⟩
    have HB2 := Lib.hid (HB1.out.trans (hb.mono HB1.out.size))
    clear hb x0 x1 x2
    go_wp2_with fail
    refine (Pw.knows_yes _).mono ?_
    rintro e wz ⟨rfl, hbz⟩
    go_wp2
    go_ret
    exact ⟨rfl, HB.out.trans ((HB2).out.trans (hbz.mono (HB2).out.size) |>.mono HB.out.size)⟩
  | false =>
  rw [hgc] at HGC
  have hsm := small_ms hg
  have hS := small_iff.1 hgc
  clear hg hgc
  have HP' : Hid (∀ W, Below w.heap.size w0 W → Calls Try.prog 15 #[c.v, (withW x).v, .int .i64 i] W (FiR (subnetM c.cf (withW x).mm i) W)) := fun W hW => subnet_any c (withW x) i w.heap.size W (hk0.below hW) (Nat.le_trans hU0 hW.size) hS ⟨h.ch.below (hb0.trans hW), RdO.nil _⟩ (fun p hp => by cases hp)
  have HR' : Hid (∀ W, Below w.heap.size w0 W → Calls Try.prog 14 #[(withW x).v] W (Vw.isB (rightM (withW x).mm) W)) := fun W hW => Mw.refRight_msg (withW x) W ⟨h.ch.below (hb0.trans hW), RdO.nil _⟩
  have HW' : Hid (∀ W, Below w.heap.size w0 W → Calls Try.prog 18 #[c.v, .int .i64 i] W (FiR (wireC c.cf i) W)) := fun W hW => Vw.refWire_any c i w.heap.size W (hk0.below hW) (Nat.le_trans hU0 hW.size) hS
  have HT0 := Lib.hid (@sub_no c.cf (withW x).mm i)
  have HT1 : Hid (rightM (withW x).mm = true → subnetM c.cf (withW x).mm i = wireC c.cf i) := fun hr => sub_wire hr (place_none (withW x).mm rfl rfl rfl)
  generalize subnetM c.cf (withW x).mm i = t at HP' HT0 HT1
  generalize rightM (withW x).mm = r at HR' HT0 HT1
  have HZ := Lib.hid hz
  clear hc0 hm0 hb0 h hc hz hx0 hk0 hU0 hS hsm
  go_enter Try.func5, Try.ntmps5
  go_wp2_with fail
  rw [← hw0]
  clear hw0
  refine HG.out.mono ?_
  rintro e w1 ⟨rfl, hb⟩
  have HB1 := Lib.hid hb
  clear hb
  obtain ⟨x0, x1, x2⟩ := cel3C (HC.out.below HB1.out HC.out.lt)
  go_wp2_with fail
  refine (HGC.out w1 HB1.out).mono ?_
  rintro e w2 ⟨rfl, hb⟩
  have HB2 := Lib.hid (HB1.out.trans (hb.mono HB1.out.size))
  clear hb x0 x1 x2
  have hm2 := HM.out.below HB2.out HM.out.lt
  have y12 : w2.cell? ⟨w.heap.size + 1, 12, none⟩ = some (.slice x.B x.m x.d) := (cels13 hm2).2.2.2.2.2.2.2.2.2.2.2.2.1
  have f12 := Mw.Cel.frozen hm2 12
  obtain ⟨w3, hw3⟩ : ∃ w3, w3 = w2.setCell ⟨w.heap.size + 1, 12, none⟩ (.slice none 0 0) := ⟨_, rfl⟩
  obtain ⟨cs3, hm3, e3⟩ := wire_cells1 x hm2
  obtain ⟨cs4, hm4, e4⟩ := wire_cells2 x hm2
  have hm5 := wire_cells x hm2
  rw [← hw3] at hm3 hm4 hm5
  have hb3 : Below w.heap.size w0 w3 := by
    rw [hw3]
    exact (HB2.out.mono HB.out.size).setCell (p := ⟨w.heap.size + 1, 12, none⟩) (Nat.le_succ _) _
  go_upto_region 4 with fail
  rw [← hw3]
  have hw3' := Lib.hid hw3
  clear hw3 y12 f12
  have y10 : w3.cell? ⟨w.heap.size + 1, 10, none⟩ = some (.int .i64 x.gi) := by rw [hm3.cell]; exact e3
  have f10 := Mw.Cel.frozen hm3 10
  obtain ⟨w4, hw4⟩ : ∃ w4, w4 = w3.setCell ⟨w.heap.size + 1, 10, none⟩ (.int .i64 0) := ⟨_, rfl⟩
  rw [← hw4] at hm4 hm5
  have hb4 : Below w.heap.size w0 w4 := by
    rw [hw4]
    exact hb3.setCell (p := ⟨w.heap.size + 1, 10, none⟩) (Nat.le_succ _) _
  go_upto_region 5 with fail
  rw [← hw4]
  have hw4' := Lib.hid hw4
  clear hw4 y10 f10 hm3 e3 hb3
  have y7 : w4.cell? ⟨w.heap.size + 1, 7, none⟩ = some (.int .i64 x.ci) := by rw [hm4.cell]; exact e4
  have f7 := Mw.Cel.frozen hm4 7
  obtain ⟨w5, hw5⟩ : ∃ w5, w5 = w4.setCell ⟨w.heap.size + 1, 7, none⟩ (.int .i64 0) := ⟨_, rfl⟩
  rw [← hw5] at hm5
  have hb5 : Below w.heap.size w0 w5 := by
    rw [hw5]
    exact hb4.setCell (p := ⟨w.heap.size + 1, 7, none⟩) (Nat.le_succ _) _
  have hc5 : Cel w5 w.heap.size 35 c.cs := by
    have hc2 := HC.out.below HB2.out HC.out.lt
    rw [hw5, hw4'.out, hw3'.out]
    exact Mw.Cel.far (Mw.Cel.far (Mw.Cel.far hc2 (Nat.ne_of_lt (Nat.lt_succ_self _)) 12 _) (Nat.ne_of_lt (Nat.lt_succ_self _)) 10 _) (Nat.ne_of_lt (Nat.lt_succ_self _)) 7 _
  go_upto_region 6 with fail
  rw [← hw5]
  clear hw5 y7 f7 hm4 e4 hb4
  have HM := Lib.hid hm5
  have HC := Lib.hid hc5
  have HV := Lib.hid hb5
  have HB5 := Lib.hid (Below.refl w5.heap.size w5)
  have HVS : Hid (∀ W, Below w5.heap.size w5 W → Below w.heap.size w0 W) := fun W hW => HV.out.trans (hW.mono (Nat.le_trans HB.out.size (HV.out.size)))
  clear hm5 hc5 hb5 hm2
  obtain ⟨⟨m0, m1, m2, m3, m4, m5, m6⟩, m7, m8, m9, m10, m11, m12⟩ := celM_all HM.out
  obtain ⟨x0, x1, x2⟩ := cel3C HC.out
  obtain ⟨t1, t2, t3⟩ := t
  go_wp2_with fail
  refine (HP'.out w5 HV.out).mono ?_
  rintro e w6 ⟨rfl, hb⟩
  have HB6 := Lib.hid hb
  clear hb m0 m1 m2 m3 m4 m5 m6 m7 m8 m9 m10 m11 m12 x0 x1 x2
  obtain ⟨⟨m0, m1, m2, m3, m4, m5, m6⟩, m7, m8, m9, m10, m11, m12⟩ := celM_all (HM.out.below HB6.out HM.out.lt)
  go_wp2_with fail
  refine (Mw.as_msg (withW x) w6).mono ?_
  rintro e w7 ⟨rfl, hb⟩
  have HB7 := Lib.hid (HB6.out.trans (hb.mono HB6.out.size))
  clear hb m0 m1 m2 m3 m4 m5 m6 m7 m8 m9 m10 m11 m12
  go_wp2_with fail
  refine (HR'.out w7 (HVS.out _ HB7.out)).mono ?_
  rintro e w8 ⟨rfl, hb⟩
  have HB8 := Lib.hid (HB7.out.trans (hb.mono HB7.out.size))
  clear hb
  cases r with
  | false =>
    obtain ⟨rfl, rfl, rfl⟩ : t1 = 0 ∧ t2 = 0 ∧ t3 = false := by
      have e := HT0.out rfl
      simp only [Prod.mk.injEq] at e
      exact e
    go_wp2_with fail
    refine (Pw.knows_yes _).mono ?_
    rintro e wz ⟨rfl, hbz⟩
    go_wp2
    go_ret
    exact ⟨rfl, HB.out.trans (HVS.out _ (HB8.out.trans (hbz.mono HB8.out.size)))⟩
  | true =>
    have HE := Lib.hid (HT1.out rfl)
    rw [← HE.out] at HW'
    have he1 : (t1 == t1) = true := beq_self_eq_true _
    have he2 : (t2 == t2) = true := beq_self_eq_true _
    have he3 : (t3 == t3) = true := beq_self_eq_true _
    obtain ⟨x0, x1, x2⟩ := cel3C (HC.out.below HB8.out HC.out.lt)
    go_wp2_with fail
    refine (HW'.out w8 (HVS.out _ HB8.out)).mono ?_
    rintro e w9 ⟨rfl, hb⟩
    have HB9 := Lib.hid (HB8.out.trans (hb.mono HB8.out.size))
    clear hb x0 x1 x2
    go_wp2_with fail
    refine (Pw.knows_yes _).mono ?_
    rintro e wz ⟨rfl, hbz⟩
    go_wp2
    go_ret
    exact ⟨rfl, HB.out.trans (HVS.out _ (HB9.out.trans (hbz.mono HB9.out.size)))⟩
end Go.Proofs.Ytehanbmnkoebcaa
