/- The walk of PickPlaces: it returns true, and what was in memory stays. For all inputs. -/
import Derived.Test.YtehanbmnkoebcaaPwKnows
set_option maxRecDepth 8000
namespace Go.Proofs.Ytehanbmnkoebcaa
open Go.RowKit Tl Co Ms Ry Cf Ad By Pk Pw
open Vw (Cx FiR cel3C)

set_option maxHeartbeats 8000000 in
theorem pickPlaces_walk (x : Mv) (w : World) (h : x.ok w) : Calls Try.prog 3 #[x.v] w (isTrue w) := by
  obtain ⟨w0, hw0, hc0, hb0, hz⟩ := boxM w x 25
  have HG := Lib.hid (Mw.great_msg x w0 (h.below hb0))
  have HB := Lib.hid hb0
  have HM := Lib.hid hc0
  have HB0 := Lib.hid (Below.refl w0.heap.size w0)
  cases hg : Mw.greatM x.mm with
  | true =>
    rw [hg] at HG
    clear hg hc0 hb0 h hz
    go_enter Try.func3, Try.ntmps3
    go_wp2_with fail
    rw [← hw0]
    clear hw0
    refine HG.out.mono ?_
    rintro e w1 ⟨rfl, hb⟩
    have HB1 := Lib.hid hb
    clear hb
    go_wp2_with fail
    refine (Pw.knows_yes _).mono ?_
    rintro e wz ⟨rfl, hbz⟩
    go_wp2
    go_ret
    exact ⟨rfl, HB.out.trans ((HB1).out.trans (hbz.mono (HB1).out.size) |>.mono HB.out.size)⟩
  | false =>
    have hsm := small_ms hg
    have HP := Lib.hid (fun W (hW : Below w0.heap.size w0 W) => place_any x W ((h.below hb0).below hW) hsm)
    have HR := Lib.hid (fun W (hW : Below w0.heap.size w0 W) => refPlace_any x W ((h.below hb0).below hW))
    rw [hg] at HG
    generalize placeM x.mm = t at HP HR
    obtain ⟨t1, t2⟩ := t
    have he1 : (t1 == t1) = true := beq_self_eq_true _
    have he2 : (t2 == t2) = true := beq_self_eq_true _
    clear hg hsm hc0 hb0 h hz
    go_enter Try.func3, Try.ntmps3
    go_wp2_with fail
    rw [← hw0]
    clear hw0
    refine HG.out.mono ?_
    rintro e w1 ⟨rfl, hb⟩
    have HB1 := Lib.hid hb
    clear hb
    obtain ⟨⟨m0, m1, m2, m3, m4, m5, m6⟩, m7, m8, m9, m10, m11, m12⟩ := celM_all (HM.out.below HB1.out HM.out.lt)
    go_wp2_with fail
    refine (HP.out w1 HB1.out).mono ?_
    rintro e w2 ⟨rfl, hb⟩
    have HB2 := Lib.hid (HB1.out.trans (hb.mono HB1.out.size))
    clear hb m0 m1 m2 m3 m4 m5 m6 m7 m8 m9 m10 m11 m12
    obtain ⟨⟨m0, m1, m2, m3, m4, m5, m6⟩, m7, m8, m9, m10, m11, m12⟩ := celM_all (HM.out.below HB2.out HM.out.lt)
    go_wp2_with fail
    refine (Mw.as_msg x w2).mono ?_
    rintro e w3 ⟨rfl, hb⟩
    have HB3 := Lib.hid (HB2.out.trans (hb.mono HB2.out.size))
    clear hb m0 m1 m2 m3 m4 m5 m6 m7 m8 m9 m10 m11 m12
    go_wp2_with fail
    refine (HR.out w3 HB3.out).mono ?_
    rintro e w4 ⟨rfl, hb⟩
    have HB4 := Lib.hid (HB3.out.trans (hb.mono HB3.out.size))
    clear hb
    go_wp2_with fail
    refine (Pw.knows_yes _).mono ?_
    rintro e wz ⟨rfl, hbz⟩
    go_wp2
    go_ret
    exact ⟨rfl, HB.out.trans ((HB4).out.trans (hbz.mono (HB4).out.size) |>.mono HB.out.size)⟩
end Go.Proofs.Ytehanbmnkoebcaa
