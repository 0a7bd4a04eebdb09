/- The walk of ClassSays: it returns true, and what was in memory stays. For all inputs. -/
import Derived.Test.YtmefnlgoejbgfaaGwKnows
import Derived.Deep.RegionHeld3
set_option maxRecDepth 8000
namespace Go.Proofs.Ytmefnlgoejbgfaa
open Go.RowKit Tl Co Ms By Cl Ow Gw
open Pw (boxM celM_all alloc_more small_ms)

set_option maxHeartbeats 16000000 in
theorem classSays_walk (x : Mv) (s : Int) (w : World) (h : x.ok w) (_ : (Lit.int .i64 s).wf = true) : Calls Try.prog 4 #[x.v, .int .i64 s] w (isTrue w) := by
  obtain ⟨w0, hw0, hc0, hb0, hz⟩ := boxM w x 25
  have hx0 := h.below hb0
  have HG := Lib.hid (Mw.great_msg x w0 hx0)
  have HB := Lib.hid hb0
  have HM := Lib.hid hc0
  have HB0 := Lib.hid (Below.refl w0.heap.size w0)
  cases hg : Mw.greatM x.mm with
  | true =>
    rw [hg] at HG
    clear hg hc0 hb0 h hz hx0
    go_enter Try.func4, Try.ntmps4
    go_upto_region 1 with fail
    rw [← hw0]
    clear hw0
    obtain ⟨⟨m0, m1, m2, m3, m4, m5, m6⟩, m7, m8, m9, m10, m11, m12⟩ := celM_all (HM.out.below HB0.out HM.out.lt)
    go_wp2_with fail
    refine (HG.out).mono ?_
    rintro e w1 ⟨rfl, hb⟩
    have HB1 := Lib.hid (HB0.out.trans (hb.mono HB0.out.size))
    clear hb m0 m1 m2 m3 m4 m5 m6 m7 m8 m9 m10 m11 m12
    go_wp2_with fail
    refine (knows_yes _).mono ?_
    rintro e w2 ⟨rfl, hb⟩
    have HB2 := Lib.hid (HB1.out.trans (hb.mono HB1.out.size))
    clear hb
    go_wp2
    go_ret
    exact ⟨rfl, HB.out.trans (HB2.out.mono HB.out.size)⟩
  | false =>
    rw [hg] at HG
    have hsm := small_ms hg
    have HO := Lib.hid (fun W (hW : Below w0.heap.size w0 W) => of_any x W (hx0.below hW) hsm)
    have HA := Lib.hid (fun W (hW : Below w0.heap.size w0 W) => about_any x W (hx0.below hW) hsm)
    have HFA := Lib.hid (fun s W (hW : Below w0.heap.size w0 W) => foreign_any x s W (hx0.below hW) hsm)
    have HF := Lib.hid (HFA.out s)
    have R54 := Lib.hid (fun W (hW : Below w0.heap.size w0 W) => refNumber_any x.B x.m x.d x.ps 54 W (hx0.os.below hW))
    have R50 := Lib.hid (fun W (hW : Below w0.heap.size w0 W) => refNumber_any x.B x.m x.d x.ps 50 W (hx0.os.below hW))
    have RK := Lib.hid (fun W (hW : Below w0.heap.size w0 W) => refKind_any x.B x.m x.d x.ps W (hx0.os.below hW))
    have hkk : classL x.mm ≠ 0 → kindL (osP x.ps) = 3 := fun q => class_kind (m := x.mm) q
    have hsel : classL x.mm = 1 → ∃ s a, numL (osP x.ps) 54 4 = some s ∧ numL (osP x.ps) 50 4 = some a ∧ aboutL x.mm = (a : Int) ∧ foreignL x.mm s = false := fun q => sel_says (m := x.mm) q
    have hfor : foreignL x.mm s = true → classL x.mm ≠ 2 ∧ classL x.mm ≠ 3 := fun q => foreign_says (m := x.mm) q
    have hcl : classL x.mm = 0 ∨ classL x.mm = 1 ∨ classL x.mm = 2 ∨ classL x.mm = 3 := by
      rcases class_cases x.mm with q | ⟨q, _⟩ | ⟨q, _⟩ | ⟨q, _⟩ <;> omega
    clear hg hsm hc0 hb0 h hx0
    generalize classL x.mm = kk at *
    generalize foreignL x.mm s = ff at *
    generalize kindL (osP x.ps) = kd at *
    rcases hcl with rfl | rfl | rfl | rfl
    · generalize numL (osP x.ps) 54 4 = r54 at R54
      generalize numL (osP x.ps) 50 4 = r50 at R50
      clear hkk hsel hfor HFA HA
      cases ff with
      | true =>
        go_enter Try.func4, Try.ntmps4
        go_upto_region 1 with fail
        rw [← hw0]
        clear hw0
        obtain ⟨⟨m0, m1, m2, m3, m4, m5, m6⟩, m7, m8, m9, m10, m11, m12⟩ := celM_all (HM.out.below HB0.out HM.out.lt)
        go_wp2_with fail
        refine (HG.out).mono ?_
        rintro e w1 ⟨rfl, hb⟩
        have HB1 := Lib.hid (HB0.out.trans (hb.mono HB0.out.size))
        clear hb m0 m1 m2 m3 m4 m5 m6 m7 m8 m9 m10 m11 m12
        obtain ⟨⟨m0, m1, m2, m3, m4, m5, m6⟩, m7, m8, m9, m10, m11, m12⟩ := celM_all (HM.out.below HB1.out HM.out.lt)
        go_wp2_with fail
        refine (HO.out _ HB1.out).mono ?_
        rintro e w2 ⟨rfl, hb⟩
        have HB2 := Lib.hid (HB1.out.trans (hb.mono HB1.out.size))
        clear hb m0 m1 m2 m3 m4 m5 m6 m7 m8 m9 m10 m11 m12
        obtain ⟨⟨m0, m1, m2, m3, m4, m5, m6⟩, m7, m8, m9, m10, m11, m12⟩ := celM_all (HM.out.below HB2.out HM.out.lt)
        go_wp2_with fail
        refine (R54.out _ HB2.out).mono ?_
        rintro e w3 ⟨rfl, hb⟩
        have HB3 := Lib.hid (HB2.out.trans (hb.mono HB2.out.size))
        clear hb m0 m1 m2 m3 m4 m5 m6 m7 m8 m9 m10 m11 m12
        obtain ⟨⟨m0, m1, m2, m3, m4, m5, m6⟩, m7, m8, m9, m10, m11, m12⟩ := celM_all (HM.out.below HB3.out HM.out.lt)
        go_wp2_with fail
        refine (R50.out _ HB3.out).mono ?_
        rintro e w4 ⟨rfl, hb⟩
        have HB4 := Lib.hid (HB3.out.trans (hb.mono HB3.out.size))
        clear hb m0 m1 m2 m3 m4 m5 m6 m7 m8 m9 m10 m11 m12
        obtain ⟨⟨m0, m1, m2, m3, m4, m5, m6⟩, m7, m8, m9, m10, m11, m12⟩ := celM_all (HM.out.below HB4.out HM.out.lt)
        go_wp2_with fail
        refine (HF.out _ HB4.out).mono ?_
        rintro e w5 ⟨rfl, hb⟩
        have HB5 := Lib.hid (HB4.out.trans (hb.mono HB4.out.size))
        clear hb m0 m1 m2 m3 m4 m5 m6 m7 m8 m9 m10 m11 m12
        go_wp2_with fail
        refine (knows_yes _).mono ?_
        rintro e w6 ⟨rfl, hb⟩
        have HB6 := Lib.hid (HB5.out.trans (hb.mono HB5.out.size))
        clear hb
        go_wp2
        go_ret
        exact ⟨rfl, HB.out.trans (HB6.out.mono HB.out.size)⟩
      | false =>
        go_enter Try.func4, Try.ntmps4
        go_upto_region 1 with fail
        rw [← hw0]
        clear hw0
        obtain ⟨⟨m0, m1, m2, m3, m4, m5, m6⟩, m7, m8, m9, m10, m11, m12⟩ := celM_all (HM.out.below HB0.out HM.out.lt)
        go_wp2_with fail
        refine (HG.out).mono ?_
        rintro e w1 ⟨rfl, hb⟩
        have HB1 := Lib.hid (HB0.out.trans (hb.mono HB0.out.size))
        clear hb m0 m1 m2 m3 m4 m5 m6 m7 m8 m9 m10 m11 m12
        obtain ⟨⟨m0, m1, m2, m3, m4, m5, m6⟩, m7, m8, m9, m10, m11, m12⟩ := celM_all (HM.out.below HB1.out HM.out.lt)
        go_wp2_with fail
        refine (HO.out _ HB1.out).mono ?_
        rintro e w2 ⟨rfl, hb⟩
        have HB2 := Lib.hid (HB1.out.trans (hb.mono HB1.out.size))
        clear hb m0 m1 m2 m3 m4 m5 m6 m7 m8 m9 m10 m11 m12
        obtain ⟨⟨m0, m1, m2, m3, m4, m5, m6⟩, m7, m8, m9, m10, m11, m12⟩ := celM_all (HM.out.below HB2.out HM.out.lt)
        go_wp2_with fail
        refine (R54.out _ HB2.out).mono ?_
        rintro e w3 ⟨rfl, hb⟩
        have HB3 := Lib.hid (HB2.out.trans (hb.mono HB2.out.size))
        clear hb m0 m1 m2 m3 m4 m5 m6 m7 m8 m9 m10 m11 m12
        obtain ⟨⟨m0, m1, m2, m3, m4, m5, m6⟩, m7, m8, m9, m10, m11, m12⟩ := celM_all (HM.out.below HB3.out HM.out.lt)
        go_wp2_with fail
        refine (R50.out _ HB3.out).mono ?_
        rintro e w4 ⟨rfl, hb⟩
        have HB4 := Lib.hid (HB3.out.trans (hb.mono HB3.out.size))
        clear hb m0 m1 m2 m3 m4 m5 m6 m7 m8 m9 m10 m11 m12
        obtain ⟨⟨m0, m1, m2, m3, m4, m5, m6⟩, m7, m8, m9, m10, m11, m12⟩ := celM_all (HM.out.below HB4.out HM.out.lt)
        go_wp2_with fail
        refine (HF.out _ HB4.out).mono ?_
        rintro e w5 ⟨rfl, hb⟩
        have HB5 := Lib.hid (HB4.out.trans (hb.mono HB4.out.size))
        clear hb m0 m1 m2 m3 m4 m5 m6 m7 m8 m9 m10 m11 m12
        go_wp2_with fail
        refine (knows_yes _).mono ?_
        rintro e w6 ⟨rfl, hb⟩
        have HB6 := Lib.hid (HB5.out.trans (hb.mono HB5.out.size))
        clear hb
        go_wp2
        go_ret
        exact ⟨rfl, HB.out.trans (HB6.out.mono HB.out.size)⟩
    · obtain ⟨s0, a0, h54, h50, hab, hfs⟩ := hsel rfl
      have HFS := Lib.hid (HFA.out (s0 : Int))
      rw [hfs] at HFS
      rw [hab] at HA
      rw [h54] at R54
      rw [h50] at R50
      obtain rfl := hkk (by omega)
      clear hkk hsel hfor HFA h54 h50 hab hfs
      cases ff with
      | true =>
        go_enter Try.func4, Try.ntmps4
        go_upto_region 1 with fail
        rw [← hw0]
        clear hw0
        obtain ⟨⟨m0, m1, m2, m3, m4, m5, m6⟩, m7, m8, m9, m10, m11, m12⟩ := celM_all (HM.out.below HB0.out HM.out.lt)
        go_wp2_with fail
        refine (HG.out).mono ?_
        rintro e w1 ⟨rfl, hb⟩
        have HB1 := Lib.hid (HB0.out.trans (hb.mono HB0.out.size))
        clear hb m0 m1 m2 m3 m4 m5 m6 m7 m8 m9 m10 m11 m12
        obtain ⟨⟨m0, m1, m2, m3, m4, m5, m6⟩, m7, m8, m9, m10, m11, m12⟩ := celM_all (HM.out.below HB1.out HM.out.lt)
        go_wp2_with fail
        refine (HO.out _ HB1.out).mono ?_
        rintro e w2 ⟨rfl, hb⟩
        have HB2 := Lib.hid (HB1.out.trans (hb.mono HB1.out.size))
        clear hb m0 m1 m2 m3 m4 m5 m6 m7 m8 m9 m10 m11 m12
        obtain ⟨⟨m0, m1, m2, m3, m4, m5, m6⟩, m7, m8, m9, m10, m11, m12⟩ := celM_all (HM.out.below HB2.out HM.out.lt)
        go_wp2_with fail
        refine (R54.out _ HB2.out).mono ?_
        rintro e w3 ⟨rfl, hb⟩
        have HB3 := Lib.hid (HB2.out.trans (hb.mono HB2.out.size))
        clear hb m0 m1 m2 m3 m4 m5 m6 m7 m8 m9 m10 m11 m12
        obtain ⟨⟨m0, m1, m2, m3, m4, m5, m6⟩, m7, m8, m9, m10, m11, m12⟩ := celM_all (HM.out.below HB3.out HM.out.lt)
        go_wp2_with fail
        refine (R50.out _ HB3.out).mono ?_
        rintro e w4 ⟨rfl, hb⟩
        have HB4 := Lib.hid (HB3.out.trans (hb.mono HB3.out.size))
        clear hb m0 m1 m2 m3 m4 m5 m6 m7 m8 m9 m10 m11 m12
        obtain ⟨⟨m0, m1, m2, m3, m4, m5, m6⟩, m7, m8, m9, m10, m11, m12⟩ := celM_all (HM.out.below HB4.out HM.out.lt)
        go_wp2_with fail
        refine (HA.out _ HB4.out).mono ?_
        rintro e w5 ⟨rfl, hb⟩
        have HB5 := Lib.hid (HB4.out.trans (hb.mono HB4.out.size))
        clear hb m0 m1 m2 m3 m4 m5 m6 m7 m8 m9 m10 m11 m12
        obtain ⟨⟨m0, m1, m2, m3, m4, m5, m6⟩, m7, m8, m9, m10, m11, m12⟩ := celM_all (HM.out.below HB5.out HM.out.lt)
        go_wp2_with fail
        refine (HFS.out _ HB5.out).mono ?_
        rintro e w6 ⟨rfl, hb⟩
        have HB6 := Lib.hid (HB5.out.trans (hb.mono HB5.out.size))
        clear hb m0 m1 m2 m3 m4 m5 m6 m7 m8 m9 m10 m11 m12
        obtain ⟨⟨m0, m1, m2, m3, m4, m5, m6⟩, m7, m8, m9, m10, m11, m12⟩ := celM_all (HM.out.below HB6.out HM.out.lt)
        go_wp2_with fail
        refine (HF.out _ HB6.out).mono ?_
        rintro e w7 ⟨rfl, hb⟩
        have HB7 := Lib.hid (HB6.out.trans (hb.mono HB6.out.size))
        clear hb m0 m1 m2 m3 m4 m5 m6 m7 m8 m9 m10 m11 m12
        obtain ⟨⟨m0, m1, m2, m3, m4, m5, m6⟩, m7, m8, m9, m10, m11, m12⟩ := celM_all (HM.out.below HB7.out HM.out.lt)
        go_wp2_with fail
        refine (RK.out _ HB7.out).mono ?_
        rintro e wr ⟨rfl, rfl⟩
        clear m0 m1 m2 m3 m4 m5 m6 m7 m8 m9 m10 m11 m12
        go_wp2_with fail
        refine (knows_yes _).mono ?_
        rintro e w8 ⟨rfl, hb⟩
        have HB8 := Lib.hid (HB7.out.trans (hb.mono HB7.out.size))
        clear hb
        go_wp2
        go_ret
        exact ⟨rfl, HB.out.trans (HB8.out.mono HB.out.size)⟩
      | false =>
        go_enter Try.func4, Try.ntmps4
        go_upto_region 1 with fail
        rw [← hw0]
        clear hw0
        obtain ⟨⟨m0, m1, m2, m3, m4, m5, m6⟩, m7, m8, m9, m10, m11, m12⟩ := celM_all (HM.out.below HB0.out HM.out.lt)
        go_wp2_with fail
        refine (HG.out).mono ?_
        rintro e w1 ⟨rfl, hb⟩
        have HB1 := Lib.hid (HB0.out.trans (hb.mono HB0.out.size))
        clear hb m0 m1 m2 m3 m4 m5 m6 m7 m8 m9 m10 m11 m12
        obtain ⟨⟨m0, m1, m2, m3, m4, m5, m6⟩, m7, m8, m9, m10, m11, m12⟩ := celM_all (HM.out.below HB1.out HM.out.lt)
        go_wp2_with fail
        refine (HO.out _ HB1.out).mono ?_
        rintro e w2 ⟨rfl, hb⟩
        have HB2 := Lib.hid (HB1.out.trans (hb.mono HB1.out.size))
        clear hb m0 m1 m2 m3 m4 m5 m6 m7 m8 m9 m10 m11 m12
        obtain ⟨⟨m0, m1, m2, m3, m4, m5, m6⟩, m7, m8, m9, m10, m11, m12⟩ := celM_all (HM.out.below HB2.out HM.out.lt)
        go_wp2_with fail
        refine (R54.out _ HB2.out).mono ?_
        rintro e w3 ⟨rfl, hb⟩
        have HB3 := Lib.hid (HB2.out.trans (hb.mono HB2.out.size))
        clear hb m0 m1 m2 m3 m4 m5 m6 m7 m8 m9 m10 m11 m12
        obtain ⟨⟨m0, m1, m2, m3, m4, m5, m6⟩, m7, m8, m9, m10, m11, m12⟩ := celM_all (HM.out.below HB3.out HM.out.lt)
        go_wp2_with fail
        refine (R50.out _ HB3.out).mono ?_
        rintro e w4 ⟨rfl, hb⟩
        have HB4 := Lib.hid (HB3.out.trans (hb.mono HB3.out.size))
        clear hb m0 m1 m2 m3 m4 m5 m6 m7 m8 m9 m10 m11 m12
        obtain ⟨⟨m0, m1, m2, m3, m4, m5, m6⟩, m7, m8, m9, m10, m11, m12⟩ := celM_all (HM.out.below HB4.out HM.out.lt)
        go_wp2_with fail
        refine (HA.out _ HB4.out).mono ?_
        rintro e w5 ⟨rfl, hb⟩
        have HB5 := Lib.hid (HB4.out.trans (hb.mono HB4.out.size))
        clear hb m0 m1 m2 m3 m4 m5 m6 m7 m8 m9 m10 m11 m12
        obtain ⟨⟨m0, m1, m2, m3, m4, m5, m6⟩, m7, m8, m9, m10, m11, m12⟩ := celM_all (HM.out.below HB5.out HM.out.lt)
        go_wp2_with fail
        refine (HFS.out _ HB5.out).mono ?_
        rintro e w6 ⟨rfl, hb⟩
        have HB6 := Lib.hid (HB5.out.trans (hb.mono HB5.out.size))
        clear hb m0 m1 m2 m3 m4 m5 m6 m7 m8 m9 m10 m11 m12
        obtain ⟨⟨m0, m1, m2, m3, m4, m5, m6⟩, m7, m8, m9, m10, m11, m12⟩ := celM_all (HM.out.below HB6.out HM.out.lt)
        go_wp2_with fail
        refine (HF.out _ HB6.out).mono ?_
        rintro e w7 ⟨rfl, hb⟩
        have HB7 := Lib.hid (HB6.out.trans (hb.mono HB6.out.size))
        clear hb m0 m1 m2 m3 m4 m5 m6 m7 m8 m9 m10 m11 m12
        obtain ⟨⟨m0, m1, m2, m3, m4, m5, m6⟩, m7, m8, m9, m10, m11, m12⟩ := celM_all (HM.out.below HB7.out HM.out.lt)
        go_wp2_with fail
        refine (RK.out _ HB7.out).mono ?_
        rintro e wr ⟨rfl, rfl⟩
        clear m0 m1 m2 m3 m4 m5 m6 m7 m8 m9 m10 m11 m12
        go_wp2_with fail
        refine (knows_yes _).mono ?_
        rintro e w8 ⟨rfl, hb⟩
        have HB8 := Lib.hid (HB7.out.trans (hb.mono HB7.out.size))
        clear hb
        go_wp2
        go_ret
        exact ⟨rfl, HB.out.trans (HB8.out.mono HB.out.size)⟩
    · obtain rfl := hkk (by omega)
      have hff : ff = false := by
        cases ff with
        | false => rfl
        | true => exact absurd rfl (hfor rfl).1
      subst hff
      generalize numL (osP x.ps) 54 4 = r54 at R54
      generalize numL (osP x.ps) 50 4 = r50 at R50
      clear hkk hsel hfor HFA HA
      go_enter Try.func4, Try.ntmps4
      go_upto_region 1 with fail
      rw [← hw0]
      clear hw0
      obtain ⟨⟨m0, m1, m2, m3, m4, m5, m6⟩, m7, m8, m9, m10, m11, m12⟩ := celM_all (HM.out.below HB0.out HM.out.lt)
      go_wp2_with fail
      refine (HG.out).mono ?_
      rintro e w1 ⟨rfl, hb⟩
      have HB1 := Lib.hid (HB0.out.trans (hb.mono HB0.out.size))
      clear hb m0 m1 m2 m3 m4 m5 m6 m7 m8 m9 m10 m11 m12
      obtain ⟨⟨m0, m1, m2, m3, m4, m5, m6⟩, m7, m8, m9, m10, m11, m12⟩ := celM_all (HM.out.below HB1.out HM.out.lt)
      go_wp2_with fail
      refine (HO.out _ HB1.out).mono ?_
      rintro e w2 ⟨rfl, hb⟩
      have HB2 := Lib.hid (HB1.out.trans (hb.mono HB1.out.size))
      clear hb m0 m1 m2 m3 m4 m5 m6 m7 m8 m9 m10 m11 m12
      obtain ⟨⟨m0, m1, m2, m3, m4, m5, m6⟩, m7, m8, m9, m10, m11, m12⟩ := celM_all (HM.out.below HB2.out HM.out.lt)
      go_wp2_with fail
      refine (R54.out _ HB2.out).mono ?_
      rintro e w3 ⟨rfl, hb⟩
      have HB3 := Lib.hid (HB2.out.trans (hb.mono HB2.out.size))
      clear hb m0 m1 m2 m3 m4 m5 m6 m7 m8 m9 m10 m11 m12
      obtain ⟨⟨m0, m1, m2, m3, m4, m5, m6⟩, m7, m8, m9, m10, m11, m12⟩ := celM_all (HM.out.below HB3.out HM.out.lt)
      go_wp2_with fail
      refine (R50.out _ HB3.out).mono ?_
      rintro e w4 ⟨rfl, hb⟩
      have HB4 := Lib.hid (HB3.out.trans (hb.mono HB3.out.size))
      clear hb m0 m1 m2 m3 m4 m5 m6 m7 m8 m9 m10 m11 m12
      obtain ⟨⟨m0, m1, m2, m3, m4, m5, m6⟩, m7, m8, m9, m10, m11, m12⟩ := celM_all (HM.out.below HB4.out HM.out.lt)
      go_wp2_with fail
      refine (HF.out _ HB4.out).mono ?_
      rintro e w5 ⟨rfl, hb⟩
      have HB5 := Lib.hid (HB4.out.trans (hb.mono HB4.out.size))
      clear hb m0 m1 m2 m3 m4 m5 m6 m7 m8 m9 m10 m11 m12
      obtain ⟨⟨m0, m1, m2, m3, m4, m5, m6⟩, m7, m8, m9, m10, m11, m12⟩ := celM_all (HM.out.below HB5.out HM.out.lt)
      go_wp2_with fail
      refine (RK.out _ HB5.out).mono ?_
      rintro e wr ⟨rfl, rfl⟩
      clear m0 m1 m2 m3 m4 m5 m6 m7 m8 m9 m10 m11 m12
      go_wp2_with fail
      refine (knows_yes _).mono ?_
      rintro e w6 ⟨rfl, hb⟩
      have HB6 := Lib.hid (HB5.out.trans (hb.mono HB5.out.size))
      clear hb
      go_wp2
      go_ret
      exact ⟨rfl, HB.out.trans (HB6.out.mono HB.out.size)⟩
    · obtain rfl := hkk (by omega)
      have hff : ff = false := by
        cases ff with
        | false => rfl
        | true => exact absurd rfl (hfor rfl).2
      subst hff
      generalize numL (osP x.ps) 54 4 = r54 at R54
      generalize numL (osP x.ps) 50 4 = r50 at R50
      clear hkk hsel hfor HFA HA
      go_enter Try.func4, Try.ntmps4
      go_upto_region 1 with fail
      rw [← hw0]
      clear hw0
      obtain ⟨⟨m0, m1, m2, m3, m4, m5, m6⟩, m7, m8, m9, m10, m11, m12⟩ := celM_all (HM.out.below HB0.out HM.out.lt)
      go_wp2_with fail
      refine (HG.out).mono ?_
      rintro e w1 ⟨rfl, hb⟩
      have HB1 := Lib.hid (HB0.out.trans (hb.mono HB0.out.size))
      clear hb m0 m1 m2 m3 m4 m5 m6 m7 m8 m9 m10 m11 m12
      obtain ⟨⟨m0, m1, m2, m3, m4, m5, m6⟩, m7, m8, m9, m10, m11, m12⟩ := celM_all (HM.out.below HB1.out HM.out.lt)
      go_wp2_with fail
      refine (HO.out _ HB1.out).mono ?_
      rintro e w2 ⟨rfl, hb⟩
      have HB2 := Lib.hid (HB1.out.trans (hb.mono HB1.out.size))
      clear hb m0 m1 m2 m3 m4 m5 m6 m7 m8 m9 m10 m11 m12
      obtain ⟨⟨m0, m1, m2, m3, m4, m5, m6⟩, m7, m8, m9, m10, m11, m12⟩ := celM_all (HM.out.below HB2.out HM.out.lt)
      go_wp2_with fail
      refine (R54.out _ HB2.out).mono ?_
      rintro e w3 ⟨rfl, hb⟩
      have HB3 := Lib.hid (HB2.out.trans (hb.mono HB2.out.size))
      clear hb m0 m1 m2 m3 m4 m5 m6 m7 m8 m9 m10 m11 m12
      obtain ⟨⟨m0, m1, m2, m3, m4, m5, m6⟩, m7, m8, m9, m10, m11, m12⟩ := celM_all (HM.out.below HB3.out HM.out.lt)
      go_wp2_with fail
      refine (R50.out _ HB3.out).mono ?_
      rintro e w4 ⟨rfl, hb⟩
      have HB4 := Lib.hid (HB3.out.trans (hb.mono HB3.out.size))
      clear hb m0 m1 m2 m3 m4 m5 m6 m7 m8 m9 m10 m11 m12
      obtain ⟨⟨m0, m1, m2, m3, m4, m5, m6⟩, m7, m8, m9, m10, m11, m12⟩ := celM_all (HM.out.below HB4.out HM.out.lt)
      go_wp2_with fail
      refine (HF.out _ HB4.out).mono ?_
      rintro e w5 ⟨rfl, hb⟩
      have HB5 := Lib.hid (HB4.out.trans (hb.mono HB4.out.size))
      clear hb m0 m1 m2 m3 m4 m5 m6 m7 m8 m9 m10 m11 m12
      obtain ⟨⟨m0, m1, m2, m3, m4, m5, m6⟩, m7, m8, m9, m10, m11, m12⟩ := celM_all (HM.out.below HB5.out HM.out.lt)
      go_wp2_with fail
      refine (RK.out _ HB5.out).mono ?_
      rintro e wr ⟨rfl, rfl⟩
      clear m0 m1 m2 m3 m4 m5 m6 m7 m8 m9 m10 m11 m12
      go_wp2_with fail
      refine (knows_yes _).mono ?_
      rintro e w6 ⟨rfl, hb⟩
      have HB6 := Lib.hid (HB5.out.trans (hb.mono HB5.out.size))
      clear hb
      go_wp2
      go_ret
      exact ⟨rfl, HB.out.trans (HB6.out.mono HB.out.size)⟩
end Go.Proofs.Ytmefnlgoejbgfaa
