/- The walk of the statement AllocGood. -/
import Derived.Test.YtpdjdaoclpeffaaGreatXwOk
import Derived.Test.YtpdjdaoclpeffaaGreatXwRef2
import Derived.BigQuiet
import Derived.Deep.QuietTactic
import Derived.Deep.RegionHeld3
set_option maxRecDepth 8000
namespace Go.Proofs.YtpdjdaoclpeffaaGreat.Xw
open Go.RowKit Co By Ky Rc Ew Jw La Tb Lw Cf Al Bw
open Vw (Cx RdPl layP atP FiR AdR KeR isI cel3C)
open Dw (ba ba_size ba_data ba_list alloc_more)

set_option maxHeartbeats 8000000 in
theorem good_walk (d : Nd) (a : Int) (w : World) (hx : d.x.ok w.heap.size w) (ht : RdLs w.heap.size w d.A d.n d.c d.l) (hf : ∀ a ∈ d.l, Fk a) (hk : d.k.length ≤ 9223372036854775807) (ha : (Lit.int .i64 a).wf = true) :
    Calls Tryz.prog 5 #[d.x.v, .slice d.A d.n d.c, .int .i64 d.net, .string (ba d.k), .int .i64 a, .int .i64 d.now] w (isTrue w) := by
  obtain ⟨w0, hw0, hc0, hb0⟩ := boxC1 w d.x
  have HG := Lib.hid (Xw.great_any d.x d.A d.n d.c w.heap.size d.l d.k w0 (hx.below hb0) (ht.below hb0) hb0.size hf hk)
  have HC0 := Lib.hid hc0
  have HB0 := Lib.hid hb0
  cases hg : greatA d.x.cf d.l d.k with
  | true =>
    rw [hg] at HG
    clear hg hx ht hf hk hc0 hb0
    go_enter Tryz.func5, Tryz.ntmps5
    go_upto_region 1 with fail
    rw [← hw0]
    clear hw0
    obtain ⟨c0, c1, c2⟩ := cel3C HC0.out
    go_wp2_with fail
    refine (HG.out).mono ?_
    rintro e w1 ⟨rfl, hb1⟩
    have HB1 := Lib.hid (HB0.out.trans (hb1.mono HB0.out.size))
    have HC1 := Lib.hid (HC0.out.below hb1 HC0.out.lt)
    clear c0 c1 c2
    obtain ⟨c0, c1, c2⟩ := cel3C HC1.out
    clear hb1
    go_wp2_with fail
    refine (knows_yes _).mono ?_
    rintro e w2 ⟨rfl, hb2⟩
    have HB2 := Lib.hid (HB1.out.trans (hb2.mono HB1.out.size))
    have HC2 := Lib.hid (HC1.out.below hb2 HC1.out.lt)
    clear c0 c1 c2
    obtain ⟨c0, c1, c2⟩ := cel3C HC2.out
    clear hb2
    go_wp2
    go_ret
    exact ⟨rfl, HB2.out⟩
  | false =>
    rw [hg] at HG
    have hok := nd_ok hx ht hf hk hg
    have HCH := Lib.hid (fun W (hW : Below w.heap.size w W) => Choose_any d a w.heap.size W (hok.below hW) hW.size (i64_in ha).1 (i64_in ha).2)
    have HM := Lib.hid (fun y W (hW : Below w.heap.size w W) => May_any d y w.heap.size W (hok.below hW) hW.size)
    have HKE := Lib.hid (fun y W (hW : Below w.heap.size w W) => Vw.refKeeper_any d.x y w.heap.size W (hx.below hW) hW.size hok.s)
    have HGT := Lib.hid (fun y W (hW : Below w.heap.size w W) => Bw.refGet_any d.A d.n d.c w.heap.size d.l y W (ht.below hW) hW.size hf)
    have HIN := Lib.hid (fun y W (hW : Below w.heap.size w W) => refIn_any d.x d.net y w.heap.size W (hx.below hW) hW.size hok.s)
    have HRE := Lib.hid (fun p W => Bw.refRests_any p d.now W)
    have HHO := Lib.hid (fun p W => Bw.refHolds_any p d.now W)
    have HNO := Lib.hid (fun (h : (chooseA d.x.cf d.l d.net d.k a d.now).2 = false) => choose_no h)
    have HYES := Lib.hid (fun (h : (chooseA d.x.cf d.l d.net d.k a d.now).2 = true) => choose_may h)
    clear hg hx ht hf hk hc0 hb0 hok ha
    generalize chooseA d.x.cf d.l d.net d.k a d.now = u at HCH HNO HYES
    obtain ⟨b, ok⟩ := u
    simp only at HNO HYES
    cases ok with
    | false =>
      have hb0 : b = 0 := HNO.out rfl
      subst hb0
      clear HNO HYES HM HKE HGT HIN HRE HHO
      go_enter Tryz.func5, Tryz.ntmps5
      go_upto_region 1 with fail
      rw [← hw0]
      clear hw0
      obtain ⟨c0, c1, c2⟩ := cel3C HC0.out
      go_wp2_with fail
      refine (HG.out).mono ?_
      rintro e w1 ⟨rfl, hb1⟩
      have HB1 := Lib.hid (HB0.out.trans (hb1.mono HB0.out.size))
      have HC1 := Lib.hid (HC0.out.below hb1 HC0.out.lt)
      clear c0 c1 c2
      obtain ⟨c0, c1, c2⟩ := cel3C HC1.out
      clear hb1
      go_wp2_with fail
      refine (HCH.out _ HB1.out).mono ?_
      rintro e w2 ⟨rfl, hb2⟩
      have HB2 := Lib.hid (HB1.out.trans (hb2.mono HB1.out.size))
      have HC2 := Lib.hid (HC1.out.below hb2 HC1.out.lt)
      clear c0 c1 c2
      obtain ⟨c0, c1, c2⟩ := cel3C HC2.out
      clear hb2
      go_wp2_with fail
      refine (knows_yes _).mono ?_
      rintro e w3 ⟨rfl, hb3⟩
      have HB3 := Lib.hid (HB2.out.trans (hb3.mono HB2.out.size))
      have HC3 := Lib.hid (HC2.out.below hb3 HC2.out.lt)
      clear c0 c1 c2
      obtain ⟨c0, c1, c2⟩ := cel3C HC3.out
      clear hb3
      go_wp2
      go_ret
      exact ⟨rfl, HB3.out⟩
    | true =>
      have hm := HYES.out rfl
      obtain ⟨g1, g2, g3⟩ := may_good hm
      have hl := fun h => may_lease hm h
      have HMB := Lib.hid (HM.out b)
      have HIB := Lib.hid (HIN.out b)
      have HKB := Lib.hid (HKE.out b)
      have HGB := Lib.hid (HGT.out b)
      rw [hm] at HMB
      rw [g1] at HIB
      have hsz : (b != d.x.server) = true := by
        have : b ≠ d.x.server := g2
        simpa using this
      have HG3 := Lib.hid g3
      have HLL := Lib.hid hl
      clear HNO HYES HM HKE HGT HIN hm g1 g2 g3 hl
      generalize keeperC d.x.cf b = ke at HKB HG3
      generalize getT d.l b = gt at HGB HLL
      obtain ⟨keep, has⟩ := ke
      obtain ⟨p, there⟩ := gt
      simp only at HG3 HLL
      have HREP := Lib.hid (HRE.out p)
      have HHOP := Lib.hid (HHO.out p)
      clear HRE HHO
      cases has with
      | false =>
        clear HG3
        cases there with
        | false =>
          clear HLL HREP HHOP
          go_enter Tryz.func5, Tryz.ntmps5
          go_upto_region 1 with fail
          rw [← hw0]
          clear hw0
          obtain ⟨c0, c1, c2⟩ := cel3C HC0.out
          go_wp2_with fail
          refine (HG.out).mono ?_
          rintro e w1 ⟨rfl, hb1⟩
          have HB1 := Lib.hid (HB0.out.trans (hb1.mono HB0.out.size))
          have HC1 := Lib.hid (HC0.out.below hb1 HC0.out.lt)
          clear c0 c1 c2
          obtain ⟨c0, c1, c2⟩ := cel3C HC1.out
          clear hb1
          go_wp2_with fail
          refine (HCH.out _ HB1.out).mono ?_
          rintro e w2 ⟨rfl, hb2⟩
          have HB2 := Lib.hid (HB1.out.trans (hb2.mono HB1.out.size))
          have HC2 := Lib.hid (HC1.out.below hb2 HC1.out.lt)
          clear c0 c1 c2
          obtain ⟨c0, c1, c2⟩ := cel3C HC2.out
          clear hb2
          go_wp2_with fail
          refine (HKB.out _ HB2.out).mono ?_
          rintro e w3 ⟨rfl, hb3⟩
          have HB3 := Lib.hid (HB2.out.trans (hb3.mono HB2.out.size))
          have HC3 := Lib.hid (HC2.out.below hb3 HC2.out.lt)
          clear c0 c1 c2
          obtain ⟨c0, c1, c2⟩ := cel3C HC3.out
          clear hb3
          go_wp2_with fail
          refine (HGB.out _ HB3.out).mono ?_
          rintro e w4 ⟨rfl, hb4⟩
          have HB4 := Lib.hid (HB3.out.trans (hb4.mono HB3.out.size))
          have HC4 := Lib.hid (HC3.out.below hb4 HC3.out.lt)
          clear c0 c1 c2
          obtain ⟨c0, c1, c2⟩ := cel3C HC4.out
          obtain ⟨wL, hwL⟩ : ∃ wL, wL = w4.alloc (.cells (lcs p) 34) := ⟨_, rfl⟩
          have hbL : Below w4.heap.size w4 wL := by rw [hwL]; exact alloc_more _ _
          have HCL := Lib.hid (show Cel wL w4.heap.size 34 (lcs p) by rw [hwL]; exact Cel.born _ _ _)
          have HB9 := Lib.hid (HB4.out.trans (hbL.mono HB4.out.size))
          have HC9 := Lib.hid (HC4.out.below hbL HC4.out.lt)
          clear hbL c0 c1 c2
          go_upto_region 8 with fail
          rw [← hwL]
          clear hwL
          obtain ⟨c0, c1, c2⟩ := cel3C HC9.out
          obtain ⟨y0, y1, y2, y3⟩ := cel4L HCL.out
          clear hb4
          go_wp2_with fail
          refine (HMB.out _ HB9.out).mono ?_
          rintro e w10 ⟨rfl, hb10⟩
          have HB10 := Lib.hid (HB9.out.trans (hb10.mono HB9.out.size))
          have HC10 := Lib.hid (HC9.out.below hb10 HC9.out.lt)
          clear c0 c1 c2
          obtain ⟨c0, c1, c2⟩ := cel3C HC10.out
          clear hb10
          go_wp2_with fail
          refine (HIB.out _ HB10.out).mono ?_
          rintro e w11 ⟨rfl, hb11⟩
          have HB11 := Lib.hid (HB10.out.trans (hb11.mono HB10.out.size))
          have HC11 := Lib.hid (HC10.out.below hb11 HC10.out.lt)
          clear c0 c1 c2
          obtain ⟨c0, c1, c2⟩ := cel3C HC11.out
          clear hb11
          go_wp2_with fail
          refine (knows_yes _).mono ?_
          rintro e wz ⟨rfl, hbz⟩
          go_wp2
          go_ret
          exact ⟨rfl, HB11.out.trans (hbz.mono HB11.out.size)⟩
        | true =>
          obtain ⟨l1, l2⟩ := HLL.out rfl
          rw [l1] at HREP
          cases hh : holdsT p d.now with
          | false =>
            rw [hh] at HHOP
            clear HLL l1 l2 hh
            go_enter Tryz.func5, Tryz.ntmps5
            go_upto_region 1 with fail
            rw [← hw0]
            clear hw0
            obtain ⟨c0, c1, c2⟩ := cel3C HC0.out
            go_wp2_with fail
            refine (HG.out).mono ?_
            rintro e w1 ⟨rfl, hb1⟩
            have HB1 := Lib.hid (HB0.out.trans (hb1.mono HB0.out.size))
            have HC1 := Lib.hid (HC0.out.below hb1 HC0.out.lt)
            clear c0 c1 c2
            obtain ⟨c0, c1, c2⟩ := cel3C HC1.out
            clear hb1
            go_wp2_with fail
            refine (HCH.out _ HB1.out).mono ?_
            rintro e w2 ⟨rfl, hb2⟩
            have HB2 := Lib.hid (HB1.out.trans (hb2.mono HB1.out.size))
            have HC2 := Lib.hid (HC1.out.below hb2 HC1.out.lt)
            clear c0 c1 c2
            obtain ⟨c0, c1, c2⟩ := cel3C HC2.out
            clear hb2
            go_wp2_with fail
            refine (HKB.out _ HB2.out).mono ?_
            rintro e w3 ⟨rfl, hb3⟩
            have HB3 := Lib.hid (HB2.out.trans (hb3.mono HB2.out.size))
            have HC3 := Lib.hid (HC2.out.below hb3 HC2.out.lt)
            clear c0 c1 c2
            obtain ⟨c0, c1, c2⟩ := cel3C HC3.out
            clear hb3
            go_wp2_with fail
            refine (HGB.out _ HB3.out).mono ?_
            rintro e w4 ⟨rfl, hb4⟩
            have HB4 := Lib.hid (HB3.out.trans (hb4.mono HB3.out.size))
            have HC4 := Lib.hid (HC3.out.below hb4 HC3.out.lt)
            clear c0 c1 c2
            obtain ⟨c0, c1, c2⟩ := cel3C HC4.out
            obtain ⟨wL, hwL⟩ : ∃ wL, wL = w4.alloc (.cells (lcs p) 34) := ⟨_, rfl⟩
            have hbL : Below w4.heap.size w4 wL := by rw [hwL]; exact alloc_more _ _
            have HCL := Lib.hid (show Cel wL w4.heap.size 34 (lcs p) by rw [hwL]; exact Cel.born _ _ _)
            have HB9 := Lib.hid (HB4.out.trans (hbL.mono HB4.out.size))
            have HC9 := Lib.hid (HC4.out.below hbL HC4.out.lt)
            clear hbL c0 c1 c2
            go_upto_region 8 with fail
            rw [← hwL]
            clear hwL
            obtain ⟨c0, c1, c2⟩ := cel3C HC9.out
            obtain ⟨y0, y1, y2, y3⟩ := cel4L HCL.out
            clear hb4
            go_wp2_with fail
            refine (HREP.out _).mono ?_
            rintro e w10 ⟨rfl, hb10⟩
            have HB10 := Lib.hid (HB9.out.trans (hb10.mono HB9.out.size))
            have HC10 := Lib.hid (HC9.out.below hb10 HC9.out.lt)
            clear c0 c1 c2
            obtain ⟨c0, c1, c2⟩ := cel3C HC10.out
            have HL10 := Lib.hid (HCL.out.below hb10 HCL.out.lt)
            clear y0 y1 y2 y3
            obtain ⟨y0, y1, y2, y3⟩ := cel4L HL10.out
            clear hb10
            go_wp2_with fail
            refine (HHOP.out _).mono ?_
            rintro e w11 ⟨rfl, hb11⟩
            have HB11 := Lib.hid (HB10.out.trans (hb11.mono HB10.out.size))
            have HC11 := Lib.hid (HC10.out.below hb11 HC10.out.lt)
            clear c0 c1 c2
            obtain ⟨c0, c1, c2⟩ := cel3C HC11.out
            have HL11 := Lib.hid (HL10.out.below hb11 HL10.out.lt)
            clear y0 y1 y2 y3
            obtain ⟨y0, y1, y2, y3⟩ := cel4L HL11.out
            clear hb11
            go_wp2_with fail
            refine (HMB.out _ HB11.out).mono ?_
            rintro e w12 ⟨rfl, hb12⟩
            have HB12 := Lib.hid (HB11.out.trans (hb12.mono HB11.out.size))
            have HC12 := Lib.hid (HC11.out.below hb12 HC11.out.lt)
            clear c0 c1 c2
            obtain ⟨c0, c1, c2⟩ := cel3C HC12.out
            clear hb12
            go_wp2_with fail
            refine (HIB.out _ HB12.out).mono ?_
            rintro e w13 ⟨rfl, hb13⟩
            have HB13 := Lib.hid (HB12.out.trans (hb13.mono HB12.out.size))
            have HC13 := Lib.hid (HC12.out.below hb13 HC12.out.lt)
            clear c0 c1 c2
            obtain ⟨c0, c1, c2⟩ := cel3C HC13.out
            clear hb13
            go_wp2_with fail
            refine (knows_yes _).mono ?_
            rintro e wz ⟨rfl, hbz⟩
            go_wp2
            go_ret
            exact ⟨rfl, HB13.out.trans (hbz.mono HB13.out.size)⟩
          | true =>
            rw [hh] at HHOP
            have hpk := l2 hh
            have hpz := beq_key hpk
            clear HLL l1 l2 hh hpk
            go_enter Tryz.func5, Tryz.ntmps5
            go_upto_region 1 with fail
            rw [← hw0]
            clear hw0
            obtain ⟨c0, c1, c2⟩ := cel3C HC0.out
            go_wp2_with fail
            refine (HG.out).mono ?_
            rintro e w1 ⟨rfl, hb1⟩
            have HB1 := Lib.hid (HB0.out.trans (hb1.mono HB0.out.size))
            have HC1 := Lib.hid (HC0.out.below hb1 HC0.out.lt)
            clear c0 c1 c2
            obtain ⟨c0, c1, c2⟩ := cel3C HC1.out
            clear hb1
            go_wp2_with fail
            refine (HCH.out _ HB1.out).mono ?_
            rintro e w2 ⟨rfl, hb2⟩
            have HB2 := Lib.hid (HB1.out.trans (hb2.mono HB1.out.size))
            have HC2 := Lib.hid (HC1.out.below hb2 HC1.out.lt)
            clear c0 c1 c2
            obtain ⟨c0, c1, c2⟩ := cel3C HC2.out
            clear hb2
            go_wp2_with fail
            refine (HKB.out _ HB2.out).mono ?_
            rintro e w3 ⟨rfl, hb3⟩
            have HB3 := Lib.hid (HB2.out.trans (hb3.mono HB2.out.size))
            have HC3 := Lib.hid (HC2.out.below hb3 HC2.out.lt)
            clear c0 c1 c2
            obtain ⟨c0, c1, c2⟩ := cel3C HC3.out
            clear hb3
            go_wp2_with fail
            refine (HGB.out _ HB3.out).mono ?_
            rintro e w4 ⟨rfl, hb4⟩
            have HB4 := Lib.hid (HB3.out.trans (hb4.mono HB3.out.size))
            have HC4 := Lib.hid (HC3.out.below hb4 HC3.out.lt)
            clear c0 c1 c2
            obtain ⟨c0, c1, c2⟩ := cel3C HC4.out
            obtain ⟨wL, hwL⟩ : ∃ wL, wL = w4.alloc (.cells (lcs p) 34) := ⟨_, rfl⟩
            have hbL : Below w4.heap.size w4 wL := by rw [hwL]; exact alloc_more _ _
            have HCL := Lib.hid (show Cel wL w4.heap.size 34 (lcs p) by rw [hwL]; exact Cel.born _ _ _)
            have HB9 := Lib.hid (HB4.out.trans (hbL.mono HB4.out.size))
            have HC9 := Lib.hid (HC4.out.below hbL HC4.out.lt)
            clear hbL c0 c1 c2
            go_upto_region 8 with fail
            rw [← hwL]
            clear hwL
            obtain ⟨c0, c1, c2⟩ := cel3C HC9.out
            obtain ⟨y0, y1, y2, y3⟩ := cel4L HCL.out
            clear hb4
            go_wp2_with fail
            refine (HREP.out _).mono ?_
            rintro e w10 ⟨rfl, hb10⟩
            have HB10 := Lib.hid (HB9.out.trans (hb10.mono HB9.out.size))
            have HC10 := Lib.hid (HC9.out.below hb10 HC9.out.lt)
            clear c0 c1 c2
            obtain ⟨c0, c1, c2⟩ := cel3C HC10.out
            have HL10 := Lib.hid (HCL.out.below hb10 HCL.out.lt)
            clear y0 y1 y2 y3
            obtain ⟨y0, y1, y2, y3⟩ := cel4L HL10.out
            clear hb10
            go_wp2_with fail
            refine (HHOP.out _).mono ?_
            rintro e w11 ⟨rfl, hb11⟩
            have HB11 := Lib.hid (HB10.out.trans (hb11.mono HB10.out.size))
            have HC11 := Lib.hid (HC10.out.below hb11 HC10.out.lt)
            clear c0 c1 c2
            obtain ⟨c0, c1, c2⟩ := cel3C HC11.out
            have HL11 := Lib.hid (HL10.out.below hb11 HL10.out.lt)
            clear y0 y1 y2 y3
            obtain ⟨y0, y1, y2, y3⟩ := cel4L HL11.out
            clear hb11
            go_wp2_with fail
            refine (HMB.out _ HB11.out).mono ?_
            rintro e w12 ⟨rfl, hb12⟩
            have HB12 := Lib.hid (HB11.out.trans (hb12.mono HB11.out.size))
            have HC12 := Lib.hid (HC11.out.below hb12 HC11.out.lt)
            clear c0 c1 c2
            obtain ⟨c0, c1, c2⟩ := cel3C HC12.out
            clear hb12
            go_wp2_with fail
            refine (HIB.out _ HB12.out).mono ?_
            rintro e w13 ⟨rfl, hb13⟩
            have HB13 := Lib.hid (HB12.out.trans (hb13.mono HB12.out.size))
            have HC13 := Lib.hid (HC12.out.below hb13 HC12.out.lt)
            clear c0 c1 c2
            obtain ⟨c0, c1, c2⟩ := cel3C HC13.out
            clear hb13
            go_wp2_with fail
            refine (knows_yes _).mono ?_
            rintro e wz ⟨rfl, hbz⟩
            go_wp2
            go_ret
            exact ⟨rfl, HB13.out.trans (hbz.mono HB13.out.size)⟩
      | true =>
        have hkk : keep = d.k := HG3.out rfl
        have hkz := beq_key hkk
        clear HG3 hkk
        cases there with
        | false =>
          clear HLL HREP HHOP
          go_enter Tryz.func5, Tryz.ntmps5
          go_upto_region 1 with fail
          rw [← hw0]
          clear hw0
          obtain ⟨c0, c1, c2⟩ := cel3C HC0.out
          go_wp2_with fail
          refine (HG.out).mono ?_
          rintro e w1 ⟨rfl, hb1⟩
          have HB1 := Lib.hid (HB0.out.trans (hb1.mono HB0.out.size))
          have HC1 := Lib.hid (HC0.out.below hb1 HC0.out.lt)
          clear c0 c1 c2
          obtain ⟨c0, c1, c2⟩ := cel3C HC1.out
          clear hb1
          go_wp2_with fail
          refine (HCH.out _ HB1.out).mono ?_
          rintro e w2 ⟨rfl, hb2⟩
          have HB2 := Lib.hid (HB1.out.trans (hb2.mono HB1.out.size))
          have HC2 := Lib.hid (HC1.out.below hb2 HC1.out.lt)
          clear c0 c1 c2
          obtain ⟨c0, c1, c2⟩ := cel3C HC2.out
          clear hb2
          go_wp2_with fail
          refine (HKB.out _ HB2.out).mono ?_
          rintro e w3 ⟨rfl, hb3⟩
          have HB3 := Lib.hid (HB2.out.trans (hb3.mono HB2.out.size))
          have HC3 := Lib.hid (HC2.out.below hb3 HC2.out.lt)
          clear c0 c1 c2
          obtain ⟨c0, c1, c2⟩ := cel3C HC3.out
          clear hb3
          go_wp2_with fail
          refine (HGB.out _ HB3.out).mono ?_
          rintro e w4 ⟨rfl, hb4⟩
          have HB4 := Lib.hid (HB3.out.trans (hb4.mono HB3.out.size))
          have HC4 := Lib.hid (HC3.out.below hb4 HC3.out.lt)
          clear c0 c1 c2
          obtain ⟨c0, c1, c2⟩ := cel3C HC4.out
          obtain ⟨wL, hwL⟩ : ∃ wL, wL = w4.alloc (.cells (lcs p) 34) := ⟨_, rfl⟩
          have hbL : Below w4.heap.size w4 wL := by rw [hwL]; exact alloc_more _ _
          have HCL := Lib.hid (show Cel wL w4.heap.size 34 (lcs p) by rw [hwL]; exact Cel.born _ _ _)
          have HB9 := Lib.hid (HB4.out.trans (hbL.mono HB4.out.size))
          have HC9 := Lib.hid (HC4.out.below hbL HC4.out.lt)
          clear hbL c0 c1 c2
          go_upto_region 8 with fail
          rw [← hwL]
          clear hwL
          obtain ⟨c0, c1, c2⟩ := cel3C HC9.out
          obtain ⟨y0, y1, y2, y3⟩ := cel4L HCL.out
          clear hb4
          go_wp2_with fail
          refine (HMB.out _ HB9.out).mono ?_
          rintro e w10 ⟨rfl, hb10⟩
          have HB10 := Lib.hid (HB9.out.trans (hb10.mono HB9.out.size))
          have HC10 := Lib.hid (HC9.out.below hb10 HC9.out.lt)
          clear c0 c1 c2
          obtain ⟨c0, c1, c2⟩ := cel3C HC10.out
          clear hb10
          go_wp2_with fail
          refine (HIB.out _ HB10.out).mono ?_
          rintro e w11 ⟨rfl, hb11⟩
          have HB11 := Lib.hid (HB10.out.trans (hb11.mono HB10.out.size))
          have HC11 := Lib.hid (HC10.out.below hb11 HC10.out.lt)
          clear c0 c1 c2
          obtain ⟨c0, c1, c2⟩ := cel3C HC11.out
          clear hb11
          go_wp2_with fail
          refine (knows_yes _).mono ?_
          rintro e wz ⟨rfl, hbz⟩
          go_wp2
          go_ret
          exact ⟨rfl, HB11.out.trans (hbz.mono HB11.out.size)⟩
        | true =>
          obtain ⟨l1, l2⟩ := HLL.out rfl
          rw [l1] at HREP
          cases hh : holdsT p d.now with
          | false =>
            rw [hh] at HHOP
            clear HLL l1 l2 hh
            go_enter Tryz.func5, Tryz.ntmps5
            go_upto_region 1 with fail
            rw [← hw0]
            clear hw0
            obtain ⟨c0, c1, c2⟩ := cel3C HC0.out
            go_wp2_with fail
            refine (HG.out).mono ?_
            rintro e w1 ⟨rfl, hb1⟩
            have HB1 := Lib.hid (HB0.out.trans (hb1.mono HB0.out.size))
            have HC1 := Lib.hid (HC0.out.below hb1 HC0.out.lt)
            clear c0 c1 c2
            obtain ⟨c0, c1, c2⟩ := cel3C HC1.out
            clear hb1
            go_wp2_with fail
            refine (HCH.out _ HB1.out).mono ?_
            rintro e w2 ⟨rfl, hb2⟩
            have HB2 := Lib.hid (HB1.out.trans (hb2.mono HB1.out.size))
            have HC2 := Lib.hid (HC1.out.below hb2 HC1.out.lt)
            clear c0 c1 c2
            obtain ⟨c0, c1, c2⟩ := cel3C HC2.out
            clear hb2
            go_wp2_with fail
            refine (HKB.out _ HB2.out).mono ?_
            rintro e w3 ⟨rfl, hb3⟩
            have HB3 := Lib.hid (HB2.out.trans (hb3.mono HB2.out.size))
            have HC3 := Lib.hid (HC2.out.below hb3 HC2.out.lt)
            clear c0 c1 c2
            obtain ⟨c0, c1, c2⟩ := cel3C HC3.out
            clear hb3
            go_wp2_with fail
            refine (HGB.out _ HB3.out).mono ?_
            rintro e w4 ⟨rfl, hb4⟩
            have HB4 := Lib.hid (HB3.out.trans (hb4.mono HB3.out.size))
            have HC4 := Lib.hid (HC3.out.below hb4 HC3.out.lt)
            clear c0 c1 c2
            obtain ⟨c0, c1, c2⟩ := cel3C HC4.out
            obtain ⟨wL, hwL⟩ : ∃ wL, wL = w4.alloc (.cells (lcs p) 34) := ⟨_, rfl⟩
            have hbL : Below w4.heap.size w4 wL := by rw [hwL]; exact alloc_more _ _
            have HCL := Lib.hid (show Cel wL w4.heap.size 34 (lcs p) by rw [hwL]; exact Cel.born _ _ _)
            have HB9 := Lib.hid (HB4.out.trans (hbL.mono HB4.out.size))
            have HC9 := Lib.hid (HC4.out.below hbL HC4.out.lt)
            clear hbL c0 c1 c2
            go_upto_region 8 with fail
            rw [← hwL]
            clear hwL
            obtain ⟨c0, c1, c2⟩ := cel3C HC9.out
            obtain ⟨y0, y1, y2, y3⟩ := cel4L HCL.out
            clear hb4
            go_wp2_with fail
            refine (HREP.out _).mono ?_
            rintro e w10 ⟨rfl, hb10⟩
            have HB10 := Lib.hid (HB9.out.trans (hb10.mono HB9.out.size))
            have HC10 := Lib.hid (HC9.out.below hb10 HC9.out.lt)
            clear c0 c1 c2
            obtain ⟨c0, c1, c2⟩ := cel3C HC10.out
            have HL10 := Lib.hid (HCL.out.below hb10 HCL.out.lt)
            clear y0 y1 y2 y3
            obtain ⟨y0, y1, y2, y3⟩ := cel4L HL10.out
            clear hb10
            go_wp2_with fail
            refine (HHOP.out _).mono ?_
            rintro e w11 ⟨rfl, hb11⟩
            have HB11 := Lib.hid (HB10.out.trans (hb11.mono HB10.out.size))
            have HC11 := Lib.hid (HC10.out.below hb11 HC10.out.lt)
            clear c0 c1 c2
            obtain ⟨c0, c1, c2⟩ := cel3C HC11.out
            have HL11 := Lib.hid (HL10.out.below hb11 HL10.out.lt)
            clear y0 y1 y2 y3
            obtain ⟨y0, y1, y2, y3⟩ := cel4L HL11.out
            clear hb11
            go_wp2_with fail
            refine (HMB.out _ HB11.out).mono ?_
            rintro e w12 ⟨rfl, hb12⟩
            have HB12 := Lib.hid (HB11.out.trans (hb12.mono HB11.out.size))
            have HC12 := Lib.hid (HC11.out.below hb12 HC11.out.lt)
            clear c0 c1 c2
            obtain ⟨c0, c1, c2⟩ := cel3C HC12.out
            clear hb12
            go_wp2_with fail
            refine (HIB.out _ HB12.out).mono ?_
            rintro e w13 ⟨rfl, hb13⟩
            have HB13 := Lib.hid (HB12.out.trans (hb13.mono HB12.out.size))
            have HC13 := Lib.hid (HC12.out.below hb13 HC12.out.lt)
            clear c0 c1 c2
            obtain ⟨c0, c1, c2⟩ := cel3C HC13.out
            clear hb13
            go_wp2_with fail
            refine (knows_yes _).mono ?_
            rintro e wz ⟨rfl, hbz⟩
            go_wp2
            go_ret
            exact ⟨rfl, HB13.out.trans (hbz.mono HB13.out.size)⟩
          | true =>
            rw [hh] at HHOP
            have hpk := l2 hh
            have hpz := beq_key hpk
            clear HLL l1 l2 hh hpk
            go_enter Tryz.func5, Tryz.ntmps5
            go_upto_region 1 with fail
            rw [← hw0]
            clear hw0
            obtain ⟨c0, c1, c2⟩ := cel3C HC0.out
            go_wp2_with fail
            refine (HG.out).mono ?_
            rintro e w1 ⟨rfl, hb1⟩
            have HB1 := Lib.hid (HB0.out.trans (hb1.mono HB0.out.size))
            have HC1 := Lib.hid (HC0.out.below hb1 HC0.out.lt)
            clear c0 c1 c2
            obtain ⟨c0, c1, c2⟩ := cel3C HC1.out
            clear hb1
            go_wp2_with fail
            refine (HCH.out _ HB1.out).mono ?_
            rintro e w2 ⟨rfl, hb2⟩
            have HB2 := Lib.hid (HB1.out.trans (hb2.mono HB1.out.size))
            have HC2 := Lib.hid (HC1.out.below hb2 HC1.out.lt)
            clear c0 c1 c2
            obtain ⟨c0, c1, c2⟩ := cel3C HC2.out
            clear hb2
            go_wp2_with fail
            refine (HKB.out _ HB2.out).mono ?_
            rintro e w3 ⟨rfl, hb3⟩
            have HB3 := Lib.hid (HB2.out.trans (hb3.mono HB2.out.size))
            have HC3 := Lib.hid (HC2.out.below hb3 HC2.out.lt)
            clear c0 c1 c2
            obtain ⟨c0, c1, c2⟩ := cel3C HC3.out
            clear hb3
            go_wp2_with fail
            refine (HGB.out _ HB3.out).mono ?_
            rintro e w4 ⟨rfl, hb4⟩
            have HB4 := Lib.hid (HB3.out.trans (hb4.mono HB3.out.size))
            have HC4 := Lib.hid (HC3.out.below hb4 HC3.out.lt)
            clear c0 c1 c2
            obtain ⟨c0, c1, c2⟩ := cel3C HC4.out
            obtain ⟨wL, hwL⟩ : ∃ wL, wL = w4.alloc (.cells (lcs p) 34) := ⟨_, rfl⟩
            have hbL : Below w4.heap.size w4 wL := by rw [hwL]; exact alloc_more _ _
            have HCL := Lib.hid (show Cel wL w4.heap.size 34 (lcs p) by rw [hwL]; exact Cel.born _ _ _)
            have HB9 := Lib.hid (HB4.out.trans (hbL.mono HB4.out.size))
            have HC9 := Lib.hid (HC4.out.below hbL HC4.out.lt)
            clear hbL c0 c1 c2
            go_upto_region 8 with fail
            rw [← hwL]
            clear hwL
            obtain ⟨c0, c1, c2⟩ := cel3C HC9.out
            obtain ⟨y0, y1, y2, y3⟩ := cel4L HCL.out
            clear hb4
            go_wp2_with fail
            refine (HREP.out _).mono ?_
            rintro e w10 ⟨rfl, hb10⟩
            have HB10 := Lib.hid (HB9.out.trans (hb10.mono HB9.out.size))
            have HC10 := Lib.hid (HC9.out.below hb10 HC9.out.lt)
            clear c0 c1 c2
            obtain ⟨c0, c1, c2⟩ := cel3C HC10.out
            have HL10 := Lib.hid (HCL.out.below hb10 HCL.out.lt)
            clear y0 y1 y2 y3
            obtain ⟨y0, y1, y2, y3⟩ := cel4L HL10.out
            clear hb10
            go_wp2_with fail
            refine (HHOP.out _).mono ?_
            rintro e w11 ⟨rfl, hb11⟩
            have HB11 := Lib.hid (HB10.out.trans (hb11.mono HB10.out.size))
            have HC11 := Lib.hid (HC10.out.below hb11 HC10.out.lt)
            clear c0 c1 c2
            obtain ⟨c0, c1, c2⟩ := cel3C HC11.out
            have HL11 := Lib.hid (HL10.out.below hb11 HL10.out.lt)
            clear y0 y1 y2 y3
            obtain ⟨y0, y1, y2, y3⟩ := cel4L HL11.out
            clear hb11
            go_wp2_with fail
            refine (HMB.out _ HB11.out).mono ?_
            rintro e w12 ⟨rfl, hb12⟩
            have HB12 := Lib.hid (HB11.out.trans (hb12.mono HB11.out.size))
            have HC12 := Lib.hid (HC11.out.below hb12 HC11.out.lt)
            clear c0 c1 c2
            obtain ⟨c0, c1, c2⟩ := cel3C HC12.out
            clear hb12
            go_wp2_with fail
            refine (HIB.out _ HB12.out).mono ?_
            rintro e w13 ⟨rfl, hb13⟩
            have HB13 := Lib.hid (HB12.out.trans (hb13.mono HB12.out.size))
            have HC13 := Lib.hid (HC12.out.below hb13 HC12.out.lt)
            clear c0 c1 c2
            obtain ⟨c0, c1, c2⟩ := cel3C HC13.out
            clear hb13
            go_wp2_with fail
            refine (knows_yes _).mono ?_
            rintro e wz ⟨rfl, hbz⟩
            go_wp2
            go_ret
            exact ⟨rfl, HB13.out.trans (hbz.mono HB13.out.size)⟩
end Go.Proofs.YtpdjdaoclpeffaaGreat.Xw
namespace Go.Proofs.YtpdjdaoclpeffaaGreat
open Go.RowKit Co By Rc Ew Jw Xw
open Vw (Cx)
open Dw (ba)
theorem allocGood_walk (x : Cx) (A : Option Addr) (n c : Nat) (l : List L) (net : Int) (k : List UInt8) (a now : Int) (w : World) (hx : x.ok w.heap.size w) (ht : RdLs w.heap.size w A n c l) (hf : ∀ a ∈ l, Fk a) (hk : k.length ≤ 9223372036854775807) (ha : (Lit.int .i64 a).wf = true) :
    Calls Tryz.prog 5 #[x.v, .slice A n c, .int .i64 net, .string (ba k), .int .i64 a, .int .i64 now] w (isTrue w) := good_walk ⟨x, A, n, c, l, net, k, now⟩ a w hx ht hf hk ha
end Go.Proofs.YtpdjdaoclpeffaaGreat
