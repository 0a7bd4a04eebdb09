/- What boarderref15's May comes to. Conditions: the configuration is small and the keys fit (Nd.ok). -/
import Derived.Test.YtpdjdaoclpeffaaGreatXwRef1
set_option maxRecDepth 8000
namespace Go.Proofs.YtpdjdaoclpeffaaGreat.Xw
open Go.RowKit Co By Ky Rc Ew Jw La Tb Lw Cf Al Bw
open Vw (Cx RdPl layP atP FiR AdR KeR isI cel3C)
open Dw (ba ba_size ba_data ba_list alloc_more)

set_option maxHeartbeats 8000000 in
theorem refMay_any (d : Nd) (a : Int) (U : Nat) (w : World) (h : d.ok U w) (hU : U ≤ w.heap.size) : Calls Tryz.prog 10 #[d.x.v, .slice d.A d.n d.c, .int .i64 d.net, .string (ba d.k), .int .i64 a, .int .i64 d.now] w (isB (mayA d.x.cf d.l d.net d.k a d.now) w) := by
  obtain ⟨w0, hw0, hc0, hb0⟩ := boxR w d.x
  have HFA := Lib.hid (fun W (hW : Below w.heap.size w W) => refFair_any d U W (h.below (hW.mono hU)) (Nat.le_trans hU hW.size))
  have HOT := Lib.hid (fun W (hW : Below w.heap.size w W) => refOther_any d a U W (h.below (hW.mono hU)) (Nat.le_trans hU hW.size))
  have HFR := Lib.hid (fun W (hW : Below w.heap.size w W) => Bw.refFree_any d.A d.n d.c U d.l a d.k d.now W (h.t.below (hW.mono hU)) (Nat.le_trans hU hW.size) h.f)
  have HKT := Lib.hid (fun W (hW : Below w.heap.size w W) => Vw.refKept_any d.x d.net d.k U W (h.x.below (hW.mono hU)) (Nat.le_trans hU hW.size) h.s)
  have HKE := Lib.hid (fun W (hW : Below w.heap.size w W) => Vw.refKeeper_any d.x a U W (h.x.below (hW.mono hU)) (Nat.le_trans hU hW.size) h.s)
  have HPO := Lib.hid (fun W (hW : Below w.heap.size w W) => Vw.refPool_any d.x d.net a U W (h.x.below (hW.mono hU)) (Nat.le_trans hU hW.size) h.s)
  have HB0 := Lib.hid hb0
  have HC0 := Lib.hid hc0
  have HM : Hid (mayA d.x.cf d.l d.net d.k a d.now = (decide (FairA d.x.cf d.l d.net d.k) && !otherA d.x.cf d.l d.net d.k a d.now && freeT d.l a d.k d.now && (((keptC d.x.cf d.net d.k).2 && decide (a = (keptC d.x.cf d.net d.k).1)) || (inPoolC d.x.cf d.net a && (!(keeperC d.x.cf a).2 || decide ((keeperC d.x.cf a).1 = d.k)))))) := rfl
  generalize mayA d.x.cf d.l d.net d.k a d.now = m at HM ⊢
  generalize decide (FairA d.x.cf d.l d.net d.k) = b1 at HM HFA
  generalize otherA d.x.cf d.l d.net d.k a d.now = b2 at HM HOT
  generalize freeT d.l a d.k d.now = b3 at HM HFR
  generalize keptC d.x.cf d.net d.k = kp at HM HKT
  generalize keeperC d.x.cf a = ke at HM HKE
  generalize inPoolC d.x.cf d.net a = b4 at HM HPO
  obtain ⟨own, kept⟩ := kp
  obtain ⟨keep, has⟩ := ke
  clear h hU hb0 hc0
  cases b1 with
  | false =>
    have HF : Hid (m = false) := HM.out
    clear HM
    go_enter Tryz.func10, Tryz.ntmps10
    go_upto_region 1 with fail
    rw [← hw0]
    clear hw0
    obtain ⟨c0, c1, c2⟩ := cel3C HC0.out
    go_wp2_with fail
    refine (HFA.out _ HB0.out).mono ?_
    rintro e w1 ⟨rfl, hb1⟩
    have HB1 := Lib.hid (HB0.out.trans (hb1.mono HB0.out.size))
    have HC1 := Lib.hid (HC0.out.below hb1 HC0.out.lt)
    clear c0 c1 c2 hb1
    obtain ⟨c0, c1, c2⟩ := cel3C HC1.out
    go_wp2
    go_ret
    exact ⟨ret_bool HF.out.symm, HB1.out⟩
  | true =>
    cases b2 with
    | true =>
      have HF : Hid (m = false) := HM.out
      clear HM
      go_enter Tryz.func10, Tryz.ntmps10
      go_upto_region 1 with fail
      rw [← hw0]
      clear hw0
      obtain ⟨c0, c1, c2⟩ := cel3C HC0.out
      go_wp2_with fail
      refine (HFA.out _ HB0.out).mono ?_
      rintro e w1 ⟨rfl, hb1⟩
      have HB1 := Lib.hid (HB0.out.trans (hb1.mono HB0.out.size))
      have HC1 := Lib.hid (HC0.out.below hb1 HC0.out.lt)
      clear c0 c1 c2 hb1
      obtain ⟨c0, c1, c2⟩ := cel3C HC1.out
      go_wp2_with fail
      refine (HOT.out _ HB1.out).mono ?_
      rintro e w2 ⟨rfl, hb2⟩
      have HB2 := Lib.hid (HB1.out.trans (hb2.mono HB1.out.size))
      have HC2 := Lib.hid (HC1.out.below hb2 HC1.out.lt)
      clear c0 c1 c2 hb2
      obtain ⟨c0, c1, c2⟩ := cel3C HC2.out
      go_wp2
      go_ret
      exact ⟨ret_bool HF.out.symm, HB2.out⟩
    | false =>
      cases b3 with
      | false =>
        have HF : Hid (m = false) := HM.out
        clear HM
        go_enter Tryz.func10, Tryz.ntmps10
        go_upto_region 1 with fail
        rw [← hw0]
        clear hw0
        obtain ⟨c0, c1, c2⟩ := cel3C HC0.out
        go_wp2_with fail
        refine (HFA.out _ HB0.out).mono ?_
        rintro e w1 ⟨rfl, hb1⟩
        have HB1 := Lib.hid (HB0.out.trans (hb1.mono HB0.out.size))
        have HC1 := Lib.hid (HC0.out.below hb1 HC0.out.lt)
        clear c0 c1 c2 hb1
        obtain ⟨c0, c1, c2⟩ := cel3C HC1.out
        go_wp2_with fail
        refine (HOT.out _ HB1.out).mono ?_
        rintro e w2 ⟨rfl, hb2⟩
        have HB2 := Lib.hid (HB1.out.trans (hb2.mono HB1.out.size))
        have HC2 := Lib.hid (HC1.out.below hb2 HC1.out.lt)
        clear c0 c1 c2 hb2
        obtain ⟨c0, c1, c2⟩ := cel3C HC2.out
        go_wp2_with fail
        refine (HFR.out _ HB2.out).mono ?_
        rintro e w3 ⟨rfl, hb3⟩
        have HB3 := Lib.hid (HB2.out.trans (hb3.mono HB2.out.size))
        have HC3 := Lib.hid (HC2.out.below hb3 HC2.out.lt)
        clear c0 c1 c2 hb3
        obtain ⟨c0, c1, c2⟩ := cel3C HC3.out
        go_wp2
        go_ret
        exact ⟨ret_bool HF.out.symm, HB3.out⟩
      | true =>
        have HN : Hid ((kept && decide (a = own)) = false → m = (b4 && (!has || decide (keep = d.k)))) := fun e => by
          have := HM.out
          simp only [e] at this
          exact this
        by_cases hq : kept = true ∧ a = own
        · obtain ⟨rfl, hq⟩ := hq
          have HF : Hid (m = true) := HM.out.trans (by rw [decide_eq_true hq]; rfl)
          have hqz : (a == own) = true := by simpa using hq
          clear HM HN hq
          go_enter Tryz.func10, Tryz.ntmps10
          go_upto_region 1 with fail
          rw [← hw0]
          clear hw0
          obtain ⟨c0, c1, c2⟩ := cel3C HC0.out
          go_wp2_with fail
          refine (HFA.out _ HB0.out).mono ?_
          rintro e w1 ⟨rfl, hb1⟩
          have HB1 := Lib.hid (HB0.out.trans (hb1.mono HB0.out.size))
          have HC1 := Lib.hid (HC0.out.below hb1 HC0.out.lt)
          clear c0 c1 c2 hb1
          obtain ⟨c0, c1, c2⟩ := cel3C HC1.out
          go_wp2_with fail
          refine (HOT.out _ HB1.out).mono ?_
          rintro e w2 ⟨rfl, hb2⟩
          have HB2 := Lib.hid (HB1.out.trans (hb2.mono HB1.out.size))
          have HC2 := Lib.hid (HC1.out.below hb2 HC1.out.lt)
          clear c0 c1 c2 hb2
          obtain ⟨c0, c1, c2⟩ := cel3C HC2.out
          go_wp2_with fail
          refine (HFR.out _ HB2.out).mono ?_
          rintro e w3 ⟨rfl, hb3⟩
          have HB3 := Lib.hid (HB2.out.trans (hb3.mono HB2.out.size))
          have HC3 := Lib.hid (HC2.out.below hb3 HC2.out.lt)
          clear c0 c1 c2 hb3
          obtain ⟨c0, c1, c2⟩ := cel3C HC3.out
          go_wp2_with fail
          refine (HKT.out _ HB3.out).mono ?_
          rintro e w4 ⟨rfl, hb4⟩
          have HB4 := Lib.hid (HB3.out.trans (hb4.mono HB3.out.size))
          have HC4 := Lib.hid (HC3.out.below hb4 HC3.out.lt)
          clear c0 c1 c2 hb4
          obtain ⟨c0, c1, c2⟩ := cel3C HC4.out
          go_wp2
          go_ret
          exact ⟨ret_bool HF.out.symm, HB4.out⟩
        · have hno : (kept && decide (a = own)) = false := by
            cases kept with
            | false => rfl
            | true => exact decide_eq_false fun e => hq ⟨rfl, e⟩
          have HP := Lib.hid (HN.out hno)
          clear HM HN hno
          cases kept with
          | false =>
            clear hq
            cases b4 with
            | false =>
              have HF : Hid (m = false) := HP.out
              clear HP
              go_enter Tryz.func10, Tryz.ntmps10
              go_upto_region 1 with fail
              rw [← hw0]
              clear hw0
              obtain ⟨c0, c1, c2⟩ := cel3C HC0.out
              go_wp2_with fail
              refine (HFA.out _ HB0.out).mono ?_
              rintro e w1 ⟨rfl, hb1⟩
              have HB1 := Lib.hid (HB0.out.trans (hb1.mono HB0.out.size))
              have HC1 := Lib.hid (HC0.out.below hb1 HC0.out.lt)
              clear c0 c1 c2 hb1
              obtain ⟨c0, c1, c2⟩ := cel3C HC1.out
              go_wp2_with fail
              refine (HOT.out _ HB1.out).mono ?_
              rintro e w2 ⟨rfl, hb2⟩
              have HB2 := Lib.hid (HB1.out.trans (hb2.mono HB1.out.size))
              have HC2 := Lib.hid (HC1.out.below hb2 HC1.out.lt)
              clear c0 c1 c2 hb2
              obtain ⟨c0, c1, c2⟩ := cel3C HC2.out
              go_wp2_with fail
              refine (HFR.out _ HB2.out).mono ?_
              rintro e w3 ⟨rfl, hb3⟩
              have HB3 := Lib.hid (HB2.out.trans (hb3.mono HB2.out.size))
              have HC3 := Lib.hid (HC2.out.below hb3 HC2.out.lt)
              clear c0 c1 c2 hb3
              obtain ⟨c0, c1, c2⟩ := cel3C HC3.out
              go_wp2_with fail
              refine (HKT.out _ HB3.out).mono ?_
              rintro e w4 ⟨rfl, hb4⟩
              have HB4 := Lib.hid (HB3.out.trans (hb4.mono HB3.out.size))
              have HC4 := Lib.hid (HC3.out.below hb4 HC3.out.lt)
              clear c0 c1 c2 hb4
              obtain ⟨c0, c1, c2⟩ := cel3C HC4.out
              go_wp2_with fail
              refine (HKE.out _ HB4.out).mono ?_
              rintro e w5 ⟨rfl, hb5⟩
              have HB5 := Lib.hid (HB4.out.trans (hb5.mono HB4.out.size))
              have HC5 := Lib.hid (HC4.out.below hb5 HC4.out.lt)
              clear c0 c1 c2 hb5
              obtain ⟨c0, c1, c2⟩ := cel3C HC5.out
              go_wp2_with fail
              refine (HPO.out _ HB5.out).mono ?_
              rintro e w6 ⟨rfl, hb6⟩
              have HB6 := Lib.hid (HB5.out.trans (hb6.mono HB5.out.size))
              have HC6 := Lib.hid (HC5.out.below hb6 HC5.out.lt)
              clear c0 c1 c2 hb6
              obtain ⟨c0, c1, c2⟩ := cel3C HC6.out
              go_wp2
              go_ret
              exact ⟨ret_bool HF.out.symm, HB6.out⟩
            | true =>
              cases has with
              | false =>
                have HF : Hid (m = true) := HP.out
                clear HP
                go_enter Tryz.func10, Tryz.ntmps10
                go_upto_region 1 with fail
                rw [← hw0]
                clear hw0
                obtain ⟨c0, c1, c2⟩ := cel3C HC0.out
                go_wp2_with fail
                refine (HFA.out _ HB0.out).mono ?_
                rintro e w1 ⟨rfl, hb1⟩
                have HB1 := Lib.hid (HB0.out.trans (hb1.mono HB0.out.size))
                have HC1 := Lib.hid (HC0.out.below hb1 HC0.out.lt)
                clear c0 c1 c2 hb1
                obtain ⟨c0, c1, c2⟩ := cel3C HC1.out
                go_wp2_with fail
                refine (HOT.out _ HB1.out).mono ?_
                rintro e w2 ⟨rfl, hb2⟩
                have HB2 := Lib.hid (HB1.out.trans (hb2.mono HB1.out.size))
                have HC2 := Lib.hid (HC1.out.below hb2 HC1.out.lt)
                clear c0 c1 c2 hb2
                obtain ⟨c0, c1, c2⟩ := cel3C HC2.out
                go_wp2_with fail
                refine (HFR.out _ HB2.out).mono ?_
                rintro e w3 ⟨rfl, hb3⟩
                have HB3 := Lib.hid (HB2.out.trans (hb3.mono HB2.out.size))
                have HC3 := Lib.hid (HC2.out.below hb3 HC2.out.lt)
                clear c0 c1 c2 hb3
                obtain ⟨c0, c1, c2⟩ := cel3C HC3.out
                go_wp2_with fail
                refine (HKT.out _ HB3.out).mono ?_
                rintro e w4 ⟨rfl, hb4⟩
                have HB4 := Lib.hid (HB3.out.trans (hb4.mono HB3.out.size))
                have HC4 := Lib.hid (HC3.out.below hb4 HC3.out.lt)
                clear c0 c1 c2 hb4
                obtain ⟨c0, c1, c2⟩ := cel3C HC4.out
                go_wp2_with fail
                refine (HKE.out _ HB4.out).mono ?_
                rintro e w5 ⟨rfl, hb5⟩
                have HB5 := Lib.hid (HB4.out.trans (hb5.mono HB4.out.size))
                have HC5 := Lib.hid (HC4.out.below hb5 HC4.out.lt)
                clear c0 c1 c2 hb5
                obtain ⟨c0, c1, c2⟩ := cel3C HC5.out
                go_wp2_with fail
                refine (HPO.out _ HB5.out).mono ?_
                rintro e w6 ⟨rfl, hb6⟩
                have HB6 := Lib.hid (HB5.out.trans (hb6.mono HB5.out.size))
                have HC6 := Lib.hid (HC5.out.below hb6 HC5.out.lt)
                clear c0 c1 c2 hb6
                obtain ⟨c0, c1, c2⟩ := cel3C HC6.out
                go_wp2
                go_ret
                exact ⟨ret_bool HF.out.symm, HB6.out⟩
              | true =>
                by_cases hp : keep = d.k
                · have HF : Hid (m = true) := HP.out.trans (by rw [decide_eq_true hp]; rfl)
                  have hpz := beq_key hp
                  clear HP hp
                  go_enter Tryz.func10, Tryz.ntmps10
                  go_upto_region 1 with fail
                  rw [← hw0]
                  clear hw0
                  obtain ⟨c0, c1, c2⟩ := cel3C HC0.out
                  go_wp2_with fail
                  refine (HFA.out _ HB0.out).mono ?_
                  rintro e w1 ⟨rfl, hb1⟩
                  have HB1 := Lib.hid (HB0.out.trans (hb1.mono HB0.out.size))
                  have HC1 := Lib.hid (HC0.out.below hb1 HC0.out.lt)
                  clear c0 c1 c2 hb1
                  obtain ⟨c0, c1, c2⟩ := cel3C HC1.out
                  go_wp2_with fail
                  refine (HOT.out _ HB1.out).mono ?_
                  rintro e w2 ⟨rfl, hb2⟩
                  have HB2 := Lib.hid (HB1.out.trans (hb2.mono HB1.out.size))
                  have HC2 := Lib.hid (HC1.out.below hb2 HC1.out.lt)
                  clear c0 c1 c2 hb2
                  obtain ⟨c0, c1, c2⟩ := cel3C HC2.out
                  go_wp2_with fail
                  refine (HFR.out _ HB2.out).mono ?_
                  rintro e w3 ⟨rfl, hb3⟩
                  have HB3 := Lib.hid (HB2.out.trans (hb3.mono HB2.out.size))
                  have HC3 := Lib.hid (HC2.out.below hb3 HC2.out.lt)
                  clear c0 c1 c2 hb3
                  obtain ⟨c0, c1, c2⟩ := cel3C HC3.out
                  go_wp2_with fail
                  refine (HKT.out _ HB3.out).mono ?_
                  rintro e w4 ⟨rfl, hb4⟩
                  have HB4 := Lib.hid (HB3.out.trans (hb4.mono HB3.out.size))
                  have HC4 := Lib.hid (HC3.out.below hb4 HC3.out.lt)
                  clear c0 c1 c2 hb4
                  obtain ⟨c0, c1, c2⟩ := cel3C HC4.out
                  go_wp2_with fail
                  refine (HKE.out _ HB4.out).mono ?_
                  rintro e w5 ⟨rfl, hb5⟩
                  have HB5 := Lib.hid (HB4.out.trans (hb5.mono HB4.out.size))
                  have HC5 := Lib.hid (HC4.out.below hb5 HC4.out.lt)
                  clear c0 c1 c2 hb5
                  obtain ⟨c0, c1, c2⟩ := cel3C HC5.out
                  go_wp2_with fail
                  refine (HPO.out _ HB5.out).mono ?_
                  rintro e w6 ⟨rfl, hb6⟩
                  have HB6 := Lib.hid (HB5.out.trans (hb6.mono HB5.out.size))
                  have HC6 := Lib.hid (HC5.out.below hb6 HC5.out.lt)
                  clear c0 c1 c2 hb6
                  obtain ⟨c0, c1, c2⟩ := cel3C HC6.out
                  go_wp2
                  go_ret
                  exact ⟨ret_bool HF.out.symm, HB6.out⟩
                · have HF : Hid (m = false) := HP.out.trans (by rw [decide_eq_false hp]; rfl)
                  have hpz := bne_key hp
                  clear HP hp
                  go_enter Tryz.func10, Tryz.ntmps10
                  go_upto_region 1 with fail
                  rw [← hw0]
                  clear hw0
                  obtain ⟨c0, c1, c2⟩ := cel3C HC0.out
                  go_wp2_with fail
                  refine (HFA.out _ HB0.out).mono ?_
                  rintro e w1 ⟨rfl, hb1⟩
                  have HB1 := Lib.hid (HB0.out.trans (hb1.mono HB0.out.size))
                  have HC1 := Lib.hid (HC0.out.below hb1 HC0.out.lt)
                  clear c0 c1 c2 hb1
                  obtain ⟨c0, c1, c2⟩ := cel3C HC1.out
                  go_wp2_with fail
                  refine (HOT.out _ HB1.out).mono ?_
                  rintro e w2 ⟨rfl, hb2⟩
                  have HB2 := Lib.hid (HB1.out.trans (hb2.mono HB1.out.size))
                  have HC2 := Lib.hid (HC1.out.below hb2 HC1.out.lt)
                  clear c0 c1 c2 hb2
                  obtain ⟨c0, c1, c2⟩ := cel3C HC2.out
                  go_wp2_with fail
                  refine (HFR.out _ HB2.out).mono ?_
                  rintro e w3 ⟨rfl, hb3⟩
                  have HB3 := Lib.hid (HB2.out.trans (hb3.mono HB2.out.size))
                  have HC3 := Lib.hid (HC2.out.below hb3 HC2.out.lt)
                  clear c0 c1 c2 hb3
                  obtain ⟨c0, c1, c2⟩ := cel3C HC3.out
                  go_wp2_with fail
                  refine (HKT.out _ HB3.out).mono ?_
                  rintro e w4 ⟨rfl, hb4⟩
                  have HB4 := Lib.hid (HB3.out.trans (hb4.mono HB3.out.size))
                  have HC4 := Lib.hid (HC3.out.below hb4 HC3.out.lt)
                  clear c0 c1 c2 hb4
                  obtain ⟨c0, c1, c2⟩ := cel3C HC4.out
                  go_wp2_with fail
                  refine (HKE.out _ HB4.out).mono ?_
                  rintro e w5 ⟨rfl, hb5⟩
                  have HB5 := Lib.hid (HB4.out.trans (hb5.mono HB4.out.size))
                  have HC5 := Lib.hid (HC4.out.below hb5 HC4.out.lt)
                  clear c0 c1 c2 hb5
                  obtain ⟨c0, c1, c2⟩ := cel3C HC5.out
                  go_wp2_with fail
                  refine (HPO.out _ HB5.out).mono ?_
                  rintro e w6 ⟨rfl, hb6⟩
                  have HB6 := Lib.hid (HB5.out.trans (hb6.mono HB5.out.size))
                  have HC6 := Lib.hid (HC5.out.below hb6 HC5.out.lt)
                  clear c0 c1 c2 hb6
                  obtain ⟨c0, c1, c2⟩ := cel3C HC6.out
                  go_wp2
                  go_ret
                  exact ⟨ret_bool HF.out.symm, HB6.out⟩
          | true =>
            have hqz : (a == own) = false := by
              have : ¬ a = own := fun e => hq ⟨rfl, e⟩
              simpa using this
            clear hq
            cases b4 with
            | false =>
              have HF : Hid (m = false) := HP.out
              clear HP
              go_enter Tryz.func10, Tryz.ntmps10
              go_upto_region 1 with fail
              rw [← hw0]
              clear hw0
              obtain ⟨c0, c1, c2⟩ := cel3C HC0.out
              go_wp2_with fail
              refine (HFA.out _ HB0.out).mono ?_
              rintro e w1 ⟨rfl, hb1⟩
              have HB1 := Lib.hid (HB0.out.trans (hb1.mono HB0.out.size))
              have HC1 := Lib.hid (HC0.out.below hb1 HC0.out.lt)
              clear c0 c1 c2 hb1
              obtain ⟨c0, c1, c2⟩ := cel3C HC1.out
              go_wp2_with fail
              refine (HOT.out _ HB1.out).mono ?_
              rintro e w2 ⟨rfl, hb2⟩
              have HB2 := Lib.hid (HB1.out.trans (hb2.mono HB1.out.size))
              have HC2 := Lib.hid (HC1.out.below hb2 HC1.out.lt)
              clear c0 c1 c2 hb2
              obtain ⟨c0, c1, c2⟩ := cel3C HC2.out
              go_wp2_with fail
              refine (HFR.out _ HB2.out).mono ?_
              rintro e w3 ⟨rfl, hb3⟩
              have HB3 := Lib.hid (HB2.out.trans (hb3.mono HB2.out.size))
              have HC3 := Lib.hid (HC2.out.below hb3 HC2.out.lt)
              clear c0 c1 c2 hb3
              obtain ⟨c0, c1, c2⟩ := cel3C HC3.out
              go_wp2_with fail
              refine (HKT.out _ HB3.out).mono ?_
              rintro e w4 ⟨rfl, hb4⟩
              have HB4 := Lib.hid (HB3.out.trans (hb4.mono HB3.out.size))
              have HC4 := Lib.hid (HC3.out.below hb4 HC3.out.lt)
              clear c0 c1 c2 hb4
              obtain ⟨c0, c1, c2⟩ := cel3C HC4.out
              go_wp2_with fail
              refine (HKE.out _ HB4.out).mono ?_
              rintro e w5 ⟨rfl, hb5⟩
              have HB5 := Lib.hid (HB4.out.trans (hb5.mono HB4.out.size))
              have HC5 := Lib.hid (HC4.out.below hb5 HC4.out.lt)
              clear c0 c1 c2 hb5
              obtain ⟨c0, c1, c2⟩ := cel3C HC5.out
              go_wp2_with fail
              refine (HPO.out _ HB5.out).mono ?_
              rintro e w6 ⟨rfl, hb6⟩
              have HB6 := Lib.hid (HB5.out.trans (hb6.mono HB5.out.size))
              have HC6 := Lib.hid (HC5.out.below hb6 HC5.out.lt)
              clear c0 c1 c2 hb6
              obtain ⟨c0, c1, c2⟩ := cel3C HC6.out
              go_wp2
              go_ret
              exact ⟨ret_bool HF.out.symm, HB6.out⟩
            | true =>
              cases has with
              | false =>
                have HF : Hid (m = true) := HP.out
                clear HP
                go_enter Tryz.func10, Tryz.ntmps10
                go_upto_region 1 with fail
                rw [← hw0]
                clear hw0
                obtain ⟨c0, c1, c2⟩ := cel3C HC0.out
                go_wp2_with fail
                refine (HFA.out _ HB0.out).mono ?_
                rintro e w1 ⟨rfl, hb1⟩
                have HB1 := Lib.hid (HB0.out.trans (hb1.mono HB0.out.size))
                have HC1 := Lib.hid (HC0.out.below hb1 HC0.out.lt)
                clear c0 c1 c2 hb1
                obtain ⟨c0, c1, c2⟩ := cel3C HC1.out
                go_wp2_with fail
                refine (HOT.out _ HB1.out).mono ?_
                rintro e w2 ⟨rfl, hb2⟩
                have HB2 := Lib.hid (HB1.out.trans (hb2.mono HB1.out.size))
                have HC2 := Lib.hid (HC1.out.below hb2 HC1.out.lt)
                clear c0 c1 c2 hb2
                obtain ⟨c0, c1, c2⟩ := cel3C HC2.out
                go_wp2_with fail
                refine (HFR.out _ HB2.out).mono ?_
                rintro e w3 ⟨rfl, hb3⟩
                have HB3 := Lib.hid (HB2.out.trans (hb3.mono HB2.out.size))
                have HC3 := Lib.hid (HC2.out.below hb3 HC2.out.lt)
                clear c0 c1 c2 hb3
                obtain ⟨c0, c1, c2⟩ := cel3C HC3.out
                go_wp2_with fail
                refine (HKT.out _ HB3.out).mono ?_
                rintro e w4 ⟨rfl, hb4⟩
                have HB4 := Lib.hid (HB3.out.trans (hb4.mono HB3.out.size))
                have HC4 := Lib.hid (HC3.out.below hb4 HC3.out.lt)
                clear c0 c1 c2 hb4
                obtain ⟨c0, c1, c2⟩ := cel3C HC4.out
                go_wp2_with fail
                refine (HKE.out _ HB4.out).mono ?_
                rintro e w5 ⟨rfl, hb5⟩
                have HB5 := Lib.hid (HB4.out.trans (hb5.mono HB4.out.size))
                have HC5 := Lib.hid (HC4.out.below hb5 HC4.out.lt)
                clear c0 c1 c2 hb5
                obtain ⟨c0, c1, c2⟩ := cel3C HC5.out
                go_wp2_with fail
                refine (HPO.out _ HB5.out).mono ?_
                rintro e w6 ⟨rfl, hb6⟩
                have HB6 := Lib.hid (HB5.out.trans (hb6.mono HB5.out.size))
                have HC6 := Lib.hid (HC5.out.below hb6 HC5.out.lt)
                clear c0 c1 c2 hb6
                obtain ⟨c0, c1, c2⟩ := cel3C HC6.out
                go_wp2
                go_ret
                exact ⟨ret_bool HF.out.symm, HB6.out⟩
              | true =>
                by_cases hp : keep = d.k
                · have HF : Hid (m = true) := HP.out.trans (by rw [decide_eq_true hp]; rfl)
                  have hpz := beq_key hp
                  clear HP hp
                  go_enter Tryz.func10, Tryz.ntmps10
                  go_upto_region 1 with fail
                  rw [← hw0]
                  clear hw0
                  obtain ⟨c0, c1, c2⟩ := cel3C HC0.out
                  go_wp2_with fail
                  refine (HFA.out _ HB0.out).mono ?_
                  rintro e w1 ⟨rfl, hb1⟩
                  have HB1 := Lib.hid (HB0.out.trans (hb1.mono HB0.out.size))
                  have HC1 := Lib.hid (HC0.out.below hb1 HC0.out.lt)
                  clear c0 c1 c2 hb1
                  obtain ⟨c0, c1, c2⟩ := cel3C HC1.out
                  go_wp2_with fail
                  refine (HOT.out _ HB1.out).mono ?_
                  rintro e w2 ⟨rfl, hb2⟩
                  have HB2 := Lib.hid (HB1.out.trans (hb2.mono HB1.out.size))
                  have HC2 := Lib.hid (HC1.out.below hb2 HC1.out.lt)
                  clear c0 c1 c2 hb2
                  obtain ⟨c0, c1, c2⟩ := cel3C HC2.out
                  go_wp2_with fail
                  refine (HFR.out _ HB2.out).mono ?_
                  rintro e w3 ⟨rfl, hb3⟩
                  have HB3 := Lib.hid (HB2.out.trans (hb3.mono HB2.out.size))
                  have HC3 := Lib.hid (HC2.out.below hb3 HC2.out.lt)
                  clear c0 c1 c2 hb3
                  obtain ⟨c0, c1, c2⟩ := cel3C HC3.out
                  go_wp2_with fail
                  refine (HKT.out _ HB3.out).mono ?_
                  rintro e w4 ⟨rfl, hb4⟩
                  have HB4 := Lib.hid (HB3.out.trans (hb4.mono HB3.out.size))
                  have HC4 := Lib.hid (HC3.out.below hb4 HC3.out.lt)
                  clear c0 c1 c2 hb4
                  obtain ⟨c0, c1, c2⟩ := cel3C HC4.out
                  go_wp2_with fail
                  refine (HKE.out _ HB4.out).mono ?_
                  rintro e w5 ⟨rfl, hb5⟩
                  have HB5 := Lib.hid (HB4.out.trans (hb5.mono HB4.out.size))
                  have HC5 := Lib.hid (HC4.out.below hb5 HC4.out.lt)
                  clear c0 c1 c2 hb5
                  obtain ⟨c0, c1, c2⟩ := cel3C HC5.out
                  go_wp2_with fail
                  refine (HPO.out _ HB5.out).mono ?_
                  rintro e w6 ⟨rfl, hb6⟩
                  have HB6 := Lib.hid (HB5.out.trans (hb6.mono HB5.out.size))
                  have HC6 := Lib.hid (HC5.out.below hb6 HC5.out.lt)
                  clear c0 c1 c2 hb6
                  obtain ⟨c0, c1, c2⟩ := cel3C HC6.out
                  go_wp2
                  go_ret
                  exact ⟨ret_bool HF.out.symm, HB6.out⟩
                · have HF : Hid (m = false) := HP.out.trans (by rw [decide_eq_false hp]; rfl)
                  have hpz := bne_key hp
                  clear HP hp
                  go_enter Tryz.func10, Tryz.ntmps10
                  go_upto_region 1 with fail
                  rw [← hw0]
                  clear hw0
                  obtain ⟨c0, c1, c2⟩ := cel3C HC0.out
                  go_wp2_with fail
                  refine (HFA.out _ HB0.out).mono ?_
                  rintro e w1 ⟨rfl, hb1⟩
                  have HB1 := Lib.hid (HB0.out.trans (hb1.mono HB0.out.size))
                  have HC1 := Lib.hid (HC0.out.below hb1 HC0.out.lt)
                  clear c0 c1 c2 hb1
                  obtain ⟨c0, c1, c2⟩ := cel3C HC1.out
                  go_wp2_with fail
                  refine (HOT.out _ HB1.out).mono ?_
                  rintro e w2 ⟨rfl, hb2⟩
                  have HB2 := Lib.hid (HB1.out.trans (hb2.mono HB1.out.size))
                  have HC2 := Lib.hid (HC1.out.below hb2 HC1.out.lt)
                  clear c0 c1 c2 hb2
                  obtain ⟨c0, c1, c2⟩ := cel3C HC2.out
                  go_wp2_with fail
                  refine (HFR.out _ HB2.out).mono ?_
                  rintro e w3 ⟨rfl, hb3⟩
                  have HB3 := Lib.hid (HB2.out.trans (hb3.mono HB2.out.size))
                  have HC3 := Lib.hid (HC2.out.below hb3 HC2.out.lt)
                  clear c0 c1 c2 hb3
                  obtain ⟨c0, c1, c2⟩ := cel3C HC3.out
                  go_wp2_with fail
                  refine (HKT.out _ HB3.out).mono ?_
                  rintro e w4 ⟨rfl, hb4⟩
                  have HB4 := Lib.hid (HB3.out.trans (hb4.mono HB3.out.size))
                  have HC4 := Lib.hid (HC3.out.below hb4 HC3.out.lt)
                  clear c0 c1 c2 hb4
                  obtain ⟨c0, c1, c2⟩ := cel3C HC4.out
                  go_wp2_with fail
                  refine (HKE.out _ HB4.out).mono ?_
                  rintro e w5 ⟨rfl, hb5⟩
                  have HB5 := Lib.hid (HB4.out.trans (hb5.mono HB4.out.size))
                  have HC5 := Lib.hid (HC4.out.below hb5 HC4.out.lt)
                  clear c0 c1 c2 hb5
                  obtain ⟨c0, c1, c2⟩ := cel3C HC5.out
                  go_wp2_with fail
                  refine (HPO.out _ HB5.out).mono ?_
                  rintro e w6 ⟨rfl, hb6⟩
                  have HB6 := Lib.hid (HB5.out.trans (hb6.mono HB5.out.size))
                  have HC6 := Lib.hid (HC5.out.below hb6 HC5.out.lt)
                  clear c0 c1 c2 hb6
                  obtain ⟨c0, c1, c2⟩ := cel3C HC6.out
                  go_wp2
                  go_ret
                  exact ⟨ret_bool HF.out.symm, HB6.out⟩
end Go.Proofs.YtpdjdaoclpeffaaGreat.Xw
