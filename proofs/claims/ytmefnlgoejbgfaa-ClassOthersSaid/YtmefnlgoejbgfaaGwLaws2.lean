/- The walk of ClassOthers: it returns true, and what was in memory stays. For all inputs. -/
import Derived.Test.YtmefnlgoejbgfaaGwKnows
import Derived.Test.YtmefnlgoejbgfaaOwKnows
import Derived.Test.YtmefnlgoejbgfaaMwCel
import Derived.Deep.RegionHeld3
set_option maxRecDepth 8000
namespace Go.Proofs.Ytmefnlgoejbgfaa
open Go.RowKit Tl Co Ms By Cl Ow Gw
open Pw (boxM celM_all alloc_more small_ms)

theorem ownC_put {e B n c : Nat} {w : World} {A : Option Addr} {ps : List Po} (h : OwnC e B w A n c ps) {g : Nat} (hg : g < B) (j : Nat) (v : Value) : OwnC e B (w.setCell ⟨g, j, none⟩ v) A n c ps := by
  refine World.ownsRow.kept h (grown_set w g j v) ?_
  by_cases k : (Value.slice A n c).ownBlock = none
  · exact .inl k
  · refine .inr fun k2 => ?_
    have := (World.ownsRow.lt h g k2).1
    omega
/-- A message of another kind is about nothing. -/
theorem other_class {m : M} {l : List O} {v : Int} (he : m.os = setL l 53 v 1) (hf : Cw.fairB v 1 = true) (h3 : v ≠ 3) : classL m = 0 ∧ aboutL m = 0 := by
  have hn := num_set l 53 (k := 1) hf
  have hk : kindE m.os ≠ 3 := by
    have e1 : numE m.os 53 1 = some v.toNat := by rw [he]; exact hn
    obtain ⟨_, _, h4, _⟩ := (fairB_iff v 1).1 hf
    unfold kindE
    rw [e1]
    show (if 1 ≤ v.toNat ∧ v.toNat ≤ 8 then (v.toNat : Int) else 0) ≠ 3
    split <;> omega
  have h0 : classL m = 0 := by unfold classL; rw [if_pos hk]
  exact ⟨h0, class_wrong h0⟩
theorem unfair_out {v : Int} (h : ¬ Cw.fairB v 1 = true) : v < 0 ∨ 255 < v := by
  rw [fairB_iff] at h
  have : p256 (1 : Int).toNat = 256 := by decide +kernel
  omega

set_option maxHeartbeats 16000000 in
theorem classOthers_walk (x : Mv) (kd : Int) (w : World) (h : x.ok w) (_ : (Lit.int .i64 kd).wf = true) : Calls Try.prog 6 #[x.v, .int .i64 kd] w (isTrue w) := by
  obtain ⟨w0, hw0, hc0, hb0, hz⟩ := boxM w x 25
  have hx0 := h.below hb0
  have HG := Lib.hid (Mw.great_msg x w0 hx0)
  have HB := Lib.hid hb0
  have HM := Lib.hid hc0
  have HB0 := Lib.hid (Below.refl w0.heap.size w0)
  cases hg : Mw.greatM x.mm with
  | true =>
    rw [hg] at HG
    clear hg hc0 hb0 h hz hx0
    go_enter Try.func6, Try.ntmps6
    go_upto_region 1 with fail
    rw [← hw0]
    clear hw0
    obtain ⟨⟨m0, m1, m2, m3, m4, m5, m6⟩, m7, m8, m9, m10, m11, m12⟩ := celM_all (HM.out.below HB0.out HM.out.lt)
    go_wp2_with fail
    refine (HG.out).mono ?_
    rintro e w1 ⟨rfl, hb⟩
    have HB1 := Lib.hid (HB0.out.trans (hb.mono HB0.out.size))
    clear hb m0 m1 m2 m3 m4 m5 m6 m7 m8 m9 m10 m11 m12
    go_wp2_with fail
    refine (knows_yes _).mono ?_
    rintro e w2 ⟨rfl, hb⟩
    have HB2 := Lib.hid (HB1.out.trans (hb.mono HB1.out.size))
    clear hb
    go_wp2
    go_ret
    exact ⟨rfl, HB.out.trans (HB2.out.mono HB.out.size)⟩
  | false =>
    rw [hg] at HG
    by_cases h3 : kd = 3
    · have hk : (kd == 3) = true := by simpa using h3
      clear hg hc0 hb0 h hz hx0 h3
      go_enter Try.func6, Try.ntmps6
      go_upto_region 1 with fail
      rw [← hw0]
      clear hw0
      obtain ⟨⟨m0, m1, m2, m3, m4, m5, m6⟩, m7, m8, m9, m10, m11, m12⟩ := celM_all (HM.out.below HB0.out HM.out.lt)
      go_wp2_with fail
      refine (HG.out).mono ?_
      rintro e w1 ⟨rfl, hb⟩
      have HB1 := Lib.hid (HB0.out.trans (hb.mono HB0.out.size))
      clear hb m0 m1 m2 m3 m4 m5 m6 m7 m8 m9 m10 m11 m12
      go_wp2_with fail
      refine (knows_yes _).mono ?_
      rintro e w2 ⟨rfl, hb⟩
      have HB2 := Lib.hid (HB1.out.trans (hb.mono HB1.out.size))
      clear hb
      go_wp2
      go_ret
      exact ⟨rfl, HB.out.trans (HB2.out.mono HB.out.size)⟩
    have hk : (kd == 3) = false := by simpa using h3
    have hsm := small_ms hg
    have hn : x.m ≤ 1000 := by
      have e1 : x.ps.length ≤ 100 := by
        unfold Mw.greatM Tw.greatL at hg
        simp only [Bool.or_eq_false_iff, decide_eq_false_iff_not] at hg
        have := hg.2.2
        rw [show x.mm.os = osP x.ps from rfl, os_len] at this
        omega
      have := h.os.len
      omega
    by_cases hf : Cw.fairB kd 1 = true
    rotate_left
    · have HS := Lib.hid (fun W => set_no x.B x.m x.d 53 kd 1 W (fun e => hf e.1))
      have ho := unfair_out hf
      clear hg hc0 hb0 h hz hx0 h3 hsm hn hf
      rcases ho with ho | ho
      · go_enter Try.func6, Try.ntmps6
        go_upto_region 1 with fail
        rw [← hw0]
        clear hw0
        obtain ⟨⟨m0, m1, m2, m3, m4, m5, m6⟩, m7, m8, m9, m10, m11, m12⟩ := celM_all (HM.out.below HB0.out HM.out.lt)
        go_wp2_with fail
        refine (HG.out).mono ?_
        rintro e w1 ⟨rfl, hb⟩
        have HB1 := Lib.hid (HB0.out.trans (hb.mono HB0.out.size))
        clear hb m0 m1 m2 m3 m4 m5 m6 m7 m8 m9 m10 m11 m12
        obtain ⟨⟨m0, m1, m2, m3, m4, m5, m6⟩, m7, m8, m9, m10, m11, m12⟩ := celM_all (HM.out.below HB1.out HM.out.lt)
        go_wp2_with fail
        refine (HS.out _).mono ?_
        rintro e w2 ⟨rfl, hb⟩
        have HB2 := Lib.hid (HB1.out.trans (hb.mono HB1.out.size))
        clear hb m0 m1 m2 m3 m4 m5 m6 m7 m8 m9 m10 m11 m12
        go_wp2_with fail
        refine (knows_yes _).mono ?_
        rintro e w3 ⟨rfl, hb⟩
        have HB3 := Lib.hid (HB2.out.trans (hb.mono HB2.out.size))
        clear hb
        go_wp2
        go_ret
        exact ⟨rfl, HB.out.trans (HB3.out.mono HB.out.size)⟩
      · have hno : ¬ kd < 0 := by omega
        go_enter Try.func6, Try.ntmps6
        go_upto_region 1 with fail
        rw [← hw0]
        clear hw0
        obtain ⟨⟨m0, m1, m2, m3, m4, m5, m6⟩, m7, m8, m9, m10, m11, m12⟩ := celM_all (HM.out.below HB0.out HM.out.lt)
        go_wp2_with fail
        refine (HG.out).mono ?_
        rintro e w1 ⟨rfl, hb⟩
        have HB1 := Lib.hid (HB0.out.trans (hb.mono HB0.out.size))
        clear hb m0 m1 m2 m3 m4 m5 m6 m7 m8 m9 m10 m11 m12
        obtain ⟨⟨m0, m1, m2, m3, m4, m5, m6⟩, m7, m8, m9, m10, m11, m12⟩ := celM_all (HM.out.below HB1.out HM.out.lt)
        go_wp2_with fail
        refine (HS.out _).mono ?_
        rintro e w2 ⟨rfl, hb⟩
        have HB2 := Lib.hid (HB1.out.trans (hb.mono HB1.out.size))
        clear hb m0 m1 m2 m3 m4 m5 m6 m7 m8 m9 m10 m11 m12
        go_wp2_with fail
        refine (knows_yes _).mono ?_
        rintro e w3 ⟨rfl, hb⟩
        have HB3 := Lib.hid (HB2.out.trans (hb.mono HB2.out.size))
        clear hb
        go_wp2
        go_ret
        exact ⟨rfl, HB.out.trans (HB3.out.mono HB.out.size)⟩
    have HS := Lib.hid (fun W (hW : Below w0.heap.size w0 W) => set_yes x.B x.m x.d x.ps 53 kd 1 W (hx0.os.below hW) hn hsm hf (by decide +kernel))
    have HF := Lib.hid hf
    have H3 := Lib.hid h3
    have HX := Lib.hid h
    have HSM := Lib.hid hsm
    clear hg hc0 hb0 h hx0 h3 hsm hn hf
    go_enter Try.func6, Try.ntmps6
    go_upto_region 1 with fail
    rw [← hw0]
    clear hw0
    obtain ⟨⟨m0, m1, m2, m3, m4, m5, m6⟩, m7, m8, m9, m10, m11, m12⟩ := celM_all (HM.out.below HB0.out HM.out.lt)
    go_wp2_with fail
    refine (HG.out).mono ?_
    rintro e w1 ⟨rfl, hb⟩
    have HB1 := Lib.hid (HB0.out.trans (hb.mono HB0.out.size))
    clear hb m0 m1 m2 m3 m4 m5 m6 m7 m8 m9 m10 m11 m12
    obtain ⟨⟨m0, m1, m2, m3, m4, m5, m6⟩, m7, m8, m9, m10, m11, m12⟩ := celM_all (HM.out.below HB1.out HM.out.lt)
    go_wp2_with fail
    refine (HS.out _ HB1.out).mono ?_
    rintro e w2 ⟨A1, y1, c1, qs, rfl, hqs, hown, hb⟩
    have HB2 := Lib.hid (HB1.out.trans (hb.mono HB1.out.size))
    have HQ := Lib.hid hqs
    have HOW := Lib.hid hown
    clear hb hqs hown m0 m1 m2 m3 m4 m5 m6 m7 m8 m9 m10 m11 m12
    obtain ⟨⟨m0, m1, m2, m3, m4, m5, m6⟩, m7, m8, m9, m10, m11, m12⟩ := celM_all (HM.out.below HB2.out HM.out.lt)
    obtain ⟨w3, hw3⟩ : ∃ w3, w3 = w2.setCell ⟨w.heap.size, 12, none⟩ (.slice A1 y1 c1) := ⟨_, rfl⟩
    have hc2 := HM.out.below HB2.out HM.out.lt
    have hfr := Mw.Cel.frozen hc2 12
    have hc3 : Cel w3 w.heap.size 25 (Mw.withO x A1 y1 c1 qs).cells := by rw [hw3]; exact Mw.with_cells x hc2 _ _ _ _
    have hb3 : Below w.heap.size w w3 := by rw [hw3]; exact (HB.out.trans (HB2.out.mono HB.out.size)).setCell (p := ⟨w.heap.size, 12, none⟩) (Nat.le_refl _) _
    have hlt : w.heap.size < w1.heap.size := by have := HB1.out.size; omega
    have hok : (Mw.withO x A1 y1 c1 qs).ok w3 := ⟨HX.out.ch.below hb3, by rw [hw3]; exact ⟨(ownC_put HOW.out.1 hlt 12 _).rdc, fun p hp => (own_keep (HOW.out.2 p hp) hlt 12 _).bs⟩⟩
    have hcl := other_class (m := (Mw.withO x A1 y1 c1 qs).mm) HQ.out HF.out H3.out
    have hsq : ∀ p ∈ (Mw.withO x A1 y1 c1 qs).ps, p.l.length ≤ 1000 := set_small HSM.out HF.out HQ.out
    have HO := Lib.hid (fun W (hW : Below w3.heap.size w3 W) => of_any _ W (hok.below hW) hsq)
    have HA := Lib.hid (fun W (hW : Below w3.heap.size w3 W) => about_any _ W (hok.below hW) hsq)
    rw [hcl.1] at HO
    rw [hcl.2] at HA
    have HC3 := Lib.hid hc3
    have HB3 := Lib.hid (Below.refl w3.heap.size w3)
    have HBW := Lib.hid hb3
    clear hc2 hc3 hb3 hlt hok hcl hsq HOW HQ HX HSM HS HB1
    go_upto_region 7 with fail
    rw [← hw3]
    clear hw3 hfr m0 m1 m2 m3 m4 m5 m6 m7 m8 m9 m10 m11 m12
    obtain ⟨⟨m0, m1, m2, m3, m4, m5, m6⟩, m7, m8, m9, m10, m11, m12⟩ := celM_all (HC3.out.below HB3.out HC3.out.lt)
    go_wp2_with fail
    refine (HO.out _ HB3.out).mono ?_
    rintro e w4 ⟨rfl, hb⟩
    have HB4 := Lib.hid (HB3.out.trans (hb.mono HB3.out.size))
    clear hb m0 m1 m2 m3 m4 m5 m6 m7 m8 m9 m10 m11 m12
    obtain ⟨⟨m0, m1, m2, m3, m4, m5, m6⟩, m7, m8, m9, m10, m11, m12⟩ := celM_all (HC3.out.below HB4.out HC3.out.lt)
    go_wp2_with fail
    refine (HA.out _ HB4.out).mono ?_
    rintro e w5 ⟨rfl, hb⟩
    have HB5 := Lib.hid (HB4.out.trans (hb.mono HB4.out.size))
    clear hb m0 m1 m2 m3 m4 m5 m6 m7 m8 m9 m10 m11 m12
    go_wp2_with fail
    refine (knows_yes _).mono ?_
    rintro e w6 ⟨rfl, hb⟩
    have HB6 := Lib.hid (HB5.out.trans (hb.mono HB5.out.size))
    clear hb
    go_wp2
    go_ret
    exact ⟨rfl, HBW.out.trans (HB6.out.mono HBW.out.size)⟩
end Go.Proofs.Ytmefnlgoejbgfaa
