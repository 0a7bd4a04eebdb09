/- What the document's Open of a journal comes to. For all disks whose names fit. -/
import Derived.Test.YtogcmnpnhncjhaaGreatJwRefRead
import Derived.Test.YtogcmnpnhncjhaaGreatJwOpen
import Derived.Test.YtogcmnpnhncjhaaGreatDwH
set_option maxRecDepth 8000
namespace Go.Proofs.YtogcmnpnhncjhaaGreat.Jw
open Go.RowKit By Dk Jn
open Dw

theorem sr_set {w w1 : World} {y z : Dv} (h : Sr w w1 y.cs) (hz : RdD w1.heap.size w1 z) : Sr w (((w1.setCell ⟨w.heap.size, 0, none⟩ (.slice z.fA z.fn z.fc)).setCell ⟨w.heap.size, 1, none⟩ (.slice z.nA z.nn z.nc)).setCell ⟨w.heap.size, 2, none⟩ (.slice z.kA z.kn z.kc)) z.cs ∧
    RdD (((w1.setCell ⟨w.heap.size, 0, none⟩ (.slice z.fA z.fn z.fc)).setCell ⟨w.heap.size, 1, none⟩ (.slice z.nA z.nn z.nc)).setCell ⟨w.heap.size, 2, none⟩ (.slice z.kA z.kn z.kc)).heap.size (((w1.setCell ⟨w.heap.size, 0, none⟩ (.slice z.fA z.fn z.fc)).setCell ⟨w.heap.size, 1, none⟩ (.slice z.nA z.nn z.nc)).setCell ⟨w.heap.size, 2, none⟩ (.slice z.kA z.kn z.kc)) z := by
  refine ⟨h.put _ _ _, ?_⟩
  have := rdd_away hz h.c0 sl3 (cell_put3 w1 w.heap.size (.slice z.fA z.fn z.fc) (.slice z.nA z.nn z.nc) (.slice z.kA z.kn z.kc))
  simpa using this
theorem synced_none {d : D} (h : findE d.now nJ = none) : syncedD d = d := by unfold syncedD; rw [h]; rfl
theorem synced_some {d : D} (h : RightD d) : (syncK d nJ).1 = syncedD d := sync_is h (good_of h)
theorem no_none {d : D} (h : findE d.now nK = none) : noK d = d := by unfold noK; rw [h]; rfl
theorem openR_whole {d : D} (h : (readD d).2.2 = 0) : openJ d = (syncDirG (noK (syncedD (goodD d))), 0) := by
  unfold openJ cutD
  rw [if_neg (by rw [h]; decide), if_neg (by rw [h]; decide)]
theorem openR_cut {d : D} (h : (readD d).2.2 = 4) : openJ d = (syncDirG (noK (syncedD (cutK (goodD d) nJ ((readD d).2.1 : Nat)).1)), 0) := by
  unfold openJ cutD cutK
  rw [if_neg (by rw [h]; decide), if_pos h, good_of (good_right d)]

set_option maxHeartbeats 16000000 in
theorem refOpenJ_any (x : Dv) (w : World) (h : RdD w.heap.size w x) (hsm : Sm x.d) : Calls Tryz.prog 7 #[x.v] w (DE w (openJ x.d)) := by
  obtain ⟨w1, hw1⟩ : ∃ w1, w1 = (w.alloc (.cells x.cs 34)).alloc (.cells #[.slice none 0 0, .slice none 0 0, .slice none 0 0] 34) := ⟨_, rfl⟩
  have S1 : Sr w w1 x.cs := by rw [hw1]; exact Sr.start x w
  have HG := Lib.hid (refGood_any w.heap.size x w1 (h.below S1.b) S1.b.size hsm)
  have HS1 := Lib.hid S1
  clear h S1 hsm
  go_enter Tryz.func7, Tryz.ntmps7
  go_wp2_with fail
  rw [← hw1]
  clear hw1
  refine HG.out.mono ?_
  rintro e w2 ⟨y, rfl, hy, hry, hb2⟩
  have S2 := HS1.out.below hb2 HS1.out.s
  have hr2 := hry.mono (V := w2.heap.size) (Nat.le_trans HS1.out.b.size hb2.size)
  have h3 := sr_set S2 hr2
  obtain ⟨w3, hw3⟩ : ∃ w3, w3 = (((w2.setCell ⟨w.heap.size, 0, none⟩ (.slice y.fA y.fn y.fc)).setCell ⟨w.heap.size, 1, none⟩ (.slice y.nA y.nn y.nc)).setCell ⟨w.heap.size, 2, none⟩ (.slice y.kA y.kn y.kc)) := ⟨_, rfl⟩
  rw [← hw3] at h3
  have hrt : RightD y.d := by rw [hy]; exact good_right _
  have HRD := Lib.hid (refReadJ_any y w3 h3.2 (good_sm hrt))
  have hrd : readD y.d = readD x.d := by rw [hy]; exact read_good _
  have HRT := Lib.hid hrt
  have HER := Lib.hid (read_errs x.d)
  have HO2 := Lib.hid (fun k => open_bad (d := x.d) k)
  have HO4 := Lib.hid (fun k => openR_cut (d := x.d) k)
  have HO0 := Lib.hid (fun k => openR_whole (d := x.d) k)
  rw [← hy] at HO4 HO0
  rw [hrd] at HRD
  generalize readD x.d = p at HRD HER HO2 HO4 HO0
  obtain ⟨ls, m, er⟩ := p
  have HS3 := Lib.hid h3.1
  have HX3 := Lib.hid h3.2
  obtain ⟨d0, d1, d2⟩ := ref_cel3 S2.c0
  obtain ⟨f0, f1, f2⟩ := cel_frs S2.c0
  obtain ⟨e0, e1, e2⟩ := ref_cel3 h3.1.c0
  rw [hw3] at e0 e1 e2
  clear hy hry hb2 S2 hr2 h3 hrt hrd HG HS1
  go_wp2_with fail
  rw [← hw3]
  clear hw3 d0 d1 d2 f0 f1 f2 e0 e1 e2
  refine HRD.out.mono ?_
  rintro e w4 ⟨A4, n4, c4, rfl, _, hb4⟩
  have HT := Lib.hid (HS3.out.below hb4 HS3.out.s)
  have HY := Lib.hid ((HX3.out.below hb4).mono hb4.size)
  clear hb4 HRD HS3 HX3
  rcases HER.out with h0 | h4 | h2
  rotate_left 2
  · have H := Lib.hid (HO2.out h2)
    obtain rfl : er = 2 := h2
    obtain ⟨q0, q1, q2⟩ := ref_cel3 HT.out.c1
    obtain ⟨f0, f1, f2⟩ := cel_frs HT.out.c1
    clear HO2 HO4 HO0 HER
    go_wp2
    (try simp only [Exit.inBlock, Exit.then])
    refine bodyPost_ret (ret_rdisk2 rfl _ _ (w.heap.size + 1) zeroV.cs rfl (cel_put3 HT.out.c1) rfl) rfl ?_
    exact ⟨zeroV, by rw [H.out]; rfl, by rw [H.out]; rfl, RdD.zero _ _, HT.out.out _ _ _⟩
  · have HQ := Lib.hid (HO0.out h0)
    obtain rfl : er = 0 := h0
    obtain ⟨d0, d1, d2⟩ := ref_cel3 HT.out.c0
    clear HO2 HO4 HO0 HER
    have HFI11 := Lib.hid (refFind_any w4.heap.size y.nA y.nn y.nc y.now nJ w4 HY.out.n)
    cases hf : findE y.now nJ with
    | none =>
      rw [hf] at HFI11
      have HQ11 : Hid (openJ x.d = (syncDirG (noK y.d), 0)) := by show _ = _; rw [HQ.out, synced_none hf]
      clear hf
      go_wp2_with fail
      clear d0 d1 d2
      refine HFI11.out.mono ?_
      rintro e wf ⟨rfl, rfl⟩
      obtain ⟨d0, d1, d2⟩ := ref_cel3 HT.out.c0
      have HFI12 := Lib.hid (refFind_any w4.heap.size y.nA y.nn y.nc y.now nK w4 HY.out.n)
      cases hf : findE y.now nK with
      | none =>
        rw [hf] at HFI12
        have HQ12 : Hid (openJ x.d = (syncDirG y.d, 0)) := by show _ = _; rw [HQ11.out, no_none hf]
        clear hf
        go_wp2_with fail
        clear d0 d1 d2
        refine HFI12.out.mono ?_
        rintro e wf ⟨rfl, rfl⟩
        obtain ⟨d0, d1, d2⟩ := ref_cel3 HT.out.c0
        have HSD13 := Lib.hid (refSyncDir_any y w4 HY.out (good_sm HRT.out))
        go_wp2_with fail
        clear d0 d1 d2
        refine HSD13.out.mono ?_
        rintro e v13 ⟨z13, rfl, hz, hrz, hb⟩
        have S9 := HT.out.below hb HT.out.s
        have HS9 := Lib.hid S9
        have HV9 := Lib.hid hrz
        have HVD : Hid (openJ x.d = (z13.d, 0)) := by show _ = _; rw [HQ12.out, hz]; unfold syncDirK; rw [good_of HRT.out]
        obtain ⟨q0, q1, q2⟩ := ref_cel3 S9.c1
        obtain ⟨f0, f1, f2⟩ := cel_frs S9.c1
        clear hz hrz hb S9
        go_wp2
        (try simp only [Exit.inBlock, Exit.then])
        refine bodyPost_ret (ret_rdisk2 rfl _ _ (w.heap.size + 1) z13.cs rfl (cel_put3 HS9.out.c1) rfl) rfl ?_
        exact ⟨z13, by rw [HVD.out]; rfl, by rw [HVD.out], HS9.out.rd HV9.out (Nat.le_refl _) _ _ _, HS9.out.out _ _ _⟩
      | some f =>
        rw [hf] at HFI12
        have hq : decide (0 ≤ f) = true := decide_eq_true (find_range HRT.out hf).1
        have hq2 : 0 ≤ f := (find_range HRT.out hf).1
        clear hf
        go_wp2_with fail
        clear d0 d1 d2
        refine HFI12.out.mono ?_
        rintro e wf ⟨rfl, rfl⟩
        rw [fiV_some]
        obtain ⟨d0, d1, d2⟩ := ref_cel3 HT.out.c0
        have HSC12 := Lib.hid (refRemove_any y nK w4 HY.out (good_sm HRT.out))
        go_wp2_with fail
        refine HSC12.out.mono ?_
        rintro e v12 ⟨z12, rfl, hz, hrz, hb⟩
        have S5 := HT.out.below hb HT.out.s
        have h6 := sr_set S5 hrz
        obtain ⟨u12, hu12⟩ : ∃ q, q = (((v12.setCell ⟨w.heap.size, 0, none⟩ (.slice z12.fA z12.fn z12.fc)).setCell ⟨w.heap.size, 1, none⟩ (.slice z12.nA z12.nn z12.nc)).setCell ⟨w.heap.size, 2, none⟩ (.slice z12.kA z12.kn z12.kc)) := ⟨_, rfl⟩
        rw [← hu12] at h6
        have HQ12 : Hid (openJ x.d = (syncDirG z12.d, 0)) := by show _ = _; rw [HQ11.out, hz, remove_is HRT.out]
        have HRT12 : Hid (RightD z12.d) := by show RightD _; rw [hz]; exact remove_right (good_right _) _
        clear d0 d1 d2
        obtain ⟨d0, d1, d2⟩ := ref_cel3 S5.c0
        obtain ⟨f0, f1, f2⟩ := cel_frs S5.c0
        obtain ⟨e0, e1, e2⟩ := ref_cel3 h6.1.c0
        rw [hu12] at e0 e1 e2
        have HT12 := Lib.hid h6.1
        have HY12 := Lib.hid h6.2
        clear hz hrz hb S5 h6 hq hq2
        have HSD14 := Lib.hid (refSyncDir_any z12 u12 HY12.out (good_sm HRT12.out))
        go_wp2_with fail
        rw [← hu12]
        clear hu12 d0 d1 d2 f0 f1 f2 e0 e1 e2
        refine HSD14.out.mono ?_
        rintro e v14 ⟨z14, rfl, hz, hrz, hb⟩
        have S9 := HT12.out.below hb HT12.out.s
        have HS9 := Lib.hid S9
        have HV9 := Lib.hid hrz
        have HVD : Hid (openJ x.d = (z14.d, 0)) := by show _ = _; rw [HQ12.out, hz]; unfold syncDirK; rw [good_of HRT12.out]
        obtain ⟨q0, q1, q2⟩ := ref_cel3 S9.c1
        obtain ⟨f0, f1, f2⟩ := cel_frs S9.c1
        clear hz hrz hb S9
        go_wp2
        (try simp only [Exit.inBlock, Exit.then])
        refine bodyPost_ret (ret_rdisk2 rfl _ _ (w.heap.size + 1) z14.cs rfl (cel_put3 HS9.out.c1) rfl) rfl ?_
        exact ⟨z14, by rw [HVD.out]; rfl, by rw [HVD.out], HS9.out.rd HV9.out (Nat.le_refl _) _ _ _, HS9.out.out _ _ _⟩
    | some f =>
      rw [hf] at HFI11
      have hq : decide (0 ≤ f) = true := decide_eq_true (find_range HRT.out hf).1
      have hq2 : 0 ≤ f := (find_range HRT.out hf).1
      clear hf
      go_wp2_with fail
      clear d0 d1 d2
      refine HFI11.out.mono ?_
      rintro e wf ⟨rfl, rfl⟩
      rw [fiV_some]
      obtain ⟨d0, d1, d2⟩ := ref_cel3 HT.out.c0
      have HSC11 := Lib.hid (refSync_any y nJ w4 HY.out (good_sm HRT.out))
      go_wp2_with fail
      refine HSC11.out.mono ?_
      rintro e v11 ⟨z11, rfl, hz, hrz, hb⟩
      have S5 := HT.out.below hb HT.out.s
      have h6 := sr_set S5 hrz
      obtain ⟨u11, hu11⟩ : ∃ q, q = (((v11.setCell ⟨w.heap.size, 0, none⟩ (.slice z11.fA z11.fn z11.fc)).setCell ⟨w.heap.size, 1, none⟩ (.slice z11.nA z11.nn z11.nc)).setCell ⟨w.heap.size, 2, none⟩ (.slice z11.kA z11.kn z11.kc)) := ⟨_, rfl⟩
      rw [← hu11] at h6
      have HQ11 : Hid (openJ x.d = (syncDirG (noK z11.d), 0)) := by show _ = _; rw [HQ.out, hz, synced_some HRT.out]
      have HRT11 : Hid (RightD z11.d) := by show RightD _; rw [hz]; exact sync_right (good_right _) _
      clear d0 d1 d2
      obtain ⟨d0, d1, d2⟩ := ref_cel3 S5.c0
      obtain ⟨f0, f1, f2⟩ := cel_frs S5.c0
      obtain ⟨e0, e1, e2⟩ := ref_cel3 h6.1.c0
      rw [hu11] at e0 e1 e2
      have HT11 := Lib.hid h6.1
      have HY11 := Lib.hid h6.2
      clear hz hrz hb S5 h6 hq hq2
      have HFI15 := Lib.hid (refFind_any u11.heap.size z11.nA z11.nn z11.nc z11.now nK u11 HY11.out.n)
      cases hf : findE z11.now nK with
      | none =>
        rw [hf] at HFI15
        have HQ15 : Hid (openJ x.d = (syncDirG z11.d, 0)) := by show _ = _; rw [HQ11.out, no_none hf]
        clear hf
        go_wp2_with fail
        rw [← hu11]
        clear hu11 d0 d1 d2 f0 f1 f2 e0 e1 e2
        refine HFI15.out.mono ?_
        rintro e wf ⟨rfl, rfl⟩
        obtain ⟨d0, d1, d2⟩ := ref_cel3 HT11.out.c0
        have HSD16 := Lib.hid (refSyncDir_any z11 u11 HY11.out (good_sm HRT11.out))
        go_wp2_with fail
        clear d0 d1 d2
        refine HSD16.out.mono ?_
        rintro e v16 ⟨z16, rfl, hz, hrz, hb⟩
        have S9 := HT11.out.below hb HT11.out.s
        have HS9 := Lib.hid S9
        have HV9 := Lib.hid hrz
        have HVD : Hid (openJ x.d = (z16.d, 0)) := by show _ = _; rw [HQ15.out, hz]; unfold syncDirK; rw [good_of HRT11.out]
        obtain ⟨q0, q1, q2⟩ := ref_cel3 S9.c1
        obtain ⟨f0, f1, f2⟩ := cel_frs S9.c1
        clear hz hrz hb S9
        go_wp2
        (try simp only [Exit.inBlock, Exit.then])
        refine bodyPost_ret (ret_rdisk2 rfl _ _ (w.heap.size + 1) z16.cs rfl (cel_put3 HS9.out.c1) rfl) rfl ?_
        exact ⟨z16, by rw [HVD.out]; rfl, by rw [HVD.out], HS9.out.rd HV9.out (Nat.le_refl _) _ _ _, HS9.out.out _ _ _⟩
      | some f =>
        rw [hf] at HFI15
        have hq : decide (0 ≤ f) = true := decide_eq_true (find_range HRT11.out hf).1
        have hq2 : 0 ≤ f := (find_range HRT11.out hf).1
        clear hf
        go_wp2_with fail
        rw [← hu11]
        clear hu11 d0 d1 d2 f0 f1 f2 e0 e1 e2
        refine HFI15.out.mono ?_
        rintro e wf ⟨rfl, rfl⟩
        rw [fiV_some]
        obtain ⟨d0, d1, d2⟩ := ref_cel3 HT11.out.c0
        have HSC15 := Lib.hid (refRemove_any z11 nK u11 HY11.out (good_sm HRT11.out))
        go_wp2_with fail
        refine HSC15.out.mono ?_
        rintro e v15 ⟨z15, rfl, hz, hrz, hb⟩
        have S5 := HT11.out.below hb HT11.out.s
        have h6 := sr_set S5 hrz
        obtain ⟨u15, hu15⟩ : ∃ q, q = (((v15.setCell ⟨w.heap.size, 0, none⟩ (.slice z15.fA z15.fn z15.fc)).setCell ⟨w.heap.size, 1, none⟩ (.slice z15.nA z15.nn z15.nc)).setCell ⟨w.heap.size, 2, none⟩ (.slice z15.kA z15.kn z15.kc)) := ⟨_, rfl⟩
        rw [← hu15] at h6
        have HQ15 : Hid (openJ x.d = (syncDirG z15.d, 0)) := by show _ = _; rw [HQ11.out, hz, remove_is HRT11.out]
        have HRT15 : Hid (RightD z15.d) := by show RightD _; rw [hz]; exact remove_right (good_right _) _
        clear d0 d1 d2
        obtain ⟨d0, d1, d2⟩ := ref_cel3 S5.c0
        obtain ⟨f0, f1, f2⟩ := cel_frs S5.c0
        obtain ⟨e0, e1, e2⟩ := ref_cel3 h6.1.c0
        rw [hu15] at e0 e1 e2
        have HT15 := Lib.hid h6.1
        have HY15 := Lib.hid h6.2
        clear hz hrz hb S5 h6 hq hq2
        have HSD17 := Lib.hid (refSyncDir_any z15 u15 HY15.out (good_sm HRT15.out))
        go_wp2_with fail
        rw [← hu15]
        clear hu15 d0 d1 d2 f0 f1 f2 e0 e1 e2
        refine HSD17.out.mono ?_
        rintro e v17 ⟨z17, rfl, hz, hrz, hb⟩
        have S9 := HT15.out.below hb HT15.out.s
        have HS9 := Lib.hid S9
        have HV9 := Lib.hid hrz
        have HVD : Hid (openJ x.d = (z17.d, 0)) := by show _ = _; rw [HQ15.out, hz]; unfold syncDirK; rw [good_of HRT15.out]
        obtain ⟨q0, q1, q2⟩ := ref_cel3 S9.c1
        obtain ⟨f0, f1, f2⟩ := cel_frs S9.c1
        clear hz hrz hb S9
        go_wp2
        (try simp only [Exit.inBlock, Exit.then])
        refine bodyPost_ret (ret_rdisk2 rfl _ _ (w.heap.size + 1) z17.cs rfl (cel_put3 HS9.out.c1) rfl) rfl ?_
        exact ⟨z17, by rw [HVD.out]; rfl, by rw [HVD.out], HS9.out.rd HV9.out (Nat.le_refl _) _ _ _, HS9.out.out _ _ _⟩
  · have H := Lib.hid (HO4.out h4)
    obtain rfl : er = 4 := h4
    have HC := Lib.hid (refCut_any y nJ (m : Int) w4 HY.out (good_sm HRT.out))
    obtain ⟨d0, d1, d2⟩ := ref_cel3 HT.out.c0
    clear HO2 HO4 HO0 HER
    go_wp2_with fail
    refine HC.out.mono ?_
    rintro e w5 ⟨y5, rfl, hy5, hry, hb5⟩
    have S5 := HT.out.below hb5 HT.out.s
    have h6 := sr_set S5 hry
    obtain ⟨w6, hw6⟩ : ∃ w6, w6 = (((w5.setCell ⟨w.heap.size, 0, none⟩ (.slice y5.fA y5.fn y5.fc)).setCell ⟨w.heap.size, 1, none⟩ (.slice y5.nA y5.nn y5.nc)).setCell ⟨w.heap.size, 2, none⟩ (.slice y5.kA y5.kn y5.kc)) := ⟨_, rfl⟩
    rw [← hw6] at h6
    have HQ5 : Hid (openJ x.d = (syncDirG (noK (syncedD y5.d)), 0)) := by show _ = _; rw [H.out, hy5]
    have HRT5 : Hid (RightD y5.d) := by show RightD _; rw [hy5]; exact cut_right (good_right _) _ _
    obtain ⟨d0, d1, d2⟩ := ref_cel3 S5.c0
    obtain ⟨f0, f1, f2⟩ := cel_frs S5.c0
    obtain ⟨e0, e1, e2⟩ := ref_cel3 h6.1.c0
    rw [hw6] at e0 e1 e2
    have HT5 := Lib.hid h6.1
    have HY5 := Lib.hid h6.2
    clear hy5 hry hb5 S5 h6 HC H HT HY HRT
    have HFI18 := Lib.hid (refFind_any w6.heap.size y5.nA y5.nn y5.nc y5.now nJ w6 HY5.out.n)
    cases hf : findE y5.now nJ with
    | none =>
      rw [hf] at HFI18
      have HQ18 : Hid (openJ x.d = (syncDirG (noK y5.d), 0)) := by show _ = _; rw [HQ5.out, synced_none hf]
      clear hf
      go_wp2_with fail
      rw [← hw6]
      clear hw6 d0 d1 d2 f0 f1 f2 e0 e1 e2
      refine HFI18.out.mono ?_
      rintro e wf ⟨rfl, rfl⟩
      obtain ⟨d0, d1, d2⟩ := ref_cel3 HT5.out.c0
      have HFI19 := Lib.hid (refFind_any w6.heap.size y5.nA y5.nn y5.nc y5.now nK w6 HY5.out.n)
      cases hf : findE y5.now nK with
      | none =>
        rw [hf] at HFI19
        have HQ19 : Hid (openJ x.d = (syncDirG y5.d, 0)) := by show _ = _; rw [HQ18.out, no_none hf]
        clear hf
        go_wp2_with fail
        clear d0 d1 d2
        refine HFI19.out.mono ?_
        rintro e wf ⟨rfl, rfl⟩
        obtain ⟨d0, d1, d2⟩ := ref_cel3 HT5.out.c0
        have HSD20 := Lib.hid (refSyncDir_any y5 w6 HY5.out (good_sm HRT5.out))
        go_wp2_with fail
        clear d0 d1 d2
        refine HSD20.out.mono ?_
        rintro e v20 ⟨z20, rfl, hz, hrz, hb⟩
        have S9 := HT5.out.below hb HT5.out.s
        have HS9 := Lib.hid S9
        have HV9 := Lib.hid hrz
        have HVD : Hid (openJ x.d = (z20.d, 0)) := by show _ = _; rw [HQ19.out, hz]; unfold syncDirK; rw [good_of HRT5.out]
        obtain ⟨q0, q1, q2⟩ := ref_cel3 S9.c1
        obtain ⟨f0, f1, f2⟩ := cel_frs S9.c1
        clear hz hrz hb S9
        go_wp2
        (try simp only [Exit.inBlock, Exit.then])
        refine bodyPost_ret (ret_rdisk2 rfl _ _ (w.heap.size + 1) z20.cs rfl (cel_put3 HS9.out.c1) rfl) rfl ?_
        exact ⟨z20, by rw [HVD.out]; rfl, by rw [HVD.out], HS9.out.rd HV9.out (Nat.le_refl _) _ _ _, HS9.out.out _ _ _⟩
      | some f =>
        rw [hf] at HFI19
        have hq : decide (0 ≤ f) = true := decide_eq_true (find_range HRT5.out hf).1
        have hq2 : 0 ≤ f := (find_range HRT5.out hf).1
        clear hf
        go_wp2_with fail
        clear d0 d1 d2
        refine HFI19.out.mono ?_
        rintro e wf ⟨rfl, rfl⟩
        rw [fiV_some]
        obtain ⟨d0, d1, d2⟩ := ref_cel3 HT5.out.c0
        have HSC19 := Lib.hid (refRemove_any y5 nK w6 HY5.out (good_sm HRT5.out))
        go_wp2_with fail
        refine HSC19.out.mono ?_
        rintro e v19 ⟨z19, rfl, hz, hrz, hb⟩
        have S5 := HT5.out.below hb HT5.out.s
        have h6 := sr_set S5 hrz
        obtain ⟨u19, hu19⟩ : ∃ q, q = (((v19.setCell ⟨w.heap.size, 0, none⟩ (.slice z19.fA z19.fn z19.fc)).setCell ⟨w.heap.size, 1, none⟩ (.slice z19.nA z19.nn z19.nc)).setCell ⟨w.heap.size, 2, none⟩ (.slice z19.kA z19.kn z19.kc)) := ⟨_, rfl⟩
        rw [← hu19] at h6
        have HQ19 : Hid (openJ x.d = (syncDirG z19.d, 0)) := by show _ = _; rw [HQ18.out, hz, remove_is HRT5.out]
        have HRT19 : Hid (RightD z19.d) := by show RightD _; rw [hz]; exact remove_right (good_right _) _
        clear d0 d1 d2
        obtain ⟨d0, d1, d2⟩ := ref_cel3 S5.c0
        obtain ⟨f0, f1, f2⟩ := cel_frs S5.c0
        obtain ⟨e0, e1, e2⟩ := ref_cel3 h6.1.c0
        rw [hu19] at e0 e1 e2
        have HT19 := Lib.hid h6.1
        have HY19 := Lib.hid h6.2
        clear hz hrz hb S5 h6 hq hq2
        have HSD21 := Lib.hid (refSyncDir_any z19 u19 HY19.out (good_sm HRT19.out))
        go_wp2_with fail
        rw [← hu19]
        clear hu19 d0 d1 d2 f0 f1 f2 e0 e1 e2
        refine HSD21.out.mono ?_
        rintro e v21 ⟨z21, rfl, hz, hrz, hb⟩
        have S9 := HT19.out.below hb HT19.out.s
        have HS9 := Lib.hid S9
        have HV9 := Lib.hid hrz
        have HVD : Hid (openJ x.d = (z21.d, 0)) := by show _ = _; rw [HQ19.out, hz]; unfold syncDirK; rw [good_of HRT19.out]
        obtain ⟨q0, q1, q2⟩ := ref_cel3 S9.c1
        obtain ⟨f0, f1, f2⟩ := cel_frs S9.c1
        clear hz hrz hb S9
        go_wp2
        (try simp only [Exit.inBlock, Exit.then])
        refine bodyPost_ret (ret_rdisk2 rfl _ _ (w.heap.size + 1) z21.cs rfl (cel_put3 HS9.out.c1) rfl) rfl ?_
        exact ⟨z21, by rw [HVD.out]; rfl, by rw [HVD.out], HS9.out.rd HV9.out (Nat.le_refl _) _ _ _, HS9.out.out _ _ _⟩
    | some f =>
      rw [hf] at HFI18
      have hq : decide (0 ≤ f) = true := decide_eq_true (find_range HRT5.out hf).1
      have hq2 : 0 ≤ f := (find_range HRT5.out hf).1
      clear hf
      go_wp2_with fail
      rw [← hw6]
      clear hw6 d0 d1 d2 f0 f1 f2 e0 e1 e2
      refine HFI18.out.mono ?_
      rintro e wf ⟨rfl, rfl⟩
      rw [fiV_some]
      obtain ⟨d0, d1, d2⟩ := ref_cel3 HT5.out.c0
      have HSC18 := Lib.hid (refSync_any y5 nJ w6 HY5.out (good_sm HRT5.out))
      go_wp2_with fail
      refine HSC18.out.mono ?_
      rintro e v18 ⟨z18, rfl, hz, hrz, hb⟩
      have S5 := HT5.out.below hb HT5.out.s
      have h6 := sr_set S5 hrz
      obtain ⟨u18, hu18⟩ : ∃ q, q = (((v18.setCell ⟨w.heap.size, 0, none⟩ (.slice z18.fA z18.fn z18.fc)).setCell ⟨w.heap.size, 1, none⟩ (.slice z18.nA z18.nn z18.nc)).setCell ⟨w.heap.size, 2, none⟩ (.slice z18.kA z18.kn z18.kc)) := ⟨_, rfl⟩
      rw [← hu18] at h6
      have HQ18 : Hid (openJ x.d = (syncDirG (noK z18.d), 0)) := by show _ = _; rw [HQ5.out, hz, synced_some HRT5.out]
      have HRT18 : Hid (RightD z18.d) := by show RightD _; rw [hz]; exact sync_right (good_right _) _
      clear d0 d1 d2
      obtain ⟨d0, d1, d2⟩ := ref_cel3 S5.c0
      obtain ⟨f0, f1, f2⟩ := cel_frs S5.c0
      obtain ⟨e0, e1, e2⟩ := ref_cel3 h6.1.c0
      rw [hu18] at e0 e1 e2
      have HT18 := Lib.hid h6.1
      have HY18 := Lib.hid h6.2
      clear hz hrz hb S5 h6 hq hq2
      have HFI22 := Lib.hid (refFind_any u18.heap.size z18.nA z18.nn z18.nc z18.now nK u18 HY18.out.n)
      cases hf : findE z18.now nK with
      | none =>
        rw [hf] at HFI22
        have HQ22 : Hid (openJ x.d = (syncDirG z18.d, 0)) := by show _ = _; rw [HQ18.out, no_none hf]
        clear hf
        go_wp2_with fail
        rw [← hu18]
        clear hu18 d0 d1 d2 f0 f1 f2 e0 e1 e2
        refine HFI22.out.mono ?_
        rintro e wf ⟨rfl, rfl⟩
        obtain ⟨d0, d1, d2⟩ := ref_cel3 HT18.out.c0
        have HSD23 := Lib.hid (refSyncDir_any z18 u18 HY18.out (good_sm HRT18.out))
        go_wp2_with fail
        clear d0 d1 d2
        refine HSD23.out.mono ?_
        rintro e v23 ⟨z23, rfl, hz, hrz, hb⟩
        have S9 := HT18.out.below hb HT18.out.s
        have HS9 := Lib.hid S9
        have HV9 := Lib.hid hrz
        have HVD : Hid (openJ x.d = (z23.d, 0)) := by show _ = _; rw [HQ22.out, hz]; unfold syncDirK; rw [good_of HRT18.out]
        obtain ⟨q0, q1, q2⟩ := ref_cel3 S9.c1
        obtain ⟨f0, f1, f2⟩ := cel_frs S9.c1
        clear hz hrz hb S9
        go_wp2
        (try simp only [Exit.inBlock, Exit.then])
        refine bodyPost_ret (ret_rdisk2 rfl _ _ (w.heap.size + 1) z23.cs rfl (cel_put3 HS9.out.c1) rfl) rfl ?_
        exact ⟨z23, by rw [HVD.out]; rfl, by rw [HVD.out], HS9.out.rd HV9.out (Nat.le_refl _) _ _ _, HS9.out.out _ _ _⟩
      | some f =>
        rw [hf] at HFI22
        have hq : decide (0 ≤ f) = true := decide_eq_true (find_range HRT18.out hf).1
        have hq2 : 0 ≤ f := (find_range HRT18.out hf).1
        clear hf
        go_wp2_with fail
        rw [← hu18]
        clear hu18 d0 d1 d2 f0 f1 f2 e0 e1 e2
        refine HFI22.out.mono ?_
        rintro e wf ⟨rfl, rfl⟩
        rw [fiV_some]
        obtain ⟨d0, d1, d2⟩ := ref_cel3 HT18.out.c0
        have HSC22 := Lib.hid (refRemove_any z18 nK u18 HY18.out (good_sm HRT18.out))
        go_wp2_with fail
        refine HSC22.out.mono ?_
        rintro e v22 ⟨z22, rfl, hz, hrz, hb⟩
        have S5 := HT18.out.below hb HT18.out.s
        have h6 := sr_set S5 hrz
        obtain ⟨u22, hu22⟩ : ∃ q, q = (((v22.setCell ⟨w.heap.size, 0, none⟩ (.slice z22.fA z22.fn z22.fc)).setCell ⟨w.heap.size, 1, none⟩ (.slice z22.nA z22.nn z22.nc)).setCell ⟨w.heap.size, 2, none⟩ (.slice z22.kA z22.kn z22.kc)) := ⟨_, rfl⟩
        rw [← hu22] at h6
        have HQ22 : Hid (openJ x.d = (syncDirG z22.d, 0)) := by show _ = _; rw [HQ18.out, hz, remove_is HRT18.out]
        have HRT22 : Hid (RightD z22.d) := by show RightD _; rw [hz]; exact remove_right (good_right _) _
        clear d0 d1 d2
        obtain ⟨d0, d1, d2⟩ := ref_cel3 S5.c0
        obtain ⟨f0, f1, f2⟩ := cel_frs S5.c0
        obtain ⟨e0, e1, e2⟩ := ref_cel3 h6.1.c0
        rw [hu22] at e0 e1 e2
        have HT22 := Lib.hid h6.1
        have HY22 := Lib.hid h6.2
        clear hz hrz hb S5 h6 hq hq2
        have HSD24 := Lib.hid (refSyncDir_any z22 u22 HY22.out (good_sm HRT22.out))
        go_wp2_with fail
        rw [← hu22]
        clear hu22 d0 d1 d2 f0 f1 f2 e0 e1 e2
        refine HSD24.out.mono ?_
        rintro e v24 ⟨z24, rfl, hz, hrz, hb⟩
        have S9 := HT22.out.below hb HT22.out.s
        have HS9 := Lib.hid S9
        have HV9 := Lib.hid hrz
        have HVD : Hid (openJ x.d = (z24.d, 0)) := by show _ = _; rw [HQ22.out, hz]; unfold syncDirK; rw [good_of HRT22.out]
        obtain ⟨q0, q1, q2⟩ := ref_cel3 S9.c1
        obtain ⟨f0, f1, f2⟩ := cel_frs S9.c1
        clear hz hrz hb S9
        go_wp2
        (try simp only [Exit.inBlock, Exit.then])
        refine bodyPost_ret (ret_rdisk2 rfl _ _ (w.heap.size + 1) z24.cs rfl (cel_put3 HS9.out.c1) rfl) rfl ?_
        exact ⟨z24, by rw [HVD.out]; rfl, by rw [HVD.out], HS9.out.rd HV9.out (Nat.le_refl _) _ _ _, HS9.out.out _ _ _⟩
end Go.Proofs.YtogcmnpnhncjhaaGreat.Jw
