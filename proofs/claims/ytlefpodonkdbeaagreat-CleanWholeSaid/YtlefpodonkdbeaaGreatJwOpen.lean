/- What journal's Open comes to: the disk whose journal ends with a whole frame, and on which nothing is but what lasts. For all disks whose names fit. -/
import Derived.Test.YtlefpodonkdbeaaGreatJwRead
import Derived.Test.YtlefpodonkdbeaaGreatDwC
import Derived.Test.YtlefpodonkdbeaaGreatDwE
set_option maxRecDepth 8000
namespace Go.Proofs.YtlefpodonkdbeaaGreat.Jw
open Go.RowKit By Dk Jn
open Dw

/-- Behind the cut: synced, without the draft, the directory synced. -/
def fromJ (d : D) : D := syncDirK (removeK (syncK d nJ).1 nK).1
theorem sync_is {c d : D} (_ : RightD c) (hg : goodD d = c) : (syncK d nJ).1 = syncedD c := by
  unfold syncK syncedD
  rw [hg]
  cases hf : findE c.now nJ with
  | none => unfold syncG; rw [hf]; rfl
  | some f => rfl
theorem remove_is {c : D} (h : RightD c) : (removeK c nK).1 = noK c := by
  unfold removeK noK
  rw [good_of h]
  cases hf : findE c.now nK with
  | none => unfold removeG; rw [hf]; rfl
  | some f => rfl
theorem from_is {c d : D} (h : RightD c) (hg : goodD d = c) : fromJ d = syncDirG (noK (syncedD c)) := by
  have h1 := (synced_read h).1
  have h2 := (no_read h1 (synced_read h).2.2).1
  unfold fromJ
  rw [sync_is h hg, remove_is h1]
  unfold syncDirK
  rw [good_of h2]
theorem open_bad {d : D} (h : (readD d).2.2 = 2) : openJ d = (zeroD, 2) := if_pos h
theorem open_cut {d : D} (h : (readD d).2.2 = 4) : openJ d = (fromJ (cutK d nJ ((readD d).2.1 : Nat)).1, 0) := by
  have hr := cut_right (good_right d) nJ ((readD d).2.1 : Nat)
  rw [from_is (c := cutD d) (by unfold cutD; rw [if_pos h]; exact hr) (by unfold cutD cutK; rw [if_pos h, good_of hr])]
  unfold openJ
  rw [if_neg (by rw [h]; decide)]
theorem open_whole {d : D} (h : (readD d).2.2 = 0) : openJ d = (fromJ d, 0) := by
  rw [from_is (c := cutD d) (by unfold cutD; rw [if_neg (by rw [h]; decide)]; exact good_right d) (by unfold cutD; rw [if_neg (by rw [h]; decide)])]
  unfold openJ
  rw [if_neg (by rw [h]; decide)]
theorem read_errs (d : D) : (readD d).2.2 = 0 ∨ (readD d).2.2 = 4 ∨ (readD d).2.2 = 2 := scan_errs _
/-- A variable is set: it holds the new disk, and that one reads. -/
theorem st_set {w w1 : World} {y z : Dv} (h : St w w1 y.cs) (hz : RdD w1.heap.size w1 z) : St w (((w1.setCell ⟨w.heap.size, 0, none⟩ (.slice z.fA z.fn z.fc)).setCell ⟨w.heap.size, 1, none⟩ (.slice z.nA z.nn z.nc)).setCell ⟨w.heap.size, 2, none⟩ (.slice z.kA z.kn z.kc)) z.cs ∧
    RdD (((w1.setCell ⟨w.heap.size, 0, none⟩ (.slice z.fA z.fn z.fc)).setCell ⟨w.heap.size, 1, none⟩ (.slice z.nA z.nn z.nc)).setCell ⟨w.heap.size, 2, none⟩ (.slice z.kA z.kn z.kc)).heap.size (((w1.setCell ⟨w.heap.size, 0, none⟩ (.slice z.fA z.fn z.fc)).setCell ⟨w.heap.size, 1, none⟩ (.slice z.nA z.nn z.nc)).setCell ⟨w.heap.size, 2, none⟩ (.slice z.kA z.kn z.kc)) z := by
  refine ⟨h.put _ _ _, ?_⟩
  have := rdd_away hz h.c0 sl3 (cell_put3 w1 w.heap.size (.slice z.fA z.fn z.fc) (.slice z.nA z.nn z.nc) (.slice z.kA z.kn z.kc))
  simpa using this
theorem st_ret {w w1 : World} {cs : Array Value} (h : St w w1 cs) {z : Dv} (hz : RdD w1.heap.size w1 z) : RdD (((w1.setCell ⟨w.heap.size + 1, 0, none⟩ (.slice z.fA z.fn z.fc)).setCell ⟨w.heap.size + 1, 1, none⟩ (.slice z.nA z.nn z.nc)).setCell ⟨w.heap.size + 1, 2, none⟩ (.slice z.kA z.kn z.kc)).heap.size (((w1.setCell ⟨w.heap.size + 1, 0, none⟩ (.slice z.fA z.fn z.fc)).setCell ⟨w.heap.size + 1, 1, none⟩ (.slice z.nA z.nn z.nc)).setCell ⟨w.heap.size + 1, 2, none⟩ (.slice z.kA z.kn z.kc)) z := by
  have := rdd_away hz h.c1 sl3 (cell_put3 w1 (w.heap.size + 1) (.slice z.fA z.fn z.fc) (.slice z.nA z.nn z.nc) (.slice z.kA z.kn z.kc))
  simpa using this

set_option maxHeartbeats 8000000 in
theorem openJ_any (x : Dv) (w : World) (h : RdD w.heap.size w x) (hsm : Sm x.d) : Calls Tryz.prog 20 #[x.v] w (DE w (openJ x.d)) := by
  obtain ⟨w1, hw1⟩ : ∃ w1, w1 = (w.alloc (.cells x.cs 30)).alloc (.cells #[.slice none 0 0, .slice none 0 0, .slice none 0 0] 30) := ⟨_, rfl⟩
  have S1 : St w w1 x.cs := by rw [hw1]; exact St.start x w
  have hx1 := (h.below S1.b).mono S1.b.size
  have HRD := Lib.hid (readJ_any x w1 hx1 hsm)
  have HS1 := Lib.hid S1
  have HX1 := Lib.hid hx1
  have HSM := Lib.hid hsm
  have HER := Lib.hid (read_errs x.d)
  have HO2 := Lib.hid (fun k => open_bad (d := x.d) k)
  have HO4 := Lib.hid (fun k => open_cut (d := x.d) k)
  have HO0 := Lib.hid (fun k => open_whole (d := x.d) k)
  generalize readD x.d = p at HRD HER HO2 HO4 HO0
  obtain ⟨ls, m, er⟩ := p
  clear h S1 hx1 hsm
  go_enter Tryz.func20, Tryz.ntmps20
  go_wp2_with fail
  rw [← hw1]
  clear hw1
  refine HRD.out.mono ?_
  rintro e w2 ⟨A2, n2, c2, rfl, _, hb2⟩
  have HS2 := Lib.hid (HS1.out.below hb2 HS1.out.s)
  have HX2 := Lib.hid ((HX1.out.below hb2).mono hb2.size)
  obtain ⟨d0, d1, d2⟩ := cel3 HS2.out.c0
  clear hb2 HRD HS1 HX1
  rcases HER.out with h0 | h4 | h2
  rotate_left 2
  · have H := Lib.hid (HO2.out h2)
    obtain rfl : er = 2 := h2
    obtain ⟨q0, q1, q2⟩ := cel3 HS2.out.c1
    obtain ⟨f0, f1, f2⟩ := cel_frs HS2.out.c1
    clear HO2 HO4 HO0 HER
    go_wp2
    (try simp only [Exit.inBlock, Exit.then])
    refine bodyPost_ret (ret_disk2 rfl _ _ (w.heap.size + 1) zeroV.cs rfl (cel_put3 HS2.out.c1) rfl) rfl ?_
    exact ⟨zeroV, by rw [H.out]; rfl, by rw [H.out]; rfl, RdD.zero _ _, HS2.out.out _ _ _⟩
  · have HQ : Hid (openJ x.d = (fromJ x.d, 0)) := HO0.out h0
    obtain rfl : er = 0 := h0
    have HY := HX2
    have HT := HS2
    have HSY := HSM
    clear HO2 HO4 HO0 HER HX2 HS2 HSM
    have HSC := Lib.hid (sync_any x nJ w2 HY.out HSY.out)
    have HG1 := Lib.hid (good_sm (sync_right (good_right x.d) nJ))
    go_wp2_with fail
    clear d0 d1 d2
    refine HSC.out.mono ?_
    rintro e w5 ⟨z, rfl, hz, hrz, hb5⟩
    have S5 := HT.out.below hb5 HT.out.s
    have h6 := st_set S5 hrz
    obtain ⟨w6, hw6⟩ : ∃ w6, w6 = ((w5.setCell ⟨w.heap.size, 0, none⟩ (.slice z.fA z.fn z.fc)).setCell ⟨w.heap.size, 1, none⟩ (.slice z.nA z.nn z.nc)).setCell ⟨w.heap.size, 2, none⟩ (.slice z.kA z.kn z.kc) := ⟨_, rfl⟩
    rw [← hw6] at h6
    have HT6 := Lib.hid h6.1
    have HRM := Lib.hid (remove_any z nK w6 h6.2 (by rw [hz]; exact HG1.out))
    have HZ : Hid (z.d = (syncK x.d nJ).1) := hz
    obtain ⟨d0, d1, d2⟩ := cel3 S5.c0
    obtain ⟨f0, f1, f2⟩ := cel_frs S5.c0
    obtain ⟨e0, e1, e2⟩ := cel3 h6.1.c0
    rw [hw6] at e0 e1 e2
    clear hrz hb5 S5 h6 hz HSC HT HY HSY
    go_wp2_with fail
    rw [← hw6]
    clear hw6 d0 d1 d2 f0 f1 f2 e0 e1 e2
    refine HRM.out.mono ?_
    rintro e w7 ⟨u, rfl, hu, hru, hb7⟩
    have S7 := HT6.out.below hb7 HT6.out.s
    have h8 := st_set S7 hru
    obtain ⟨w8, hw8⟩ : ∃ w8, w8 = ((w7.setCell ⟨w.heap.size, 0, none⟩ (.slice u.fA u.fn u.fc)).setCell ⟨w.heap.size, 1, none⟩ (.slice u.nA u.nn u.nc)).setCell ⟨w.heap.size, 2, none⟩ (.slice u.kA u.kn u.kc) := ⟨_, rfl⟩
    rw [← hw8] at h8
    have HT8 := Lib.hid h8.1
    have HSD := Lib.hid (syncDir_any u w8 h8.2 (by rw [hu]; exact good_sm (remove_right (good_right _) _)))
    have HU : Hid (u.d = (removeK (syncK x.d nJ).1 nK).1) := by show _ = _; rw [hu, HZ.out]
    obtain ⟨d0, d1, d2⟩ := cel3 S7.c0
    obtain ⟨f0, f1, f2⟩ := cel_frs S7.c0
    obtain ⟨e0, e1, e2⟩ := cel3 h8.1.c0
    rw [hw8] at e0 e1 e2
    clear hru hb7 S7 h8 hu HRM HT6 HZ
    go_wp2_with fail
    rw [← hw8]
    clear hw8 d0 d1 d2 f0 f1 f2 e0 e1 e2
    refine HSD.out.mono ?_
    rintro e w9 ⟨v, rfl, hv, hrv, hb9⟩
    have S9 := HT8.out.below hb9 HT8.out.s
    have HS9 := Lib.hid S9
    have HV9 := Lib.hid hrv
    have HVD : Hid (openJ x.d = (v.d, 0)) := by show _ = _; rw [HQ.out, hv, HU.out]; rfl
    obtain ⟨q0, q1, q2⟩ := cel3 S9.c1
    obtain ⟨f0, f1, f2⟩ := cel_frs S9.c1
    clear hv hrv hb9 S9 HSD HT8
    go_wp2
    (try simp only [Exit.inBlock, Exit.then])
    refine bodyPost_ret (ret_disk2 rfl _ _ (w.heap.size + 1) v.cs rfl (cel_put3 HS9.out.c1) rfl) rfl ?_
    exact ⟨v, by rw [HVD.out]; rfl, by rw [HVD.out], st_ret HS9.out HV9.out, HS9.out.out _ _ _⟩
  · have H := Lib.hid (HO4.out h4)
    obtain rfl : er = 4 := h4
    have HC := Lib.hid (cut_any x nJ (m : Int) w2 HX2.out HSM.out)
    have HG := Lib.hid (good_sm (cut_right (good_right x.d) nJ (m : Int)))
    clear HO2 HO4 HO0 HER
    go_wp2_with fail
    refine HC.out.mono ?_
    rintro e w3 ⟨y, rfl, hy, hry, hb3⟩
    have S3 := HS2.out.below hb3 HS2.out.s
    have h4 := st_set S3 hry
    obtain ⟨w4, hw4⟩ : ∃ w4, w4 = ((w3.setCell ⟨w.heap.size, 0, none⟩ (.slice y.fA y.fn y.fc)).setCell ⟨w.heap.size, 1, none⟩ (.slice y.nA y.nn y.nc)).setCell ⟨w.heap.size, 2, none⟩ (.slice y.kA y.kn y.kc) := ⟨_, rfl⟩
    rw [← hw4] at h4
    have HT := Lib.hid h4.1
    have HY := Lib.hid h4.2
    have HSY : Hid (Sm y.d) := by show Sm _; rw [hy]; exact HG.out
    have HQ : Hid (openJ x.d = (fromJ y.d, 0)) := by show _ = _; rw [H.out, hy]
    obtain ⟨d0, d1, d2⟩ := cel3 S3.c0
    obtain ⟨f0, f1, f2⟩ := cel_frs S3.c0
    obtain ⟨e0, e1, e2⟩ := cel3 h4.1.c0
    rw [hw4] at e0 e1 e2
    clear hry hb3 S3 h4 hy H HC HG HS2 HX2
    have HSC := Lib.hid (sync_any y nJ w4 HY.out HSY.out)
    have HG1 := Lib.hid (good_sm (sync_right (good_right y.d) nJ))
    go_wp2_with fail
    rw [← hw4]
    clear hw4 d0 d1 d2 f0 f1 f2 e0 e1 e2
    refine HSC.out.mono ?_
    rintro e w5 ⟨z, rfl, hz, hrz, hb5⟩
    have S5 := HT.out.below hb5 HT.out.s
    have h6 := st_set S5 hrz
    obtain ⟨w6, hw6⟩ : ∃ w6, w6 = ((w5.setCell ⟨w.heap.size, 0, none⟩ (.slice z.fA z.fn z.fc)).setCell ⟨w.heap.size, 1, none⟩ (.slice z.nA z.nn z.nc)).setCell ⟨w.heap.size, 2, none⟩ (.slice z.kA z.kn z.kc) := ⟨_, rfl⟩
    rw [← hw6] at h6
    have HT6 := Lib.hid h6.1
    have HRM := Lib.hid (remove_any z nK w6 h6.2 (by rw [hz]; exact HG1.out))
    have HZ : Hid (z.d = (syncK y.d nJ).1) := hz
    obtain ⟨d0, d1, d2⟩ := cel3 S5.c0
    obtain ⟨f0, f1, f2⟩ := cel_frs S5.c0
    obtain ⟨e0, e1, e2⟩ := cel3 h6.1.c0
    rw [hw6] at e0 e1 e2
    clear hrz hb5 S5 h6 hz HSC HT HY HSY
    go_wp2_with fail
    rw [← hw6]
    clear hw6 d0 d1 d2 f0 f1 f2 e0 e1 e2
    refine HRM.out.mono ?_
    rintro e w7 ⟨u, rfl, hu, hru, hb7⟩
    have S7 := HT6.out.below hb7 HT6.out.s
    have h8 := st_set S7 hru
    obtain ⟨w8, hw8⟩ : ∃ w8, w8 = ((w7.setCell ⟨w.heap.size, 0, none⟩ (.slice u.fA u.fn u.fc)).setCell ⟨w.heap.size, 1, none⟩ (.slice u.nA u.nn u.nc)).setCell ⟨w.heap.size, 2, none⟩ (.slice u.kA u.kn u.kc) := ⟨_, rfl⟩
    rw [← hw8] at h8
    have HT8 := Lib.hid h8.1
    have HSD := Lib.hid (syncDir_any u w8 h8.2 (by rw [hu]; exact good_sm (remove_right (good_right _) _)))
    have HU : Hid (u.d = (removeK (syncK y.d nJ).1 nK).1) := by show _ = _; rw [hu, HZ.out]
    obtain ⟨d0, d1, d2⟩ := cel3 S7.c0
    obtain ⟨f0, f1, f2⟩ := cel_frs S7.c0
    obtain ⟨e0, e1, e2⟩ := cel3 h8.1.c0
    rw [hw8] at e0 e1 e2
    clear hru hb7 S7 h8 hu HRM HT6 HZ
    go_wp2_with fail
    rw [← hw8]
    clear hw8 d0 d1 d2 f0 f1 f2 e0 e1 e2
    refine HSD.out.mono ?_
    rintro e w9 ⟨v, rfl, hv, hrv, hb9⟩
    have S9 := HT8.out.below hb9 HT8.out.s
    have HS9 := Lib.hid S9
    have HV9 := Lib.hid hrv
    have HVD : Hid (openJ x.d = (v.d, 0)) := by show _ = _; rw [HQ.out, hv, HU.out]; rfl
    obtain ⟨q0, q1, q2⟩ := cel3 S9.c1
    obtain ⟨f0, f1, f2⟩ := cel_frs S9.c1
    clear hv hrv hb9 S9 HSD HT8
    go_wp2
    (try simp only [Exit.inBlock, Exit.then])
    refine bodyPost_ret (ret_disk2 rfl _ _ (w.heap.size + 1) v.cs rfl (cel_put3 HS9.out.c1) rfl) rfl ?_
    exact ⟨v, by rw [HVD.out]; rfl, by rw [HVD.out], st_ret HS9.out HV9.out, HS9.out.out _ _ _⟩
end Go.Proofs.YtlefpodonkdbeaaGreat.Jw
