/- DiskCuts, walked: whatever the disk, the name, the number and the bytes, it returns true, and nothing that was there has turned. -/
import Derived.Test.YtmgecfbfabhghaaDwStep
import Derived.Deep.RegionLaw
import Derived.Deep.CutRange
set_option maxRecDepth 8000
namespace Go.Proofs.Ytmgecfbfabhghaa.Dw
open Go.RowKit By Dk

set_option maxHeartbeats 4000000 in
theorem diskCuts_walk (x : Dv) (t : N) (n : Int) (A : Option Addr) (m c : Nat) (b : List UInt8) (w : World) (h : RdD w.heap.size w x) (hsm : Sm x.d) (ht : t.length ≤ 9223372036854775807) (hb : Bs w A m c b) :
    Calls Try.prog 8 #[x.v, .string (ba t), .int .i64 n, .slice A m c] w (isTrue w) := by
  obtain ⟨w1, hw1⟩ : ∃ w1, w1 = w.alloc (.cells x.cs 25) := ⟨_, rfl⟩
  have V1 : Vd (w.heap.size + 1) w1 w.heap.size x := by rw [hw1]; exact Vd.born h
  have hs1 : w1.heap.size = w.heap.size + 1 := by rw [hw1]; simp
  have B1 := Lib.hid (show Below w.heap.size w w1 by rw [hw1]; exact alloc_more _ _)
  have HGR := Lib.hid (great_any x w1 (V1.r.mono (by omega)))
  have HV1 := Lib.hid V1
  have HSM := Lib.hid hsm
  have HB := Lib.hid hb
  have HBL := Lib.hid hb.len
  have hbc := hb.cap
  have hbm := hb.max
  have hts := ba_size t
  clear h hsm V1 hb
  go_enter Try.func8, Try.ntmps8
  go_wp2_with fail
  rw [← hw1]
  clear hw1
  refine HGR.out.mono ?_
  rintro e w2 ⟨gr, rfl, hgr, hb2⟩
  have B2 := Lib.hid (B1.out.trans (hb2.mono B1.out.size))
  have HV2 := Lib.hid (HV1.out.below (hb2.mono (by omega)))
  have hs2 := hb2.size
  clear hb2 HGR
  cases gr with
  | true =>
    go_wp2_with fail
    refine (knows_yes _).mono ?_
    rintro e wz ⟨rfl, hbz⟩
    go_wp2
    go_ret
    exact ⟨rfl, B2.out.trans (hbz.mono B2.out.size)⟩
  | false =>
  obtain ⟨hg1, hg2, hg3, hg4⟩ := hgr rfl
  clear hgr
  have htz : (ba t).size = t.length := rfl
  have HTZ := Lib.hid htz
  by_cases hn1 : (100 : Int) < ((ba t).size : Int)
  · clear hts htz
    go_wp2_with fail
    refine (knows_yes _).mono ?_
    rintro e wz ⟨rfl, hbz⟩
    go_wp2
    go_ret
    exact ⟨rfl, B2.out.trans (hbz.mono B2.out.size)⟩
  by_cases hn2 : (10000 : Int) < (m : Int)
  · clear hts htz
    go_wp2_with fail
    refine (knows_yes _).mono ?_
    rintro e wz ⟨rfl, hbz⟩
    go_wp2
    go_ret
    exact ⟨rfl, B2.out.trans (hbz.mono B2.out.size)⟩
  have HGT := Lib.hid (get_any x t w2 (HV2.out.r.mono (by omega)) HSM.out)
  obtain ⟨q0, q1, q2⟩ := cel3 HV2.out.c
  clear hts htz hg1
  go_wp2_with fail
  refine HGT.out.mono ?_
  rintro e w3 ⟨A3, n3, c3, rfl, hb3, hbw3⟩
  have B3 := Lib.hid (B2.out.trans (hbw3.mono B2.out.size))
  have HV3 := Lib.hid (HV2.out.below (hbw3.mono (by omega)))
  have hs3 := hbw3.size
  have HCU := Lib.hid (cut_any x t n w3 (HV3.out.r.mono (by omega)) HSM.out)
  obtain ⟨q0, q1, q2⟩ := cel3 HV3.out.c
  have HB3 := Lib.hid hb3
  clear hb3 hbw3
  go_wp2_with fail
  refine HCU.out.mono ?_
  rintro e w4 ⟨z1, rfl, hz1, hr1, hbw4⟩
  have B4 := Lib.hid (B3.out.trans (hbw4.mono B3.out.size))
  have HV4 := Lib.hid (HV3.out.below (hbw4.mono (by omega)))
  obtain ⟨w5, hw5⟩ : ∃ w5, w5 = w4.alloc (.cells z1.cs 25) := ⟨_, rfl⟩
  have hal : Below w4.heap.size w4 w5 := by rw [hw5]; exact alloc_more _ _
  have hs34 := hbw4.size
  have VZ := Vd.born hr1
  rw [← hw5] at VZ
  have hs5 : w5.heap.size = w4.heap.size + 1 := by rw [hw5]; simp
  rw [← hs5] at VZ
  have B5 := Lib.hid (B4.out.trans (hal.mono B4.out.size))
  have HV5 := Lib.hid (HV4.out.below (hal.mono (by omega)))
  have HVZ := Lib.hid VZ
  have HB5 := Lib.hid ((HB3.out.below hbw4).below hal)
  obtain ⟨q0, q1, q2⟩ := cel3 HV4.out.c
  have hlt4 : w.heap.size < w4.heap.size := by omega
  have HZ1 := Lib.hid hz1
  clear hr1 hbw4 VZ hal hz1
  go_upto_if 50 with fail
  rw [← hw5]
  clear hw5 q0 q1 q2
  go_cut [13, 14] from 49 to 78 (fun _ _ wx => Hid (Vd (w.heap.size + 1) wx w.heap.size x) ∧ Hid (Below w.heap.size w wx))
  case first =>
    by_cases he : (cutK x.d t n).2 = 0
    · have hcr : RightD z1.d := by rw [HZ1.out]; exact cut_right (good_right _) t n
      have HCR := Lib.hid (crash_any z1 none 0 0 [] true w5 HVZ.out.r (right_sm hcr) (Rd.nil _))
      have hcl := cut_lasts (good_right x.d) (n := t) (k := n) he
      rw [show getK (goodD x.d) t = getK x.d t by unfold getK; rw [good_of (good_right _)]] at hcl
      obtain ⟨k0, k1, hgk⟩ := hcl
      have hl3 := HB3.out.len
      rw [hl3] at k1
      obtain ⟨N, rfl⟩ := Int.eq_ofNat_of_zero_le k0
      have HGK : Hid (getK (crashK z1.d [] true) t = ((getK x.d t).1.take N, 0)) := by
        show getK (crashG (goodD z1.d) [] true) t = _
        rw [good_of hcr, HZ1.out]
        exact hgk
      have heb : ((cutK x.d t (N : Int)).2 == 0) = true := by simpa using he
      obtain ⟨r0, r1, r2⟩ := cel3 HVZ.out.c
      have hcrr := crash_right hcr [] true
      have HCRR : Hid (RightD (crashK z1.d [] true)) := by show RightD (crashG (goodD z1.d) [] true); rw [good_of hcr]; exact hcrr
      have hNn : N ≤ n3 := by omega
      clear he hcr hgk hcrr
      go_wp2_with fail
      refine HCR.out.mono ?_
      rintro e w6 ⟨z2, rfl, hz2, hr2, hbw6⟩
      have B6 := Lib.hid (B5.out.trans (hbw6.mono B5.out.size))
      have HV6 := Lib.hid (HV5.out.below (hbw6.mono (by omega)))
      have HG2 := Lib.hid (get_any z2 t w6 hr2 (by rw [hz2]; exact right_sm HCRR.out))
      rw [hz2, HGK.out] at HG2
      have HB6 := Lib.hid (HB5.out.below hbw6)
      have hs56 := hbw6.size
      clear hr2 hz2 hbw6
      go_wp2_with fail
      refine HG2.out.mono ?_
      rintro e w7 ⟨A7, n7, c7, rfl, hb7, hbw7⟩
      have B7 := Lib.hid (B6.out.trans (hbw7.mono B6.out.size))
      have HV7 := Lib.hid (HV6.out.below (hbw7.mono (by omega)))
      have hb37 := HB6.out.below hbw7
      obtain ⟨A8, hb8, hcut8⟩ := byP.cut_h hb37 N (N : Int) rfl hNn
      have hcv1 : ∀ q, (convert 33 9 (.slice A7 n7 c7)).run Try.prog (w7.drewN q) = .ok (.string ⟨((getK x.d t).1.take N).toArray⟩) (w7.drewN q) := fun q => byP.str (w := w7.drewN q) hb7
      have hcv2 : ∀ q, (convert 33 9 (.slice A8 N c3)).run Try.prog (w7.drewN q) = .ok (.string ⟨((getK x.d t).1.take N).toArray⟩) (w7.drewN q) := fun q => byP.str (w := w7.drewN q) hb8
      have hN0 : ¬ (N : Int) < 0 := by omega
      have hN1 : ¬ (n3 : Int) < (N : Int) := by omega
      have hn3c := hb37.cap
      have hn3m := hb37.max
      clear hb7 hb8 hb37 hbw7
      go_wp2_with fail
      go_quiet (fail)
      go_wp2_with fail
      go_meet
      exact ⟨HV7.out.drewN _, below_drewN B7.out _⟩
    · have heb : ((cutK x.d t n).2 == 0) = false := by simpa using he
      clear he
      go_wp2_with fail
      go_meet
      exact ⟨HV5, B5⟩
  case rest =>
  obtain ⟨HVc, Bc⟩ := hcut
  obtain ⟨wq, hwq⟩ : ∃ q, q = wc := ⟨_, rfl⟩
  subst hwq
  have hsq : w.heap.size + 1 ≤ wq.heap.size := HVc.out.c.lt
  have HRM := Lib.hid (remove_any x t wq (HVc.out.r.mono (by omega)) HSM.out)
  obtain ⟨q0, q1, q2⟩ := cel3 HVc.out.c
  go_wp2_with fail
  refine HRM.out.mono ?_
  rintro e wr ⟨z3, rfl, hz3, hr3, hbr⟩
  have BR := Lib.hid (Bc.out.trans (hbr.mono Bc.out.size))
  by_cases hrm : (removeK x.d t).2 = 0
  · have HREM := Lib.hid hrm
    clear hrm
    have hg : (removeK x.d t).2 = 0 := HREM.out
    obtain ⟨ws, hws⟩ : ∃ ws, ws = wr.alloc (.cells z3.cs 25) := ⟨_, rfl⟩
    have hal : Below wr.heap.size wr ws := by rw [hws]; exact alloc_more _ _
    have V3 := Vd.born hr3
    rw [← hws] at V3
    have hss : ws.heap.size = wr.heap.size + 1 := by rw [hws]; simp
    rw [← hss] at V3
    have BS := Lib.hid (BR.out.trans (hal.mono BR.out.size))
    have hrd : RightD (removeK x.d t).1 := remove_right (good_right _) t
    have HRD := Lib.hid hrd
    have HGE := Lib.hid (get_any z3 t ws V3.r (by rw [hz3]; exact right_sm hrd))
    have HAN := Lib.hid (remove_anew (good_right x.d) (n := t) (b := b) hg)
    rw [show getK z3.d t = ([], 5) by rw [hz3]; exact HAN.out.1] at HGE
    rw [hg]
    have HV3 := Lib.hid V3
    have HZ3 := Lib.hid hz3
    clear hr3 hbr V3 hal hrd hz3 hg
    go_wp2_with fail
    rw [← hws]
    clear hws
    refine HGE.out.mono ?_
    rintro e wt ⟨At, nt, ct, rfl, hbt, hbg⟩
    have BT := Lib.hid (BS.out.trans (hbg.mono BS.out.size))
    have V3t := HV3.out.below hbg
    obtain ⟨q0, q1, q2⟩ := cel3 V3t.c
    have hst := hbg.size
    have HBb := Lib.hid (HB.out.below BT.out)
    have HR3 := Lib.hid V3t.r
    have HAP : Hid (∀ W A c, Below wt.heap.size wt W → Bs W A m c b → Calls Try.prog 22 #[.agg #[.slice z3.fA z3.fn z3.fc, .slice z3.nA z3.nn z3.nc, .slice z3.kA z3.kn z3.kc], .string (ba t), .slice A m c] W (DE W (appendK z3.d t b))) := fun W A c hW hbs => append_any z3 t A m c b W ((HR3.out.mono hst).below hW |>.mono hW.size) (by rw [HZ3.out]; exact right_sm HRD.out) ht hbs (by omega)
    have hltr : wr.heap.size < wt.heap.size := by omega
    have hx0 : Below wt.heap.size wt (wt.alloc (.cells #[] 5)) := alloc_more _ _
    have y00 : (wt.alloc (.cells #[] 5)).cell? ⟨wr.heap.size, 0, none⟩ = some (.slice z3.fA z3.fn z3.fc) := (hx0.cell (p := ⟨wr.heap.size, 0, none⟩) hltr).trans q0
    have y01 : (wt.alloc (.cells #[] 5)).cell? ⟨wr.heap.size, 1, none⟩ = some (.slice z3.nA z3.nn z3.nc) := (hx0.cell (p := ⟨wr.heap.size, 1, none⟩) hltr).trans q1
    have y02 : (wt.alloc (.cells #[] 5)).cell? ⟨wr.heap.size, 2, none⟩ = some (.slice z3.kA z3.kn z3.kc) := (hx0.cell (p := ⟨wr.heap.size, 2, none⟩) hltr).trans q2
    clear hx0
    have hx1 : Below wt.heap.size wt (wt.alloc (.cells #[.slice none 0 0, .slice none 0 0, .slice none 0 0] 25)) := alloc_more _ _
    have y10 : (wt.alloc (.cells #[.slice none 0 0, .slice none 0 0, .slice none 0 0] 25)).cell? ⟨wr.heap.size, 0, none⟩ = some (.slice z3.fA z3.fn z3.fc) := (hx1.cell (p := ⟨wr.heap.size, 0, none⟩) hltr).trans q0
    have y11 : (wt.alloc (.cells #[.slice none 0 0, .slice none 0 0, .slice none 0 0] 25)).cell? ⟨wr.heap.size, 1, none⟩ = some (.slice z3.nA z3.nn z3.nc) := (hx1.cell (p := ⟨wr.heap.size, 1, none⟩) hltr).trans q1
    have y12 : (wt.alloc (.cells #[.slice none 0 0, .slice none 0 0, .slice none 0 0] 25)).cell? ⟨wr.heap.size, 2, none⟩ = some (.slice z3.kA z3.kn z3.kc) := (hx1.cell (p := ⟨wr.heap.size, 2, none⟩) hltr).trans q2
    clear hx1
    have hx2 : Below wt.heap.size wt ((wt.alloc (.cells #[] 5)).alloc (.cells #[.slice none 0 0, .slice none 0 0, .slice none 0 0] 25)) := (alloc_more _ _).trans ((alloc_more _ _).mono (by simp))
    have y20 : ((wt.alloc (.cells #[] 5)).alloc (.cells #[.slice none 0 0, .slice none 0 0, .slice none 0 0] 25)).cell? ⟨wr.heap.size, 0, none⟩ = some (.slice z3.fA z3.fn z3.fc) := (hx2.cell (p := ⟨wr.heap.size, 0, none⟩) hltr).trans q0
    have y21 : ((wt.alloc (.cells #[] 5)).alloc (.cells #[.slice none 0 0, .slice none 0 0, .slice none 0 0] 25)).cell? ⟨wr.heap.size, 1, none⟩ = some (.slice z3.nA z3.nn z3.nc) := (hx2.cell (p := ⟨wr.heap.size, 1, none⟩) hltr).trans q1
    have y22 : ((wt.alloc (.cells #[] 5)).alloc (.cells #[.slice none 0 0, .slice none 0 0, .slice none 0 0] 25)).cell? ⟨wr.heap.size, 2, none⟩ = some (.slice z3.kA z3.kn z3.kc) := (hx2.cell (p := ⟨wr.heap.size, 2, none⟩) hltr).trans q2
    clear hx2
    have hx3 : Below wt.heap.size wt ((wt.alloc (.cells #[.slice none 0 0, .slice none 0 0, .slice none 0 0] 25)).alloc (.cells #[] 5)) := (alloc_more _ _).trans ((alloc_more _ _).mono (by simp))
    have y30 : ((wt.alloc (.cells #[.slice none 0 0, .slice none 0 0, .slice none 0 0] 25)).alloc (.cells #[] 5)).cell? ⟨wr.heap.size, 0, none⟩ = some (.slice z3.fA z3.fn z3.fc) := (hx3.cell (p := ⟨wr.heap.size, 0, none⟩) hltr).trans q0
    have y31 : ((wt.alloc (.cells #[.slice none 0 0, .slice none 0 0, .slice none 0 0] 25)).alloc (.cells #[] 5)).cell? ⟨wr.heap.size, 1, none⟩ = some (.slice z3.nA z3.nn z3.nc) := (hx3.cell (p := ⟨wr.heap.size, 1, none⟩) hltr).trans q1
    have y32 : ((wt.alloc (.cells #[.slice none 0 0, .slice none 0 0, .slice none 0 0] 25)).alloc (.cells #[] 5)).cell? ⟨wr.heap.size, 2, none⟩ = some (.slice z3.kA z3.kn z3.kc) := (hx3.cell (p := ⟨wr.heap.size, 2, none⟩) hltr).trans q2
    clear hx3
    have hl0 := Own.lit0 5 wt.drew
    have hal0 : Below wt.heap.size wt (wt.drew.alloc (.cells #[] 5)) := (Below.refl _ _).drew.alloc (Nat.le_refl _) _
    have HBc := Lib.hid (HBb.out.below hal0)
    have halC : Below wt.heap.size wt ((wt.drew.alloc (.cells #[] 5)).alloc (.cells #[.slice none 0 0, .slice none 0 0, .slice none 0 0] 25)) := hal0.alloc hal0.size _
    have hlC := hl0.below (alloc_more _ (.cells #[.slice none 0 0, .slice none 0 0, .slice none 0 0] 25))
    have HBcC := Lib.hid (HBb.out.below halC)
    have hczC := Cel.born (wt.drew.alloc (.cells #[] 5)) 25 #[.slice none 0 0, .slice none 0 0, .slice none 0 0]
    rw [show (wt.drew.alloc (.cells #[] 5)).heap.size = wt.heap.size + 1 by simp] at hczC
    have halB0 : Below wt.heap.size wt (wt.drew.alloc (.cells #[.slice none 0 0, .slice none 0 0, .slice none 0 0] 25)) := (Below.refl _ _).drew.alloc (Nat.le_refl _) _
    have halB : Below wt.heap.size wt ((wt.drew.alloc (.cells #[.slice none 0 0, .slice none 0 0, .slice none 0 0] 25)).alloc (.cells #[] 5)) := halB0.alloc halB0.size _
    have hlB := Own.lit0 5 (wt.drew.alloc (.cells #[.slice none 0 0, .slice none 0 0, .slice none 0 0] 25))
    have HBcB := Lib.hid (HBb.out.below halB)
    rw [show (wt.drew.alloc (.cells #[.slice none 0 0, .slice none 0 0, .slice none 0 0] 25)).heap.size = wt.heap.size + 1 by simp] at hlB
    have hczB : Cel _ wt.heap.size _ _ := (Cel.born wt.drew 25 #[.slice none 0 0, .slice none 0 0, .slice none 0 0]).below (alloc_more _ (.cells #[] 5)) (by simp)
    clear hbg hbt V3t
    go_wp2_with fail
    go_cut [19, 20] from 103 to 110 (fun v19 v20 wx => ∃ (gz : Nat) (z4 : Dv), v19 = .pointer (some ⟨gz, 0, none⟩) ∧ v20 = .int .i64 (appendK z3.d t b).2 ∧ Hid (z4.d = (appendK z3.d t b).1) ∧ Hid (Vd wx.heap.size wx gz z4) ∧ Hid (Below wt.heap.size wt wx))
    case first =>
     go_region_law (first
      | (refine step_appE byP (by rfl) (.tmp 105) (.tmp 106) (by rfl) (by rfl) hl0 (by rfl) HBc.out (by omega) (by exact hal0.size) ?_; intro A9 c9 w9 hown9 hb9 hgr9; simp only [Nat.zero_add, List.nil_append] at hown9; have hb9' : Below wt.heap.size wt w9 := hal0.trans (hb9.mono (Nat.le_refl _)); have hlt9 : wr.heap.size < w9.heap.size := Nat.lt_of_lt_of_le hltr hb9'.size; have k0 : w9.cell? ⟨wr.heap.size, 0, none⟩ = some (.slice z3.fA z3.fn z3.fc) := (hb9'.cell (p := ⟨wr.heap.size, 0, none⟩) (by show wr.heap.size < wt.heap.size; omega)).trans q0; have k1 : w9.cell? ⟨wr.heap.size, 1, none⟩ = some (.slice z3.nA z3.nn z3.nc) := (hb9'.cell (p := ⟨wr.heap.size, 1, none⟩) (by show wr.heap.size < wt.heap.size; omega)).trans q1; have k2 : w9.cell? ⟨wr.heap.size, 2, none⟩ = some (.slice z3.kA z3.kn z3.kc) := (hb9'.cell (p := ⟨wr.heap.size, 2, none⟩) (by show wr.heap.size < wt.heap.size; omega)).trans q2)
      | (refine step_appE byP (by rfl) (.tmp 105) (.tmp 106) (by rfl) (by rfl) hlC (by rfl) HBcC.out (by omega) (by exact halC.size) ?_; intro A9 c9 w9 hown9 hb9 hgr9; simp only [Nat.zero_add, List.nil_append] at hown9; have hb9' : Below wt.heap.size wt w9 := halC.trans (hb9.mono (Nat.le_refl _)); have hcz9 := hczC.grown hgr9 (hczC.not_row hlC (by decide)); have hlt9 : wr.heap.size < w9.heap.size := Nat.lt_of_lt_of_le hltr hb9'.size; have k0 : w9.cell? ⟨wr.heap.size, 0, none⟩ = some (.slice z3.fA z3.fn z3.fc) := (hb9'.cell (p := ⟨wr.heap.size, 0, none⟩) (by show wr.heap.size < wt.heap.size; omega)).trans q0; have k1 : w9.cell? ⟨wr.heap.size, 1, none⟩ = some (.slice z3.nA z3.nn z3.nc) := (hb9'.cell (p := ⟨wr.heap.size, 1, none⟩) (by show wr.heap.size < wt.heap.size; omega)).trans q1; have k2 : w9.cell? ⟨wr.heap.size, 2, none⟩ = some (.slice z3.kA z3.kn z3.kc) := (hb9'.cell (p := ⟨wr.heap.size, 2, none⟩) (by show wr.heap.size < wt.heap.size; omega)).trans q2)
      | (refine step_appE byP (by rfl) (.tmp 105) (.tmp 106) (by rfl) (by rfl) hlB (by rfl) HBcB.out (by omega) (by simp) ?_; intro A9 c9 w9 hown9 hb9 hgr9; simp only [Nat.zero_add, List.nil_append] at hown9; have hb9' : Below wt.heap.size wt w9 := halB.trans (hb9.mono (by simp)); have hcz9 := hczB.grown hgr9 (hczB.not_row hlB (by decide)); have hlt9 : wr.heap.size < w9.heap.size := Nat.lt_of_lt_of_le hltr hb9'.size; have k0 : w9.cell? ⟨wr.heap.size, 0, none⟩ = some (.slice z3.fA z3.fn z3.fc) := (hb9'.cell (p := ⟨wr.heap.size, 0, none⟩) (by show wr.heap.size < wt.heap.size; omega)).trans q0; have k1 : w9.cell? ⟨wr.heap.size, 1, none⟩ = some (.slice z3.nA z3.nn z3.nc) := (hb9'.cell (p := ⟨wr.heap.size, 1, none⟩) (by show wr.heap.size < wt.heap.size; omega)).trans q1; have k2 : w9.cell? ⟨wr.heap.size, 2, none⟩ = some (.slice z3.kA z3.kn z3.kc) := (hb9'.cell (p := ⟨wr.heap.size, 2, none⟩) (by show wr.heap.size < wt.heap.size; omega)).trans q2)
      | (go_simp; go_at_call 22; refine (HAP.out _ _ _ hb9' hown9.bs).mono ?_; rintro e wu ⟨z4, rfl, hz4, hr4, hbu⟩; have hb9u := hb9'.trans (hbu.mono hb9'.size); try (have hcz := hcz9.below hbu hcz9.lt; obtain ⟨s0, s1, s2⟩ := cel3 hcz; obtain ⟨u0, u1, u2⟩ := cel_frs hcz))
      | (go_simp; go_at_call 22; have hal9 := alloc_more w9 (.cells #[.slice none 0 0, .slice none 0 0, .slice none 0 0] 25); refine (HAP.out _ _ _ (hb9'.trans (hal9.mono hb9'.size)) (hown9.bs.alloc _)).mono ?_; rintro e wu ⟨z4, rfl, hz4, hr4, hbu⟩; have hb9u := (hb9'.trans (hal9.mono hb9'.size)).trans (hbu.mono (hb9'.trans (hal9.mono hb9'.size)).size); have hcz := (Cel.born w9 25 #[.slice none 0 0, .slice none 0 0, .slice none 0 0]).below hbu (by simp); obtain ⟨s0, s1, s2⟩ := cel3 hcz; obtain ⟨u0, u1, u2⟩ := cel_frs hcz))
     all_goals (go_wp2_with fail; go_meet)
     all_goals (first
      | exact ⟨_, z4, rfl, rfl, hz4, (Vd.born hr4).mono (by simp), hb9u.trans ((alloc_more _ _).mono hb9u.size)⟩
      | exact ⟨_, z4, rfl, rfl, hz4, Vd.put0 hcz hr4, below_put3 hb9u (by first | omega | (have := hb9'.size; omega)) _ _ _⟩)
    case rest =>
     obtain ⟨gz, z4, rfl, rfl, hz4, hv4, hbc⟩ := hcut
     have HD4 : Hid (z4.d = (appendG (removeK x.d t).1 t b).1) := by show z4.d = _; rw [hz4.out, HZ3.out]; unfold appendK; rw [good_of HRD.out]
     have HE4 : Hid ((appendK z3.d t b).2 = (appendG (removeK x.d t).1 t b).2) := by show _ = _; rw [HZ3.out]; unfold appendK; rw [good_of HRD.out]
     have hr4d : RightD z4.d := by rw [HD4.out]; exact append_right HRD.out t b
     have HG4 := Lib.hid (get_any z4 t wc hv4.out.r (right_sm hr4d))
     obtain ⟨q0, q1, q2⟩ := cel3 hv4.out.c
     have BC := Lib.hid (BT.out.trans (hbc.out.mono BT.out.size))
     clear hr4d
     go_wp2_with fail
     refine HG4.out.mono ?_
     rintro e wv ⟨Av, nv, cv, rfl, hbv, hbw⟩
     have BV := Lib.hid (BC.out.trans (hbw.mono BC.out.size))
     have hcv2 : (convert 33 9 (.slice A m c)).run Try.prog wv = .ok (.string ⟨b.toArray⟩) wv := byP.str (HB.out.below BV.out)
     by_cases hi : (appendG (removeK x.d t).1 t b).2 = 0
     · have hgk : getK z4.d t = (b, 0) := by rw [HD4.out]; exact HAN.out.2 hi
       rw [hgk] at hbv
       have hcv1 : (convert 33 9 (.slice Av nv cv)).run Try.prog wv = .ok (.string ⟨b.toArray⟩) wv := byP.str hbv
       have hin : ((appendK z3.d t b).2 != 0) = false := by rw [HE4.out, hi]; rfl
       clear hbv hbw hi hgk
       go_wp2_with fail
       refine (knows_yes _).mono ?_
       rintro e wz ⟨rfl, hbz⟩
       go_wp2
       go_ret
       exact ⟨rfl, BV.out.trans (hbz.mono BV.out.size)⟩
     · have hin : ((appendK z3.d t b).2 != 0) = true := by rw [HE4.out]; simpa using hi
       clear hbv hbw hi
       go_wp2_with fail
       refine (knows_yes _).mono ?_
       rintro e wz ⟨rfl, hbz⟩
       go_wp2
       go_ret
       exact ⟨rfl, BV.out.trans (hbz.mono BV.out.size)⟩
  · have hrf := remove_fails (d := goodD x.d) (n := t) (k := n) hrm
    have HREM : Hid ((removeK x.d t).2 = 5) := hrf.1
    have hen : ((cutK x.d t n).2 != 0) = true := bne_iff_ne.2 hrf.2
    clear hrm hrf
    have hg : (removeK x.d t).2 = 5 := HREM.out
    have BRA := Lib.hid (BR.out.alloc BR.out.size (.cells z3.cs 25))
    rw [hg]
    go_wp2_with fail
    refine (knows_yes _).mono ?_
    rintro e wz ⟨rfl, hbz⟩
    go_wp2
    go_ret
    exact ⟨rfl, BRA.out.trans (hbz.mono BRA.out.size)⟩
end Go.Proofs.Ytmgecfbfabhghaa.Dw
