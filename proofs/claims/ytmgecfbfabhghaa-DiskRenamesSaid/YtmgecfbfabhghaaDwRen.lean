/- DiskRenames, walked: whatever the bytes and the keeping, it returns true, and nothing that was there has turned. -/
import Derived.Test.YtmgecfbfabhghaaDwStep
set_option maxRecDepth 8000
namespace Go.Proofs.Ytmgecfbfabhghaa.Dw
open Go.RowKit By Dk

def d1 (a : List UInt8) : D := ⟨[⟨a, 0⟩], [(nJ, 0)], []⟩
def s1 (a : List UInt8) : D := ⟨[full a], [(nJ, 0)], []⟩
def d2 (a : List UInt8) : D := ⟨[full a], [(nJ, 0)], [(nJ, 0)]⟩
def d3 (a b : List UInt8) : D := ⟨[full a, ⟨b, 0⟩], [(nJ, 0), (nK, 1)], [(nJ, 0)]⟩
def d4 (a b : List UInt8) : D := ⟨[full a, full b], [(nJ, 0), (nK, 1)], [(nJ, 0)]⟩
def d5 (a b : List UInt8) : D := ⟨[full b, full a], [(nJ, 0)], [(nJ, 1)]⟩
def d6 (b : List UInt8) : D := ⟨[full b], [(nJ, 0)], [(nJ, 0)]⟩
structure Ren (a b : List UInt8) : Prop where
  e1 : appendK zeroD nJ a = (d1 a, 0)
  r1 : RightD (d1 a)
  e2 : syncK (d1 a) nJ = (s1 a, 0)
  r2 : RightD (s1 a)
  e3 : syncDirK (s1 a) = d2 a
  r3 : RightD (d2 a)
  e4 : appendK (d2 a) nK b = (d3 a b, 0)
  r4 : RightD (d3 a b)
  e5 : syncK (d3 a b) nK = (d4 a b, 0)
  r5 : RightD (d4 a b)
  e6 : renameK (d4 a b) nK nJ = (d5 a b, 0)
  r6 : RightD (d5 a b)
  e7 : syncDirK (d5 a b) = d6 b
  r7 : RightD (d6 b)
  e8 : ∀ keep dir, getK (crashK (d5 a b) keep dir) nJ = (if dir then b else a, 0) ∧ getK (crashK (d6 b) keep dir) nJ = (b, 0)
  e9 : namesK (d5 a b) = [nJ]
theorem ren (a b : List UInt8) (ha : a.length ≤ 20000) (hb : b.length ≤ 20000) : Ren a b := by
  obtain ⟨r3', r5', r6', r7'⟩ := renamed_right a b ha hb
  have r3 : RightD (d2 a) := r3'
  have r5 : RightD (d4 a b) := r5'
  have r6 : RightD (d5 a b) := r6'
  have r7 : RightD (d6 b) := r7'
  have r1 : RightD (d1 a) := by have := append_right zero_right nJ a; rw [j1 a ha] at this; exact this
  have r2 : RightD (s1 a) := sync_right r1 nJ
  have r4 : RightD (d3 a b) := by have := append_right r3' nK b; rw [j3 a b hb] at this; exact this
  refine ⟨?_, r1, ?_, r2, ?_, r3, ?_, r4, ?_, r5, ?_, r6, ?_, r7, fun keep dir => ?_, ?_⟩
  · unfold appendK; rw [good_of zero_right]; exact j1 a ha
  · unfold syncK; rw [good_of r1]; rfl
  · unfold syncDirK; rw [good_of r2]; rfl
  · unfold appendK; rw [good_of r3]; exact j3 a b hb
  · unfold syncK; rw [good_of r4]; rfl
  · unfold renameK; rw [good_of r5]; rfl
  · unfold syncDirK; rw [good_of r6]; rfl
  · unfold crashK; rw [good_of r6, good_of r7]; exact renamed_crash a b ha hb keep dir
  · unfold namesK; rw [good_of r6]; rfl
set_option maxHeartbeats 4000000 in
theorem diskRenames_walk (A : Option Addr) (m c : Nat) (a : List UInt8) (A' : Option Addr) (m' c' : Nat) (b : List UInt8) (Ak : Option Addr) (nk ck : Nat) (keep : List Int) (dir : Bool) (w : World) (ha : Bs w A m c a) (hb : Bs w A' m' c' b) (hk : Rd w Ak nk ck (intV keep)) :
    Calls Try.prog 7 #[.slice A m c, .slice A' m' c', .slice Ak nk ck, .bool dir] w (isTrue w) := by
  have HA := Lib.hid ha
  have HB := Lib.hid hb
  have HK := Lib.hid hk
  have HAL := Lib.hid ha.len
  have HBL := Lib.hid hb.len
  have a1 := ha.cap
  have a2 := ha.max
  have a3 := hb.cap
  have a4 := hb.max
  have a5 := hk.cap
  have a6 := hk.max
  have B0 := Lib.hid (Below.refl w.heap.size w)
  clear ha hb hk
  go_enter Try.func7, Try.ntmps7
  by_cases h1 : (10000 : Int) < (m : Int)
  · skip
    go_wp2_with fail
    refine (knows_yes _).mono ?_
    rintro e wz ⟨rfl, hbz⟩
    go_wp2
    go_ret
    exact ⟨rfl, B0.out.trans (hbz.mono B0.out.size)⟩
  by_cases h2 : (10000 : Int) < (m' : Int)
  · skip
    go_wp2_with fail
    refine (knows_yes _).mono ?_
    rintro e wz ⟨rfl, hbz⟩
    go_wp2
    go_ret
    exact ⟨rfl, B0.out.trans (hbz.mono B0.out.size)⟩
  by_cases h3 : (100 : Int) < (nk : Int)
  · skip
    go_wp2_with fail
    refine (knows_yes _).mono ?_
    rintro e wz ⟨rfl, hbz⟩
    go_wp2
    go_ret
    exact ⟨rfl, B0.out.trans (hbz.mono B0.out.size)⟩
  have HREN := Lib.hid (ren a b (by have := HAL.out; omega) (by have := HBL.out; omega))
  have hlit := Own.lit0 5 w
  have hal := alloc_more w (.cells #[] 5)
  go_wp2_with (first | fail | (at_builtin; refine wpList_app byP rfl (.tmp 33) (.tmp 34) rfl rfl hlit rfl (HA.out.below hal) (by omega) (by simp) ?_; intro A1 c1 w1 hown1 hb1 _ _))
  simp only [Nat.zero_add, List.nil_append] at hown1
  have B1 := Lib.hid (hal.trans hb1)
  have H1 := Lib.hid (append_any zeroV nJ A1 m c1 a w1 (RdD.zero _ _) (right_sm zero_right) (by decide) hown1.bs (by omega))
  rw [show zeroV.d = zeroD from rfl, HREN.out.e1] at H1
  clear hown1 hb1 hlit hal
  go_wp2_with fail
  refine H1.out.mono ?_
  rintro e w2 ⟨z1, rfl, hz1, hr1, hb2⟩
  have B2 := Lib.hid (B1.out.trans (hb2.mono B1.out.size))
  obtain ⟨w3, hw3⟩ : ∃ w3, w3 = w2.alloc (.cells z1.cs 25) := ⟨_, rfl⟩
  have V3 := Vd.born hr1
  rw [← hw3] at V3
  have hs3 : w3.heap.size = w2.heap.size + 1 := by rw [hw3]; simp
  rw [← hs3] at V3
  have B3 := Lib.hid (B2.out.trans (show Below w.heap.size w2 w3 by rw [hw3]; exact (alloc_more _ _).mono B2.out.size))
  have hg0 : w.heap.size ≤ w2.heap.size := B2.out.size
  have H2 := Lib.hid (sync_any z1 nJ w3 V3.r (by rw [hz1]; exact right_sm HREN.out.r1))
  rw [hz1, HREN.out.e2] at H2
  have HV3 := Lib.hid V3
  clear hr1 hb2 V3 hz1
  go_wp2_with fail
  rw [← hw3]
  clear hw3
  refine H2.out.mono ?_
  rintro e w4 ⟨z2, rfl, hz2, hrz2, hbz2⟩
  have VA := HV3.out.below hbz2
  obtain ⟨q0, q1, q2⟩ := cel3 VA.c
  obtain ⟨f0, f1, f2⟩ := cel_frs VA.c
  obtain ⟨w5, hw5⟩ : ∃ w5, w5 = (((w4.setCell ⟨w2.heap.size, 0, none⟩ (.slice z2.fA z2.fn z2.fc)).setCell ⟨w2.heap.size, 1, none⟩ (.slice z2.nA z2.nn z2.nc)).setCell ⟨w2.heap.size, 2, none⟩ (.slice z2.kA z2.kn z2.kc)) := ⟨_, rfl⟩
  have VB := VA.put hrz2 VA.c.lt
  have hsw5 : w5.heap.size = w4.heap.size := by rw [hw5]; simp
  rw [← hw5, ← hsw5] at VB
  have B5 := Lib.hid (show Below w.heap.size w w5 by rw [hw5]; exact below_put3 (B3.out.trans (hbz2.mono B3.out.size)) hg0 _ _ _)
  have HV5 := Lib.hid VB
  have HZz2 := Lib.hid hz2
  have hssw5 := hbz2.size
  have hlew5 : w4.heap.size ≤ w5.heap.size := by omega
  clear VA VB hrz2 hbz2 hz2 hsw5
  have H3 := Lib.hid (syncDir_any z2 w5 HV5.out.r (by rw [HZz2.out]; exact right_sm HREN.out.r2))
  rw [HZz2.out, HREN.out.e3] at H3
  go_wp2_with fail
  rw [← hw5]
  clear hw5 q0 q1 q2 f0 f1 f2
  refine H3.out.mono ?_
  rintro e w6 ⟨z3, rfl, hz3, hrz3, hbz3⟩
  have VA := HV5.out.below hbz3
  obtain ⟨q0, q1, q2⟩ := cel3 VA.c
  obtain ⟨f0, f1, f2⟩ := cel_frs VA.c
  obtain ⟨w7, hw7⟩ : ∃ w7, w7 = (((w6.setCell ⟨w2.heap.size, 0, none⟩ (.slice z3.fA z3.fn z3.fc)).setCell ⟨w2.heap.size, 1, none⟩ (.slice z3.nA z3.nn z3.nc)).setCell ⟨w2.heap.size, 2, none⟩ (.slice z3.kA z3.kn z3.kc)) := ⟨_, rfl⟩
  have VB := VA.put hrz3 VA.c.lt
  have hsw7 : w7.heap.size = w6.heap.size := by rw [hw7]; simp
  rw [← hw7, ← hsw7] at VB
  have B7 := Lib.hid (show Below w.heap.size w w7 by rw [hw7]; exact below_put3 (B5.out.trans (hbz3.mono B5.out.size)) hg0 _ _ _)
  have HV7 := Lib.hid VB
  have HZz3 := Lib.hid hz3
  have hssw7 := hbz3.size
  have hlew7 : w6.heap.size ≤ w7.heap.size := by omega
  clear VA VB hrz3 hbz3 hz3 hsw7
  go_wp2_with fail
  rw [← hw7]
  clear hw7 q0 q1 q2 f0 f1 f2
  obtain ⟨q0, q1, q2⟩ := cel3 HV7.out.c
  have HBb := Lib.hid (HB.out.below B7.out)
  have hltr : w2.heap.size < w7.heap.size := HV7.out.l
  have hl0 := Own.lit0 5 w7.drew
  have hal0 : Below w7.heap.size w7 (w7.drew.alloc (.cells #[] 5)) := (Below.refl _ _).drew.alloc (Nat.le_refl _) _
  have HBc := Lib.hid (HBb.out.below hal0)
  have hx : Below w7.heap.size w7 (w7.alloc (.cells #[] 5)) := alloc_more _ _
  have y0 : (w7.alloc (.cells #[] 5)).cell? ⟨w2.heap.size, 0, none⟩ = some (.slice z3.fA z3.fn z3.fc) := (hx.cell (p := ⟨w2.heap.size, 0, none⟩) hltr).trans q0
  have y1 : (w7.alloc (.cells #[] 5)).cell? ⟨w2.heap.size, 1, none⟩ = some (.slice z3.nA z3.nn z3.nc) := (hx.cell (p := ⟨w2.heap.size, 1, none⟩) hltr).trans q1
  have y2 : (w7.alloc (.cells #[] 5)).cell? ⟨w2.heap.size, 2, none⟩ = some (.slice z3.kA z3.kn z3.kc) := (hx.cell (p := ⟨w2.heap.size, 2, none⟩) hltr).trans q2
  have HAP : Hid (∀ W A c, Below w7.heap.size w7 W → Bs W A m' c b → Calls Try.prog 22 #[.agg #[.slice z3.fA z3.fn z3.fc, .slice z3.nA z3.nn z3.nc, .slice z3.kA z3.kn z3.kc], .string (ba nK), .slice A m' c] W (DE W (d3 a b, 0))) := fun W A c hW hbs => by
    have := append_any z3 nK A m' c b W ((HV7.out.r.below hW).mono hW.size) (by rw [HZz3.out]; exact right_sm HREN.out.r3) (by decide) hbs (by omega)
    rw [HZz3.out, HREN.out.e4] at this
    exact this
  clear hx
  go_cut [10] from 46 to 53 (fun _ wx => ∃ z4 : Dv, Hid (z4.d = d3 a b) ∧ Hid (Vd wx.heap.size wx w2.heap.size z4) ∧ Hid (Below w.heap.size w wx))
  case first =>
    go_region_law (first
      | (refine step_appE byP (by rfl) (.tmp 48) (.tmp 49) (by rfl) (by rfl) hl0 (by rfl) HBc.out (by omega) (by exact hal0.size) ?_; intro A9 c9 w9 hown9 hb9 hgr9; simp only [Nat.zero_add, List.nil_append] at hown9; have hb9' : Below w7.heap.size w7 w9 := hal0.trans (hb9.mono (Nat.le_refl _)); have hlt9 : w2.heap.size < w9.heap.size := Nat.lt_of_lt_of_le hltr hb9'.size; have k0 : w9.cell? ⟨w2.heap.size, 0, none⟩ = some (.slice z3.fA z3.fn z3.fc) := (hb9'.cell (p := ⟨w2.heap.size, 0, none⟩) hltr).trans q0; have k1 : w9.cell? ⟨w2.heap.size, 1, none⟩ = some (.slice z3.nA z3.nn z3.nc) := (hb9'.cell (p := ⟨w2.heap.size, 1, none⟩) hltr).trans q1; have k2 : w9.cell? ⟨w2.heap.size, 2, none⟩ = some (.slice z3.kA z3.kn z3.kc) := (hb9'.cell (p := ⟨w2.heap.size, 2, none⟩) hltr).trans q2)
      | (go_simp; go_at_call 22; refine (HAP.out _ _ _ hb9' hown9.bs).mono ?_; rintro e wu ⟨z4, rfl, hz4, hr4, hbu⟩; have hb9u := hb9'.trans (hbu.mono hb9'.size); have VA := HV7.out.below hb9u; obtain ⟨s0, s1, s2⟩ := cel3 VA.c; obtain ⟨u0, u1, u2⟩ := cel_frs VA.c))
    all_goals (
      go_wp2_with fail
      go_meet
      exact ⟨z4, hz4, (VA.put hr4 VA.c.lt).mono (by simp), below_put3 (B7.out.trans (hb9u.mono B7.out.size)) hg0 _ _ _⟩)
  case rest =>
  obtain ⟨z4, HZz4, HV8, B8⟩ := hcut
  obtain ⟨w8, hw8⟩ : ∃ q, q = wc := ⟨_, rfl⟩
  subst hw8
  obtain ⟨q0, q1, q2⟩ := cel3 HV8.out.c
  have H4 := Lib.hid (sync_any z4 nK w8 HV8.out.r (by rw [HZz4.out]; exact right_sm HREN.out.r4))
  rw [HZz4.out, HREN.out.e5] at H4
  go_wp2_with fail
  clear q0 q1 q2
  refine H4.out.mono ?_
  rintro e w9 ⟨z5, rfl, hz5, hrz5, hbz5⟩
  have VA := HV8.out.below hbz5
  obtain ⟨q0, q1, q2⟩ := cel3 VA.c
  obtain ⟨f0, f1, f2⟩ := cel_frs VA.c
  obtain ⟨w10, hw10⟩ : ∃ w10, w10 = (((w9.setCell ⟨w2.heap.size, 0, none⟩ (.slice z5.fA z5.fn z5.fc)).setCell ⟨w2.heap.size, 1, none⟩ (.slice z5.nA z5.nn z5.nc)).setCell ⟨w2.heap.size, 2, none⟩ (.slice z5.kA z5.kn z5.kc)) := ⟨_, rfl⟩
  have VB := VA.put hrz5 VA.c.lt
  have hsw10 : w10.heap.size = w9.heap.size := by rw [hw10]; simp
  rw [← hw10, ← hsw10] at VB
  have B10 := Lib.hid (show Below w.heap.size w w10 by rw [hw10]; exact below_put3 (B8.out.trans (hbz5.mono B8.out.size)) hg0 _ _ _)
  have HV10 := Lib.hid VB
  have HZz5 := Lib.hid hz5
  have hssw10 := hbz5.size
  have hlew10 : w9.heap.size ≤ w10.heap.size := by omega
  clear VA VB hrz5 hbz5 hz5 hsw10
  have H5 := Lib.hid (rename_any z5 nK nJ w10 HV10.out.r (by rw [HZz5.out]; exact right_sm HREN.out.r5) (by decide))
  rw [HZz5.out, HREN.out.e6] at H5
  go_wp2_with fail
  rw [← hw10]
  clear hw10 q0 q1 q2 f0 f1 f2
  refine H5.out.mono ?_
  rintro e w11 ⟨z6, rfl, hz6, hrz6, hbz6⟩
  have VA := HV10.out.below hbz6
  obtain ⟨q0, q1, q2⟩ := cel3 VA.c
  obtain ⟨f0, f1, f2⟩ := cel_frs VA.c
  obtain ⟨w12, hw12⟩ : ∃ w12, w12 = (((w11.setCell ⟨w2.heap.size, 0, none⟩ (.slice z6.fA z6.fn z6.fc)).setCell ⟨w2.heap.size, 1, none⟩ (.slice z6.nA z6.nn z6.nc)).setCell ⟨w2.heap.size, 2, none⟩ (.slice z6.kA z6.kn z6.kc)) := ⟨_, rfl⟩
  have VB := VA.put hrz6 VA.c.lt
  have hsw12 : w12.heap.size = w11.heap.size := by rw [hw12]; simp
  rw [← hw12, ← hsw12] at VB
  have B12 := Lib.hid (show Below w.heap.size w w12 by rw [hw12]; exact below_put3 (B10.out.trans (hbz6.mono B10.out.size)) hg0 _ _ _)
  have HV12 := Lib.hid VB
  have HZz6 := Lib.hid hz6
  have hssw12 := hbz6.size
  have hlew12 : w11.heap.size ≤ w12.heap.size := by omega
  clear VA VB hrz6 hbz6 hz6 hsw12
  have H6 := Lib.hid (crash_any z6 Ak nk ck keep dir w12 HV12.out.r (by rw [HZz6.out]; exact right_sm HREN.out.r6) (HK.out.below B12.out))
  rw [HZz6.out] at H6
  have hcr5 : RightD (crashK (d5 a b) keep dir) := by unfold crashK; rw [good_of HREN.out.r6]; exact crash_right HREN.out.r6 keep dir
  have hcr6 : RightD (crashK (d6 b) keep dir) := by unfold crashK; rw [good_of HREN.out.r7]; exact crash_right HREN.out.r7 keep dir
  have HCR5 := Lib.hid hcr5
  have HCR6 := Lib.hid hcr6
  clear hcr5 hcr6
  go_wp2_with fail
  rw [← hw12]
  clear hw12 q0 q1 q2 f0 f1 f2
  refine H6.out.mono ?_
  rintro e w13 ⟨z7, rfl, hz7, hr7, hb13⟩
  have B13 := Lib.hid (B12.out.trans (hb13.mono B12.out.size))
  have HV13 := Lib.hid (HV12.out.below hb13)
  have hs13 := hb13.size
  have H7 := Lib.hid (get_any z7 nJ w13 hr7 (by rw [hz7]; exact right_sm HCR5.out))
  rw [hz7, (HREN.out.e8 keep dir).1] at H7
  clear hr7 hz7 hb13
  go_wp2_with fail
  refine H7.out.mono ?_
  rintro e w14 ⟨Ax, nx, cx, rfl, hbx, hb14⟩
  have B14 := Lib.hid (B13.out.trans (hb14.mono B13.out.size))
  have HV14 := Lib.hid (HV13.out.below (hb14.mono hs13))
  have HX := Lib.hid hbx
  have hs14 := hb14.size
  obtain ⟨q0, q1, q2⟩ := cel3 HV14.out.c
  have H8 := Lib.hid (syncDir_any z6 w14 (HV14.out.r.mono (by omega)) (by rw [HZz6.out]; exact right_sm HREN.out.r6))
  rw [HZz6.out, HREN.out.e7] at H8
  clear hbx hb14
  go_wp2_with fail
  refine H8.out.mono ?_
  rintro e w15 ⟨z8, rfl, hz8, hr8, hb15⟩
  have B15 := Lib.hid (B14.out.trans (hb15.mono B14.out.size))
  have HV15 := Lib.hid (HV14.out.below (hb15.mono (by omega)))
  have HX15 := Lib.hid (HX.out.below hb15)
  have hs15 := hb15.size
  have H9 := Lib.hid (crash_any z8 Ak nk ck keep dir w15 hr8 (by rw [hz8]; exact right_sm HREN.out.r7) (HK.out.below B15.out))
  rw [hz8] at H9
  clear hr8 hz8 hb15
  go_wp2_with fail
  refine H9.out.mono ?_
  rintro e w16 ⟨z9, rfl, hz9, hr9, hb16⟩
  have B16 := Lib.hid (B15.out.trans (hb16.mono B15.out.size))
  have HV16 := Lib.hid (HV15.out.below (hb16.mono (by omega)))
  have HX16 := Lib.hid (HX15.out.below hb16)
  have hs16 := hb16.size
  have H10 := Lib.hid (get_any z9 nJ w16 hr9 (by rw [hz9]; exact right_sm HCR6.out))
  rw [hz9, (HREN.out.e8 keep dir).2] at H10
  clear hr9 hz9 hb16
  go_wp2_with fail
  refine H10.out.mono ?_
  rintro e w17 ⟨Ay, ny, cy, rfl, hby, hb17⟩
  have B17 := Lib.hid (B16.out.trans (hb17.mono B16.out.size))
  have HV17 := Lib.hid (HV16.out.below (hb17.mono (by omega)))
  have hX17 := HX16.out.below hb17
  have hs17 := hb17.size
  obtain ⟨q0, q1, q2⟩ := cel3 HV17.out.c
  have c1v : (convert 33 9 (.slice A m c)).run Try.prog w17 = .ok (.string ⟨a.toArray⟩) w17 := byP.str (HA.out.below B17.out)
  have c2v : (convert 33 9 (.slice A' m' c')).run Try.prog w17 = .ok (.string ⟨b.toArray⟩) w17 := byP.str (HB.out.below B17.out)
  have c3v := byP.str hX17
  have c4v := byP.str hby
  have H11 := Lib.hid (names_any z6 w17 (HV17.out.r.mono (by omega)) (by rw [HZz6.out]; exact right_sm HREN.out.r6))
  rw [HZz6.out, HREN.out.e9] at H11
  clear hX17 hby hb17
  cases dir with
  | true =>
    rw [show (if true = true then b else a) = b from rfl] at c3v
    go_wp2_with fail
    refine H11.out.mono ?_
    rintro e w18 ⟨Al, nl, cl, rfl, hrl, hb18⟩
    have hnl : nl = 1 := by have := hrl.len; exact this.symm
    subst hnl
    have hcm := hrl.cap
    have hcx := hrl.max
    have B18 := Lib.hid (B17.out.trans (hb18.mono B17.out.size))
    clear hrl hb18
    go_wp2_with fail
    refine (knows_yes _).mono ?_
    rintro e wz ⟨rfl, hbz⟩
    go_wp2
    go_ret
    exact ⟨rfl, B18.out.trans (hbz.mono B18.out.size)⟩
  | false =>
    rw [show (if false = true then b else a) = a from rfl] at c3v
    go_wp2_with fail
    refine H11.out.mono ?_
    rintro e w18 ⟨Al, nl, cl, rfl, hrl, hb18⟩
    have hnl : nl = 1 := by have := hrl.len; exact this.symm
    subst hnl
    have hcm := hrl.cap
    have hcx := hrl.max
    have B18 := Lib.hid (B17.out.trans (hb18.mono B17.out.size))
    clear hrl hb18
    go_wp2_with fail
    refine (knows_yes _).mono ?_
    rintro e wz ⟨rfl, hbz⟩
    go_wp2
    go_ret
    exact ⟨rfl, B18.out.trans (hbz.mono B18.out.size)⟩
end Go.Proofs.Ytmgecfbfabhghaa.Dw
