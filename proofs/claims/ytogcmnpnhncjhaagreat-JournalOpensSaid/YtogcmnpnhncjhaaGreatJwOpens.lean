/- The walk of JournalOpens: it returns true, and what was in memory stays. For all disks whose names fit. -/
import Derived.Test.YtogcmnpnhncjhaaGreatJwKnows
import Derived.Test.YtogcmnpnhncjhaaGreatJwRefOpen
import Derived.Test.YtogcmnpnhncjhaaGreatDwAs
import Derived.Test.YtogcmnpnhncjhaaGreatDwPlays
import Derived.Deep.RegionHeld3
set_option maxRecDepth 8000
namespace Go.Proofs.YtogcmnpnhncjhaaGreat
open Go.RowKit By Dk Jn Jw
open Dw (Dv RdD Sm alloc_more Vd great_any as_any cel3 ref_cel3 good_sm same_yesD loose_facts)

theorem open_cases (d : D) : RightD (openJ d).1 ∧ ((openJ d).2 = 2 ∨ ((openJ d).2 = 0 ∧ openJ (openJ d).1 = ((openJ d).1, 0))) := by
  rcases open_any d with ⟨_, h⟩ | ⟨_, h1, h2, _, h4⟩
  · rw [h]; exact ⟨zero_right, .inl rfl⟩
  · exact ⟨h2, .inr ⟨h1, h4⟩⟩
/-- A disk that is right is small. -/
theorem right_small {U : Nat} {w : World} {z : Dv} (h : RightD z.d) (hr : RdD U w z) : z.fn ≤ 1000 ∧ z.nn ≤ 1000 ∧ z.kn ≤ 1000 := by
  have h1 := h.1
  obtain ⟨a, b, c, _⟩ := loose_facts h.2.1 hr (by omega)
  omega
set_option maxHeartbeats 16000000 in
theorem journalOpens_walk (x : Dv) (w : World) (h : RdD w.heap.size w x) (hsm : Sm x.d) :
    Calls Tryz.prog 3 #[x.v] w (isTrue w) := by
  obtain ⟨w1, hw1⟩ : ∃ w1, w1 = w.alloc (.cells x.cs 25) := ⟨_, rfl⟩
  have V1 : Vd (w.heap.size + 1) w1 w.heap.size x := by rw [hw1]; exact Vd.born h
  have hs1 : w1.heap.size = w.heap.size + 1 := by rw [hw1]; simp
  have hb1 : Below w.heap.size w w1 := by rw [hw1]; exact alloc_more _ _
  have HGR := Lib.hid (great_any x w1 (V1.r.mono (by omega)))
  have HV1 := Lib.hid V1
  have B1 := Lib.hid hb1
  have HS1 := Lib.hid hs1
  have HSM := Lib.hid hsm
  obtain ⟨q0, q1, q2⟩ := cel3 V1.c
  rw [hw1] at q0 q1 q2
  clear h hsm V1 hb1 hs1
  go_enter Tryz.func3, Tryz.ntmps3
  go_wp2_with fail
  rw [← hw1]
  clear hw1 q0 q1 q2
  refine HGR.out.mono ?_
  rintro e w2 ⟨gr, rfl, hgr, hb2⟩
  have B2 := Lib.hid (B1.out.trans (hb2.mono B1.out.size))
  have HV2 := Lib.hid (HV1.out.below (hb2.mono (by have := HS1.out; omega)))
  have HS2 := Lib.hid (show w.heap.size + 1 ≤ w2.heap.size by have := HS1.out; have := hb2.size; omega)
  clear hb2 HGR
  cases gr with
  | true =>
    clear hgr
    go_wp2_with fail
    refine (knows_yes _).mono ?_
    rintro e wz ⟨rfl, hbz⟩
    go_wp2
    go_ret
    exact ⟨rfl, B2.out.trans (hbz.mono B2.out.size)⟩
  | false =>
  obtain ⟨_, hg2, hg3, hg4⟩ := hgr rfl
  have HF := Lib.hid hg2
  have HG := Lib.hid hg3
  have HH := Lib.hid hg4
  have hop := openJ_any x w2 (HV2.out.r.mono HS2.out) HSM.out
  have hoc := open_cases x.d
  obtain ⟨q0, q1, q2⟩ := cel3 HV2.out.c
  generalize ho : openJ x.d = o at hop hoc
  obtain ⟨od, oe⟩ := o
  have HOP := Lib.hid hop
  have HO := Lib.hid ho
  have HRT := Lib.hid (show RightD od from hoc.1)
  have HOC := Lib.hid (show oe = 2 ∨ (oe = 0 ∧ openJ od = (od, 0)) from hoc.2)
  clear hgr hg2 hg3 hg4 hop hoc ho
  go_wp2_with fail
  refine HOP.out.mono ?_
  rintro e w3 ⟨X, rfl, hX, hrX, hb3⟩
  obtain ⟨w4, hw4⟩ : ∃ w4, w4 = w3.alloc (.cells X.cs 25) := ⟨_, rfl⟩
  have hb4 : Below w3.heap.size w3 w4 := by rw [hw4]; exact alloc_more _ _
  have hc4 : Cel w4 w3.heap.size 25 X.cs := by rw [hw4]; exact Cel.born _ _ _
  have hb24 := hb3.trans (hb4.mono hb3.size)
  have HX4 := Lib.hid ((hrX.below hb4).mono hb4.size)
  have HXD : Hid (X.d = od) := hX
  have hv4 := HV2.out.below (hb24.mono HS2.out)
  have HV4 := Lib.hid hv4
  have HS4 := Lib.hid (Nat.le_trans HS2.out hb24.size)
  have B4 := Lib.hid (B2.out.trans (hb24.mono B2.out.size))
  have HC4 := Lib.hid hc4
  have HAS := Lib.hid (as_any x w4 (hv4.r.mono HS4.out) (by have := HF.out; omega) (by have := HG.out; omega) (by have := HH.out; omega))
  obtain ⟨d0, d1, d2⟩ := cel3 hv4.c
  rw [hw4] at d0 d1 d2
  clear hX hrX hb3 hb4 hc4 hb24 hv4 HOP HF HG HH
  go_wp2_with fail
  rw [← hw4]
  clear hw4 d0 d1 d2 q0 q1 q2
  refine HAS.out.mono ?_
  rintro e w5 ⟨ya, rfl, hya, hrya, hb5⟩
  have hro := refOpenJ_any ya w5 hrya (by rw [hya]; exact HSM.out)
  rw [hya, HO.out] at hro
  have HRO := Lib.hid hro
  have B5 := Lib.hid (B4.out.trans (hb5.mono B4.out.size))
  have HC5 := Lib.hid (HC4.out.below hb5 HC4.out.lt)
  have HX5 := Lib.hid ((HX4.out.below hb5).mono hb5.size)
  clear hya hrya hb5 hro HAS HX4 HC4
  go_wp2_with fail
  refine HRO.out.mono ?_
  rintro e w6 ⟨Y, rfl, hY, hrY, hb6⟩
  obtain ⟨w7, hw7⟩ : ∃ w7, w7 = w6.alloc (.cells Y.cs 34) := ⟨_, rfl⟩
  have hb7 : Below w6.heap.size w6 w7 := by rw [hw7]; exact alloc_more _ _
  have hc7 : Cel w7 w6.heap.size 34 Y.cs := by rw [hw7]; exact Cel.born _ _ _
  have hb57 := hb6.trans (hb7.mono hb6.size)
  have B7 := Lib.hid (B5.out.trans (hb57.mono B5.out.size))
  have hcx := HC5.out.below hb57 HC5.out.lt
  have HCX := Lib.hid hcx
  have HX7 := Lib.hid ((HX5.out.below hb57).mono hb57.size)
  have HY7 := Lib.hid ((hrY.below hb7).mono hb7.size)
  have HCY := Lib.hid hc7
  have HYD : Hid (Y.d = od) := hY
  have K : Hid (∀ W, Below w7.heap.size w7 W → (W.cell? ⟨w3.heap.size, 0, none⟩ = some (.slice X.fA X.fn X.fc) ∧ W.cell? ⟨w3.heap.size, 1, none⟩ = some (.slice X.nA X.nn X.nc) ∧ W.cell? ⟨w3.heap.size, 2, none⟩ = some (.slice X.kA X.kn X.kc)) ∧ (W.cell? ⟨w6.heap.size, 0, none⟩ = some (.slice Y.fA Y.fn Y.fc) ∧ W.cell? ⟨w6.heap.size, 1, none⟩ = some (.slice Y.nA Y.nn Y.nc) ∧ W.cell? ⟨w6.heap.size, 2, none⟩ = some (.slice Y.kA Y.kn Y.kc))) := fun W hW =>
    ⟨cel3 (hcx.below hW hcx.lt), ref_cel3 (hc7.below hW hc7.lt)⟩
  have HSX := Lib.hid (right_small (by rw [HXD.out]; exact HRT.out) HX7.out)
  have HASX : Hid (∀ W, Below w7.heap.size w7 W → Calls Tryz.prog 8 #[X.v] W (Dw.DR W (fun v => v) X.d)) := fun W hW => as_any X W ((HX7.out.below hW).mono hW.size) HSX.out.1 HSX.out.2.1 HSX.out.2.2
  have hne : (oe != oe) = false := by simp
  clear hY hrY hb6 hb7 hc7 hb57 hcx HRO HX5 HC5
  go_wp2_with fail
  rw [← hw7]
  clear hw7
  go_region_held3 (fun W => (W.cell? ⟨w3.heap.size, 0, none⟩ = some (.slice X.fA X.fn X.fc) ∧ W.cell? ⟨w3.heap.size, 1, none⟩ = some (.slice X.nA X.nn X.nc) ∧ W.cell? ⟨w3.heap.size, 2, none⟩ = some (.slice X.kA X.kn X.kc)) ∧ (W.cell? ⟨w6.heap.size, 0, none⟩ = some (.slice Y.fA Y.fn Y.fc) ∧ W.cell? ⟨w6.heap.size, 1, none⟩ = some (.slice Y.nA Y.nn Y.nc) ∧ W.cell? ⟨w6.heap.size, 2, none⟩ = some (.slice Y.kA Y.kn Y.kc)))
    (first
      | exact K.out _ (Below.refl _ _)
      | exact K.out _ (Below.refl _ _).drew
      | exact K.out _ hbu9
      | exact K.out _ hbv9)
    (first
      | (go_simp; go_at_call 8; (with_reducible refine (HASX.out _ (by first | exact Below.refl _ _ | exact (Below.refl _ _).drew)).mono ?_); rintro ee wu ⟨xa, rfl, hxa, hrxa, hbu⟩; have hbu9 : Below w7.heap.size w7 wu := below_undrew hbu)
      | (go_simp; go_at_call 9; (with_reducible refine (same_yesD xa Y wu hrxa ((HY7.out.below hbu9).mono hbu9.size) (by rw [hxa, HXD.out, HYD.out])).mono ?_); rintro ee wv ⟨rfl, hbv⟩; have hbv9 : Below w7.heap.size w7 wv := hbu9.trans (hbv.mono hbu9.size)))
  all_goals (
    have B8 := Lib.hid (B7.out.trans (hbv9.mono B7.out.size))
    have HXV := Lib.hid ((HX7.out.below hbv9).mono hbv9.size)
    have HYV := Lib.hid ((HY7.out.below hbv9).mono hbv9.size)
    have hcxv := HCX.out.below hbv9 HCX.out.lt
    have HCYV := Lib.hid (HCY.out.below hbv9 HCY.out.lt)
    rcases HOC.out with h2 | ⟨h0, hoo⟩
    · obtain rfl : oe = 2 := h2
      clear hbu hbu9 hbv hbv9 hrxa hxa HX7 HY7 HCX HCY K HASX hcxv
      go_wp2_with fail
      refine (knows_yes _).mono ?_
      rintro e wz ⟨rfl, hbz⟩
      go_wp2
      go_ret
      exact ⟨rfl, B8.out.trans (hbz.mono B8.out.size)⟩
    · obtain rfl : oe = 0 := h0
      have hop := openJ_any X wv HXV.out (by rw [HXD.out]; exact good_sm HRT.out)
      rw [HXD.out, hoo] at hop
      have HOP := Lib.hid hop
      obtain ⟨q0, q1, q2⟩ := cel3 hcxv
      clear hbu hbu9 hbv hbv9 hrxa hxa HX7 HY7 HCX HCY K HASX hcxv hoo hop
      go_wp2_with fail
      refine HOP.out.mono ?_
      rintro e w8 ⟨Z, rfl, hZ, hrZ, hb8⟩
      obtain ⟨w9, hw9⟩ : ∃ w9, w9 = w8.alloc (.cells Z.cs 25) := ⟨_, rfl⟩
      have hb9 : Below w8.heap.size w8 w9 := by rw [hw9]; exact alloc_more _ _
      have hc9 : Cel w9 w8.heap.size 25 Z.cs := by rw [hw9]; exact Cel.born _ _ _
      have hb89 := hb8.trans (hb9.mono hb8.size)
      have B9 := Lib.hid (B8.out.trans (hb89.mono B8.out.size))
      have hcy9 := HCYV.out.below hb89 HCYV.out.lt
      have HZ9 := Lib.hid ((hrZ.below hb9).mono hb9.size)
      have HY9 := Lib.hid ((HYV.out.below hb89).mono hb89.size)
      have HZD : Hid (Z.d = od) := hZ
      have K : Hid (∀ W, Below w9.heap.size w9 W → (W.cell? ⟨w8.heap.size, 0, none⟩ = some (.slice Z.fA Z.fn Z.fc) ∧ W.cell? ⟨w8.heap.size, 1, none⟩ = some (.slice Z.nA Z.nn Z.nc) ∧ W.cell? ⟨w8.heap.size, 2, none⟩ = some (.slice Z.kA Z.kn Z.kc)) ∧ (W.cell? ⟨w6.heap.size, 0, none⟩ = some (.slice Y.fA Y.fn Y.fc) ∧ W.cell? ⟨w6.heap.size, 1, none⟩ = some (.slice Y.nA Y.nn Y.nc) ∧ W.cell? ⟨w6.heap.size, 2, none⟩ = some (.slice Y.kA Y.kn Y.kc))) := fun W hW =>
        ⟨cel3 (hc9.below hW hc9.lt), ref_cel3 (hcy9.below hW hcy9.lt)⟩
      have HSZ := Lib.hid (right_small (by rw [HZD.out]; exact HRT.out) HZ9.out)
      have HASZ : Hid (∀ W, Below w9.heap.size w9 W → Calls Tryz.prog 8 #[Z.v] W (Dw.DR W (fun v => v) Z.d)) := fun W hW => as_any Z W ((HZ9.out.below hW).mono hW.size) HSZ.out.1 HSZ.out.2.1 HSZ.out.2.2
      clear hZ hrZ hb8 hb9 hc9 hb89 hcy9 HOP HXV HYV HCYV q0 q1 q2
      go_wp2_with fail
      rw [← hw9]
      clear hw9
      go_region_held3 (fun W => (W.cell? ⟨w8.heap.size, 0, none⟩ = some (.slice Z.fA Z.fn Z.fc) ∧ W.cell? ⟨w8.heap.size, 1, none⟩ = some (.slice Z.nA Z.nn Z.nc) ∧ W.cell? ⟨w8.heap.size, 2, none⟩ = some (.slice Z.kA Z.kn Z.kc)) ∧ (W.cell? ⟨w6.heap.size, 0, none⟩ = some (.slice Y.fA Y.fn Y.fc) ∧ W.cell? ⟨w6.heap.size, 1, none⟩ = some (.slice Y.nA Y.nn Y.nc) ∧ W.cell? ⟨w6.heap.size, 2, none⟩ = some (.slice Y.kA Y.kn Y.kc)))
        (first
          | exact K.out _ (Below.refl _ _)
          | exact K.out _ (Below.refl _ _).drew
          | exact K.out _ hcu9
          | exact K.out _ hcv9
          | exact K.out _ hcx9)
        (first
          | (go_simp; go_at_call 8; (with_reducible refine (HASZ.out _ (by first | exact Below.refl _ _ | exact (Below.refl _ _).drew)).mono ?_); rintro ee wu' ⟨za, rfl, hza, hrza, hcu⟩; have hcu9 : Below w9.heap.size w9 wu' := below_undrew hcu)
          | (go_simp; go_at_call 9; (with_reducible refine (same_yesD za Y wu' hrza ((HY9.out.below hcu9).mono hcu9.size) (by rw [hza, HZD.out, HYD.out])).mono ?_); rintro ee wv' ⟨rfl, hcv⟩; have hcv9 : Below w9.heap.size w9 wv' := hcu9.trans (hcv.mono hcu9.size))
          | (go_simp; go_at_call 5; (with_reducible refine (knows_yes _).mono ?_); rintro ee wx ⟨rfl, hcx⟩; have hcx9 : Below w9.heap.size w9 wx := hcv9.trans (hcx.mono hcv9.size)))
      all_goals (
        go_wp2
        go_ret
        exact ⟨rfl, B9.out.trans (hcx9.mono B9.out.size)⟩))
end Go.Proofs.YtogcmnpnhncjhaaGreat
