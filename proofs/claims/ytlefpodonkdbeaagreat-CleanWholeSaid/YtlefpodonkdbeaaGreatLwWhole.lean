/- The walk of CleanWhole: it returns true, and what was in memory stays. For all leases whose keys fit. -/
import Derived.Test.YtlefpodonkdbeaaGreatLwCuts
set_option maxRecDepth 8000
namespace Go.Proofs.YtlefpodonkdbeaaGreat
open Go.RowKit Co By Ky Rc Dk Jn Ew Jw La Lw
open Dw (ba ba_size ba_data ba_list Dv RdD Sm alloc_more cel3 good_sm)

set_option maxHeartbeats 16000000 in
theorem cleanWhole_walk (A : Option Addr) (n c : Nat) (us : List L) (w : World) (h : RdLs w.heap.size w A n c us) (hfk : ∀ a ∈ us, Fk a) :
    Calls Tryz.prog 7 #[.slice A n c] w (isTrue w) := by
  have HKP := Lib.hid (kept_any A n c us w h hfk)
  have hkr : ∀ a ∈ keptL us, RightR a := kept_right us 10
  have hln : (keptL us).length ≤ 10 := kept_len us 10
  have hsm : (framesJ (keptL us)).length ≤ 20000 := by have h1 := frames_small hkr; omega
  generalize keptL us = ks at HKP hkr hln hsm
  have hmr : ∀ a ∈ lastL ks, RightR a := last_right hkr
  have hml : (lastL ks).length ≤ 10 := Nat.le_trans (last_len ks) hln
  have hms : (framesJ (lastL ks)).length ≤ 20000 := by have h1 := frames_small hmr; omega
  have HCL := Lib.hid (clean_disk hsm hmr hms)
  have HDA := Lib.hid (clean_all hsm hms (fuel := 4) (by decide))
  have hrn := read_new hmr hms
  have HDU : Hid (dueD (st4 (framesJ (lastL ks))) 0 = false) := due_no (by rw [hrn, last_last])
  have HRN := Lib.hid hrn
  have HST := Lib.hid (good_sm (right4 hms))
  have HSM := Lib.hid (good_sm (disk_right hsm))
  have HMR := Lib.hid hmr
  have HML := Lib.hid hml
  have HLN := Lib.hid hln
  clear h hfk hkr hsm hmr hml hms hrn hln
  go_enter Tryz.func7, Tryz.ntmps7
  go_wp2_with fail
  refine HKP.out.mono ?_
  rintro e w3 ⟨z, A3, c3, rfl, hz, hrz, hl3, hb3⟩
  obtain ⟨w4, hw4⟩ : ∃ w4, w4 = w3.alloc (.cells z.cs 30) := ⟨_, rfl⟩
  have hb4 : Below w3.heap.size w3 w4 := by rw [hw4]; exact alloc_more _ _
  have hc4 : Cel w4 w3.heap.size 30 z.cs := by rw [hw4]; exact Cel.born _ _ _
  have B4 := Lib.hid (hb3.trans (hb4.mono hb3.size))
  have HC4 := Lib.hid hc4
  have HZ4 := Lib.hid ((hrz.below hb4).mono hb4.size)
  have HZ : Hid (z.d = diskJ ks) := hz
  have hl4 := (hl3.below hb4).mono hb4.size
  have HL4 := Lib.hid hl4
  have HLA := Lib.hid (last_any A3 ks.length c3 w4.heap.size ks w4 hl4 (Nat.le_refl _) (by have := HLN.out; omega))
  have h3c := hl4.cap
  have h3m := hl4.max
  clear hz hrz hl3 hb3 hb4 hc4 hl4 HKP
  go_wp2_with fail
  rw [← hw4]
  clear hw4
  refine HLA.out.mono ?_
  rintro e w5 ⟨A5, n5, c5, rfl, ho5, hb5⟩
  have hl5 := ho5.rd
  have B5 := Lib.hid (B4.out.trans (hb5.mono B4.out.size))
  have hc5 := HC4.out.below hb5 HC4.out.lt
  have hz5 := (HZ4.out.below hb5).mono hb5.size
  have HC5 := Lib.hid hc5
  have HZ5 := Lib.hid hz5
  have HL5 := Lib.hid ((HL4.out.below hb5).mono hb5.size)
  have hcg := changes_any z A5 n5 c5 (lastL ks) w5 hz5 (by rw [HZ.out]; exact HSM.out) hl5 (fun a ha => by have := key_len (HMR.out a ha); have e : (encR a).length = 12 + a.key.length := enc_len a; show a.key.length ≤ _; omega)
  rw [HZ.out, HCL.out] at hcg
  have HCG := Lib.hid hcg
  obtain ⟨d0, d1, d2⟩ := cel3 hc5
  clear ho5 hb5 hl5 hc5 hz5 hcg HC4 HZ4 HL4 HLA HCL
  go_wp2_with fail
  clear d0 d1 d2
  refine HCG.out.mono ?_
  rintro e w6 ⟨A6, n6, c6, xs, rfl, hx6, he6, hb6⟩
  obtain rfl : n6 = 4 := by rw [← hx6.len, ← List.length_map (f := Cv.ch), he6]; rfl
  have B6 := Lib.hid (B5.out.trans (hb6.mono B5.out.size))
  have hc6 := HC5.out.below hb6 HC5.out.lt
  have HL6 := Lib.hid ((HL5.out.below hb6).mono hb6.size)
  have hdo := doJ_any z A6 4 c6 xs 4 w6 ((HZ5.out.below hb6).mono hb6.size) (by rw [HZ.out]; exact HSM.out) hx6 (kinds_four he6)
  rw [HZ.out, he6, HDA.out] at hdo
  have HDO := Lib.hid hdo
  have h6c := hx6.1.cap
  have h6m := hx6.1.max
  obtain ⟨d0, d1, d2⟩ := cel3 hc6
  clear hx6 he6 hb6 hc6 hdo HCG HC5 HZ5 HL5 HDA HZ HSM
  go_wp2_with fail
  clear d0 d1 d2
  refine HDO.out.mono ?_
  rintro e w7 ⟨x, rfl, hx, hrx, hb7⟩
  obtain ⟨w8, hw8⟩ : ∃ w8, w8 = w7.alloc (.cells x.cs 30) := ⟨_, rfl⟩
  have hb8 : Below w7.heap.size w7 w8 := by rw [hw8]; exact alloc_more _ _
  have hc8 : Cel w8 w7.heap.size 30 x.cs := by rw [hw8]; exact Cel.born _ _ _
  have hb68 := hb7.trans (hb8.mono hb7.size)
  have B8 := Lib.hid (B6.out.trans (hb68.mono B6.out.size))
  have HL8 := Lib.hid ((HL6.out.below hb68).mono hb68.size)
  have hx8 := (hrx.below hb8).mono hb8.size
  have hrd := readJ_any x w8 hx8 (by rw [hx]; exact HST.out)
  rw [hx, HRN.out] at hrd
  have HRD := Lib.hid hrd
  have HX : Hid (x.d = st4 (framesJ (lastL ks))) := hx
  have HX8 := Lib.hid hx8
  have HC8 := Lib.hid hc8
  obtain ⟨d0, d1, d2⟩ := cel3 hc8
  rw [hw8] at d0 d1 d2
  clear hx hrx hb7 hb8 hc8 hb68 hx8 hrd HDO HL6 HRN
  go_wp2_with fail
  rw [← hw8]
  clear hw8 d0 d1 d2
  refine HRD.out.mono ?_
  rintro e w9 ⟨A9, n9, c9, rfl, hl9, hb9⟩
  have B9 := Lib.hid (B8.out.trans (hb9.mono B8.out.size))
  have HL9 := Lib.hid ((HL8.out.below hb9).mono hb9.size)
  have HG9 := Lib.hid (show RdLs w9.heap.size w9 A9 n9 c9 (lastL ks) from hl9)
  have HX9 := Lib.hid ((HX8.out.below hb9).mono hb9.size)
  have HC9 := Lib.hid (HC8.out.below hb9 HC8.out.lt)
  have hn9 : (lastL ks).length = n9 := hl9.len
  have hn9s : n9 ≤ 10 := by have := HML.out; omega
  have HN9 := Lib.hid hn9
  have h9c := hl9.cap
  have h9m := hl9.max
  have HRL := Lib.hid (refLast_any A3 ks.length c3 ks w9 HL9.out (by have := HLN.out; omega))
  clear hl9 hb9 hn9 HRD HL8 HX8 HC8
  go_wp2_with fail
  refine HRL.out.mono ?_
  rintro e w10 ⟨A10, n10, c10, rfl, ho10, hb10⟩
  have B10 := Lib.hid (B9.out.trans (hb10.mono B9.out.size))
  have hg10 := (HG9.out.below hb10).mono hb10.size
  have HG10 := Lib.hid hg10
  have HX10 := Lib.hid ((HX9.out.below hb10).mono hb10.size)
  have HC10 := Lib.hid (HC9.out.below hb10 HC9.out.lt)
  have HSL := Lib.hid (sameLeases_yes A9 n9 c9 A10 n10 c10 (lastL ks) w10 hg10 ho10.rd)
  clear ho10 hb10 hg10 HRL HG9 HX9 HC9 HL9
  go_wp2_with fail
  refine HSL.out.mono ?_
  rintro e w11 ⟨rfl, hb11⟩
  have B11 := Lib.hid (B10.out.trans (hb11.mono B10.out.size))
  have HG11 := Lib.hid ((HG10.out.below hb11).mono hb11.size)
  have hc11 := HC10.out.below hb11 HC10.out.lt
  have hdu := due_any x 0 w11 ((HX10.out.below hb11).mono hb11.size) (by rw [HX.out]; exact HST.out)
  rw [HX.out, HDU.out] at hdu
  have HDUE := Lib.hid hdu
  obtain ⟨d0, d1, d2⟩ := cel3 hc11
  clear hb11 hc11 hdu HSL HG10 HX10 HC10 HST HX HDU
  go_wp2_with fail
  clear d0 d1 d2
  refine HDUE.out.mono ?_
  rintro e w12 ⟨rfl, hb12⟩
  have B12 := Lib.hid (B11.out.trans (hb12.mono B11.out.size))
  have HG12 := Lib.hid ((HG11.out.below hb12).mono hb12.size)
  clear hb12 HDUE HG11
  by_cases h0 : n9 = 0
  · subst h0
    clear HG12
    go_wp2_with fail
    refine (Lw.knows_yes _).mono ?_
    rintro e wz ⟨rfl, hbz⟩
    go_wp2
    go_ret
    exact ⟨rfl, B12.out.trans (hbz.mono B12.out.size)⟩
  · obtain ⟨b, o, a, rfl, _, HA, a0, a1, a2, a3⟩ := atL HG12.out (k := 0) (by omega)
    have hma := HMR.out a (List.mem_of_getElem? HA.out)
    have hrr := refRight_any a w12 (by have := key_len hma; have e : (encR a).length = 12 + a.key.length := enc_len a; show a.key.length ≤ _; omega)
    rw [show rightR a = true from decide_eq_true hma] at hrr
    have HRR := Lib.hid hrr
    simp only [Nat.zero_mul, Nat.add_zero] at a0 a1 a2 a3
    have hz : ((n9 : Int) == 0) = false := by simp; omega
    have hz2 : (n9 == 0) = false := by simpa using h0
    have hz3 : (0 : Int) < (n9 : Int) := by omega
    clear HA hma hrr h0 HG12
    go_wp2_with fail
    refine HRR.out.mono ?_
    rintro e w13 ⟨rfl, hb13⟩
    have B13 := Lib.hid (B12.out.trans (hb13.mono B12.out.size))
    clear hb13
    go_wp2_with fail
    refine (Lw.knows_yes _).mono ?_
    rintro e wz ⟨rfl, hbz⟩
    go_wp2
    go_ret
    exact ⟨rfl, B13.out.trans (hbz.mono B13.out.size)⟩
end Go.Proofs.YtlefpodonkdbeaaGreat
