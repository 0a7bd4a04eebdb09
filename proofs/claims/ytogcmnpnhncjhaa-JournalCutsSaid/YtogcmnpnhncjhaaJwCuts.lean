/- The walk of JournalCuts: it returns true, and what was in memory stays. For all leases whose keys fit. -/
import Derived.Test.YtogcmnpnhncjhaaJwKept
import Derived.Test.YtogcmnpnhncjhaaJwSame
import Derived.Test.YtogcmnpnhncjhaaJwOpen
import Derived.Test.YtogcmnpnhncjhaaDwD
import Derived.Deep.RegionHeld3
set_option maxRecDepth 8000
namespace Go.Proofs.Ytogcmnpnhncjhaa
open Go.RowKit Co By Ky Rc Dk Jn Ew Jw
open Dw (ba ba_size ba_data ba_list Dv RdD Sm alloc_more good_sm cel3 crash_any intV)

theorem goC_good (fuel : Int) : ∀ (l : List Ch) (i : Nat) (d : D), RightD d → RightD (goC fuel i d l).1
  | [], i, d, h => h
  | c :: l, i, d, h => by
    rw [goC]
    split
    · exact h
    split
    · exact h
    · exact goC_good fuel l (i + 1) _ (one_good h c)
theorem do_good (d : D) (l : List Ch) (fuel : Int) : RightD (doC d l fuel).1 := goC_good fuel l 0 _ (good_right d)
theorem crash_good (d : D) (keep : List Int) (dir : Bool) : RightD (crashK d keep dir) := crash_right (good_right d) keep dir
theorem open_good (d : D) : RightD (openJ d).1 := by
  rcases open_any d with ⟨_, h⟩ | ⟨_, _, h, _⟩
  · rw [h]; exact zero_right
  · exact h
theorem go_le (fuel : Int) : ∀ (l : List Ch) (i : Nat) (d : D), (goC fuel i d l).2 ≤ i + l.length
  | [], i, d => Nat.le_refl _
  | c :: l, i, d => by
    rw [goC]
    split
    · exact Nat.le_add_right _ _
    split
    · exact Nat.le_add_right _ _
    · have := go_le fuel l (i + 1) (oneC d c).1
      rw [List.length_cons]
      omega
theorem do_le (d : D) (l : List Ch) (fuel : Int) : (doC d l fuel).2 ≤ l.length := by have := go_le fuel l 0 (goodD d); unfold doC; omega
theorem litL_blk {w w' : World} {b : Nat} {a : L} {U : Nat} (h : RdLs U w (some ⟨b, 0, none⟩) 1 1 [a]) (hb : w'.heap[b]? = w.heap[b]?) : RdLs U w' (some ⟨b, 0, none⟩) 1 1 [a] :=
  ⟨h.1, h.2.1, h.2.2.1, fun hn => by
    obtain ⟨b', o', e, hU, hc⟩ := h.2.2.2 hn
    refine ⟨b', o', e, hU, fun i hi => ?_⟩
    injection e with e
    injection e with e1 _ _
    subst e1
    exact (World.cell?_of_block (w := w) hb).trans (hc i hi)⟩
/-- The worlds of a region in which an empty literal and one of a lease are laid, in either order. -/
theorem two_lits (v : World) (a : L) :
    (Below v.heap.size v (v.alloc (.cells #[] 41)) ∧ OwnLs v.heap.size (v.alloc (.cells #[] 41)) (some ⟨v.heap.size, 0, none⟩) 0 0 []) ∧
    (Below v.heap.size v ((v.alloc (.cells #[] 41)).alloc (.cells (lcs a) 41)) ∧ OwnLs v.heap.size ((v.alloc (.cells #[] 41)).alloc (.cells (lcs a) 41)) (some ⟨v.heap.size, 0, none⟩) 0 0 [] ∧
      RdLs (v.heap.size + 2) ((v.alloc (.cells #[] 41)).alloc (.cells (lcs a) 41)) (some ⟨v.heap.size + 1, 0, none⟩) 1 1 [a]) ∧
    (Below v.heap.size v (v.alloc (.cells (lcs a) 41)) ∧ Below v.heap.size v ((v.alloc (.cells (lcs a) 41)).alloc (.cells #[] 41)) ∧ OwnLs (v.heap.size + 1) ((v.alloc (.cells (lcs a) 41)).alloc (.cells #[] 41)) (some ⟨v.heap.size + 1, 0, none⟩) 0 0 [] ∧
      RdLs (v.heap.size + 1) ((v.alloc (.cells (lcs a) 41)).alloc (.cells #[] 41)) (some ⟨v.heap.size, 0, none⟩) 1 1 [a]) := by
  have hal0 : Below v.heap.size v (v.alloc (.cells #[] 41)) := alloc_more _ _
  have hs0 : (v.alloc (.cells #[] 41)).heap.size = v.heap.size + 1 := by simp
  have hl0 : OwnLs v.heap.size (v.alloc (.cells #[] 41)) (some ⟨v.heap.size, 0, none⟩) 0 0 [] := OwnG.lit (Y := layL) 41 v [] (by simp)
  have hal1 : Below v.heap.size v (v.alloc (.cells (lcs a) 41)) := alloc_more _ _
  have hs1 : (v.alloc (.cells (lcs a) 41)).heap.size = v.heap.size + 1 := by simp
  have hB := litL (v.alloc (.cells #[] 41)) a
  rw [hs0] at hB
  have hC := OwnG.lit (Y := layL) 41 (v.alloc (.cells (lcs a) 41)) [] (by simp)
  rw [hs1] at hC
  exact ⟨⟨hal0, hl0⟩, ⟨hal0.trans ((alloc_more _ _).mono hal0.size), hl0.below (alloc_more _ _), hB⟩, hal1, hal1.trans ((alloc_more _ _).mono hal1.size), hC, (litL v a).below ((alloc_more _ _).mono (by rw [hs1]; exact Nat.le_refl _))⟩

set_option maxHeartbeats 16000000 in
theorem journalCuts_walk (A : Option Addr) (n c : Nat) (ls : List L) (a : L) (done : Int) (Ak : Option Addr) (nk ck : Nat) (keep : List Int) (dir : Bool) (w : World) (h : RdLs w.heap.size w A n c ls) (hfk : ∀ a ∈ ls, Fk a) (hfa : Fk a) (hk : Rd w Ak nk ck (intV keep)) :
    Calls Try.prog 4 #[.slice A n c, lv a, .int .i64 done, .slice Ak nk ck, .bool dir] w (isTrue w) := by
  have hcp := hk.cap
  have hmx := hk.max
  obtain ⟨w1, hw1⟩ : ∃ w1, w1 = w.alloc (.cells (lcs a) 41) := ⟨_, rfl⟩
  have hb1 : Below w.heap.size w w1 := by rw [hw1]; exact alloc_more _ _
  have hc1 : Cel w1 w.heap.size 41 (lcs a) := by rw [hw1]; exact Cel.born _ _ _
  have B1 := Lib.hid hb1
  have HC1 := Lib.hid hc1
  by_cases hs : (100 : Int) < (nk : Int)
  · clear h hfk hk hb1 hc1
    go_enter Try.func4, Try.ntmps4
    go_wp2_with fail
    rw [← show w1 = w.alloc (.cells #[.int .i64 a.addr, .int .i64 a.state, .int .i64 a.till, .string (ba a.key)] 41) from hw1]
    clear hw1
    refine (knows_yes _).mono ?_
    rintro e wz ⟨rfl, hbz⟩
    go_wp2
    go_ret
    exact ⟨rfl, B1.out.trans (hbz.mono B1.out.size)⟩
  have HRI := Lib.hid (refRight_any a w1 hfa)
  obtain ⟨a0, a1, a2, a3⟩ := cel4 hc1
  rw [hw1] at a0 a1 a2 a3
  have HKP := Lib.hid (fun W (hW : Below w.heap.size w W) => kept_any A n c ls W ((h.below hW).mono hW.size) hfk)
  have HK := Lib.hid hk
  have HFA := Lib.hid hfa
  have hkr : ∀ a ∈ keptL ls, RightR a := kept_right ls 10
  have hln : (keptL ls).length ≤ 10 := kept_len ls 10
  generalize keptL ls = ks at HKP hkr hln
  have HKR := Lib.hid hkr
  clear h hfk hk hb1 hc1 hfa hkr
  go_enter Try.func4, Try.ntmps4
  go_wp2_with fail
  rw [← hw1]
  clear hw1 a0 a1 a2 a3
  refine HRI.out.mono ?_
  rintro e w2 ⟨rfl, hb2⟩
  have B2 := Lib.hid (B1.out.trans (hb2.mono B1.out.size))
  have HC2 := Lib.hid (HC1.out.below hb2 HC1.out.lt)
  clear hb2 HRI B1 HC1
  cases hr : rightR a with
  | false =>
    clear hr
    go_wp2_with fail
    refine (knows_yes _).mono ?_
    rintro e wz ⟨rfl, hbz⟩
    go_wp2
    go_ret
    exact ⟨rfl, B2.out.trans (hbz.mono B2.out.size)⟩
  | true =>
  have hra : RightR a := of_decide_eq_true hr
  have hsm2 : (framesJ (ks ++ [a])).length ≤ 20000 := by have h1 := frames_small HKR.out; have h2 := key_len hra; rw [frames_snoc, List.length_append, frameL_length]; omega
  have hsm : (framesJ ks).length ≤ 20000 := by rw [frames_snoc, List.length_append] at hsm2; omega
  have HAD := Lib.hid (add_disk HKR.out hra hsm)
  have HSM := Lib.hid (good_sm (disk_right hsm))
  have HHF := Lib.hid (do_half (l := a) HKR.out hsm2 done)
  have HLE := Lib.hid (do_le (diskJ ks) (changesJ ks a) done)
  have HCM := Lib.hid (cuts_math HKR.out hra hsm2 HHF.out keep dir)
  have HDG := Lib.hid (do_good (diskJ ks) (changesJ ks a) done)
  have hch := changes_len ks a
  have HCL := Lib.hid hch
  clear hr hra hsm2 hsm hch HHF
  generalize hdc : doC (diskJ ks) (changesJ ks a) done = dc at HLE HCM HDG
  have HDC := Lib.hid hdc
  clear hdc
  obtain ⟨xd, m⟩ := dc
  have HKW := Lib.hid (HKP.out w2 B2.out)
  clear HKP
  go_wp2_with fail
  refine HKW.out.mono ?_
  rintro e w3 ⟨z, A3, c3, rfl, hz, hrz, hl3, hb3⟩
  obtain ⟨w4, hw4⟩ : ∃ w4, w4 = w3.alloc (.cells z.cs 25) := ⟨_, rfl⟩
  have hb4 : Below w3.heap.size w3 w4 := by rw [hw4]; exact alloc_more _ _
  have hc4 : Cel w4 w3.heap.size 25 z.cs := by rw [hw4]; exact Cel.born _ _ _
  have hb24 := hb3.trans (hb4.mono hb3.size)
  have hm4 := HC2.out.below hb24 HC2.out.lt
  have hz4 := (hrz.below hb4).mono hb4.size
  have had := addJ_any z a w4 hz4 (by rw [hz]; exact HSM.out) HFA.out
  rw [hz, HAD.out] at had
  have HA4 := Lib.hid had
  have B4 := Lib.hid (B2.out.trans (hb24.mono B2.out.size))
  have HC4 := Lib.hid hc4
  have HM4 := Lib.hid hm4
  have HZ4 := Lib.hid hz4
  have HZ : Hid (z.d = diskJ ks) := hz
  have HL4 := Lib.hid ((hl3.below hb4).mono hb4.size)
  obtain ⟨d0, d1, d2⟩ := cel3 hc4
  obtain ⟨a0, a1, a2, a3⟩ := cel4 hm4
  rw [hw4] at d0 d1 d2 a0 a1 a2 a3
  clear hz hrz hl3 hb3 hb4 hc4 hb24 hm4 hz4 had HKW HAD HC2
  go_wp2_with fail
  rw [← hw4]
  clear hw4 d0 d1 d2 a0 a1 a2 a3
  refine HA4.out.mono ?_
  rintro e w5 ⟨A5, n5, c5, xs, rfl, hx5, he5, hb5⟩
  have hn5 : n5 = (changesJ ks a).length := by rw [← hx5.len, ← List.length_map (f := Cv.ch), he5]
  have hz5 := (HZ4.out.below hb5).mono hb5.size
  have hdo := doJ_any z A5 n5 c5 xs done w5 hz5 (by rw [HZ.out]; exact HSM.out) hx5 (kinds_of he5)
  rw [HZ.out, he5, HDC.out] at hdo
  have HDO := Lib.hid hdo
  have B5 := Lib.hid (B4.out.trans (hb5.mono B4.out.size))
  have HC5 := HC4.out.below hb5 HC4.out.lt
  have HM5 := Lib.hid (HM4.out.below hb5 HM4.out.lt)
  have HL5 := Lib.hid ((HL4.out.below hb5).mono hb5.size)
  have HN5 := Lib.hid hn5
  have h5c := hx5.1.cap
  have h5m := hx5.1.max
  obtain ⟨d0, d1, d2⟩ := cel3 HC5
  clear hx5 he5 hb5 hn5 hz5 hdo HC5 HA4 HC4 HM4 HZ4 HL4 HDC HZ HSM
  go_wp2_with fail
  refine HDO.out.mono ?_
  rintro e w6 ⟨x, rfl, hx, hrx, hb6⟩
  obtain ⟨w7, hw7⟩ : ∃ w7, w7 = w6.alloc (.cells x.cs 25) := ⟨_, rfl⟩
  have hb7 : Below w6.heap.size w6 w7 := by rw [hw7]; exact alloc_more _ _
  have hc7 : Cel w7 w6.heap.size 25 x.cs := by rw [hw7]; exact Cel.born _ _ _
  have hb57 := hb6.trans (hb7.mono hb6.size)
  have B7 := Lib.hid (B5.out.trans (hb57.mono B5.out.size))
  have HM7 := Lib.hid (HM5.out.below hb57 HM5.out.lt)
  have HL7 := Lib.hid ((HL5.out.below hb57).mono hb57.size)
  have hcr := crash_any x Ak nk ck keep dir w7 ((hrx.below hb7).mono hb7.size) (by rw [hx]; exact good_sm HDG.out) (HK.out.below B7.out)
  rw [hx] at hcr
  have HCR := Lib.hid hcr
  obtain ⟨d0, d1, d2⟩ := cel3 hc7
  rw [hw7] at d0 d1 d2
  have hcg := crash_good xd keep dir
  have hog := open_good (crashK xd keep dir)
  generalize crashK xd keep dir = cd at HCR HCM hcg hog
  have HCG := Lib.hid (good_sm hcg)
  have HOG := Lib.hid (good_sm hog)
  clear hx hrx hb6 hb7 hc7 hb57 hcr HDO HM5 HL5 HDG hcg hog
  go_wp2_with fail
  rw [← hw7]
  clear hw7 d0 d1 d2
  refine HCR.out.mono ?_
  rintro e w8 ⟨y0, rfl, hy0, hry0, hb8⟩
  have B8 := Lib.hid (B7.out.trans (hb8.mono B7.out.size))
  have HM8 := Lib.hid (HM7.out.below hb8 HM7.out.lt)
  have HL8 := Lib.hid ((HL7.out.below hb8).mono hb8.size)
  have hop := openJ_any y0 w8 hry0 (by rw [hy0]; exact HCG.out)
  rw [hy0] at hop
  generalize openJ cd = od at hop HCM HOG
  obtain ⟨od, oe⟩ := od
  have HOP := Lib.hid hop
  clear hy0 hry0 hb8 hop HCR HM7 HL7 HCG
  go_wp2_with fail
  refine HOP.out.mono ?_
  rintro e w9 ⟨y, rfl, hy, hry, hb9⟩
  obtain ⟨w10, hw10⟩ : ∃ w10, w10 = w9.alloc (.cells y.cs 25) := ⟨_, rfl⟩
  have hb10 : Below w9.heap.size w9 w10 := by rw [hw10]; exact alloc_more _ _
  have hc10 : Cel w10 w9.heap.size 25 y.cs := by rw [hw10]; exact Cel.born _ _ _
  have hb810 := hb9.trans (hb10.mono hb9.size)
  have B10 := Lib.hid (B8.out.trans (hb810.mono B8.out.size))
  have HM10 := Lib.hid (HM8.out.below hb810 HM8.out.lt)
  have HL10 := Lib.hid ((HL8.out.below hb810).mono hb810.size)
  have hrd := readJ_any y w10 ((hry.below hb10).mono hb10.size) (by rw [hy]; exact HOG.out)
  rw [hy] at hrd
  simp only at hrd HCM
  generalize readD od = gd at hrd HCM
  obtain ⟨gl, gn, ge⟩ := gd
  have HRD := Lib.hid hrd
  obtain ⟨d0, d1, d2⟩ := cel3 hc10
  rw [hw10] at d0 d1 d2
  obtain ⟨he1, he2, hgl⟩ := HCM.out
  simp only at he1 he2 hgl
  subst he1 he2
  have HGL := Lib.hid hgl
  clear hy hry hb9 hb10 hc10 hb810 hrd HOP HM8 HL8 HOG HCM hgl
  go_wp2_with fail
  rw [← hw10]
  clear hw10 d0 d1 d2
  refine HRD.out.mono ?_
  rintro e w11 ⟨A8, n8, c8, rfl, hl8, hb11⟩
  have B11 := Lib.hid (B10.out.trans (hb11.mono B10.out.size))
  have HM11 := Lib.hid (HM10.out.below hb11 HM10.out.lt)
  have HL11 := Lib.hid ((HL10.out.below hb11).mono hb11.size)
  have HG11 := Lib.hid (show RdLs w11.heap.size w11 A8 n8 c8 gl from hl8)
  have hn5b : 2 ≤ n5 ∧ n5 ≤ 3 := by have := HN5.out; rcases HCL.out with e | e <;> omega
  have h8c := hl8.cap
  have h8m := hl8.max
  have h3c := HL11.out.cap
  have h3m := HL11.out.max
  clear hl8 hb11 HRD HM10 HL10
  rcases HGL.out with ⟨hgl, hlt⟩ | hgl
  · have HQ := HG11.out
    rw [hgl] at HQ
    have HSL := Lib.hid (sameLeases_yes A8 n8 c8 A3 ks.length c3 ks w11 HQ HL11.out)
    have hmn : (m : Int) < (n5 : Int) := by have := HN5.out; omega
    clear HQ hgl hlt HGL
    go_wp2_with fail
    refine HSL.out.mono ?_
    rintro e w12 ⟨rfl, hb12⟩
    have B12 := Lib.hid (B11.out.trans (hb12.mono B11.out.size))
    clear hb12
    go_wp2_with fail
    refine (knows_yes _).mono ?_
    rintro e wz ⟨rfl, hbz⟩
    go_wp2
    go_ret
    exact ⟨rfl, B12.out.trans (hbz.mono B12.out.size)⟩
  · have HQ := HG11.out
    rw [hgl] at HQ
    have hn8 : n8 = ks.length + 1 := by rw [← HQ.len, List.length_append]; rfl
    have HSL := Lib.hid (sameLeases_len A8 n8 c8 A3 ks.length c3 w11 (by omega) (by omega) (by omega))
    have HN8 := Lib.hid hn8
    have HGQ := Lib.hid HQ
    clear HQ hgl HGL HG11 hn8
    go_wp2_with fail
    refine HSL.out.mono ?_
    rintro e w9 ⟨rfl, hb12⟩
    have B9 := Lib.hid (B11.out.trans (hb12.mono B11.out.size))
    have hm9 := HM11.out.below hb12 HM11.out.lt
    have HM9 := Lib.hid hm9
    have HL9 := Lib.hid ((HL11.out.below hb12).mono hb12.size)
    have HG9 := Lib.hid ((HGQ.out.below hb12).mono hb12.size)
    clear hb12 HSL HM11 HL11 HGQ
    have hltm : w.heap.size < w9.heap.size := hm9.lt
    have K : Hid (∀ W, Below w9.heap.size w9 W → W.cell? ⟨w.heap.size, 0, none⟩ = some (.int .i64 a.addr) ∧ W.cell? ⟨w.heap.size, 1, none⟩ = some (.int .i64 a.state) ∧ W.cell? ⟨w.heap.size, 2, none⟩ = some (.int .i64 a.till) ∧ W.cell? ⟨w.heap.size, 3, none⟩ = some (.string (ba a.key))) := fun W hW => cel4 (hm9.below hW hm9.lt)
    obtain ⟨⟨hal0', hl0⟩, ⟨halB', hlB, hLB⟩, hal1', halC', hlC, hLC⟩ := two_lits w9.drew a
    have hal0 : Below w9.heap.size w9 (w9.drew.alloc (.cells #[] 41)) := (Below.refl _ _).drew.trans hal0'
    have hal1 : Below w9.heap.size w9 (w9.drew.alloc (.cells (lcs a) 41)) := (Below.refl _ _).drew.trans hal1'
    have halB : Below w9.heap.size w9 ((w9.drew.alloc (.cells #[] 41)).alloc (.cells (lcs a) 41)) := (Below.refl _ _).drew.trans halB'
    have halC : Below w9.heap.size w9 ((w9.drew.alloc (.cells (lcs a) 41)).alloc (.cells #[] 41)) := (Below.refl _ _).drew.trans halC'
    have hk0 := HL9.out.below hal0
    have hkB := HL9.out.below halB
    have hkC := HL9.out.below halC
    have hsz9 : w9.drew.heap.size = w9.heap.size := rfl
    rw [hsz9] at hl0 hlB hLB hlC hLC
    clear hal0' hal1' halB' halC' hsz9 hm9
    go_wp2_with fail
    go_region_held3 (fun W => W.cell? ⟨w.heap.size, 0, none⟩ = some (.int .i64 a.addr) ∧ W.cell? ⟨w.heap.size, 1, none⟩ = some (.int .i64 a.state) ∧ W.cell? ⟨w.heap.size, 2, none⟩ = some (.int .i64 a.till) ∧ W.cell? ⟨w.heap.size, 3, none⟩ = some (.string (ba a.key)))
      (first
        | exact K.out _ (Below.refl _ _)
        | exact K.out _ (Below.refl _ _).drew
        | exact K.out _ hal0
        | exact K.out _ hal1
        | exact K.out _ halB
        | exact K.out _ halC
        | exact K.out _ hb7
        | exact K.out _ (hb7.trans ((alloc_more _ _).mono hb7.size))
        | exact K.out _ hb8
        | exact K.out _ hbu9
        | exact K.out _ hbx9)
      (first
        | (refine step_appG lesP (by decide) (by decide) (by kernel_rfl) (by rfl) (.tmp 88) (.tmp 89) (by rfl) (by rfl) hl0 (by rfl) hk0 (by omega) (by exact hal0.size) ?_; intro A7 c7 w7 happ7; have ho7 := happ7.1; simp only [Nat.zero_add, List.nil_append] at ho7; have hb7 : Below w9.heap.size w9 w7 := hal0.trans (happ7.2.1.mono (Nat.le_refl _)); have hl7 := litL w7 a; have hoa7 := ho7.below (alloc_more w7 (.cells (lcs a) 41)))
        | (refine step_appG lesP (by decide) (by decide) (by kernel_rfl) (by rfl) (.tmp 88) (.tmp 89) (by rfl) (by rfl) hlB (by rfl) hkB (by omega) (by exact halB.size) ?_; intro A7 c7 w7 happ7; have ho7r := happ7.1; have ho7 := happ7.1; simp only [Nat.zero_add, List.nil_append] at ho7; have hb7 : Below w9.heap.size w9 w7 := halB.trans (happ7.2.1.mono (Nat.le_refl _)); have hl7b := litL_blk hLB (happ7.2.2.1.block (w9.heap.size + 1) (by simp) (by simp [Value.ownBlock])))
        | (refine step_appG lesP (by decide) (by decide) (by kernel_rfl) (by rfl) (.tmp 88) (.tmp 89) (by rfl) (by rfl) hlC (by rfl) hkC (by omega) (by simp) ?_; intro A7 c7 w7 happ7; have ho7r := happ7.1.mono (B' := w9.heap.size) (by omega); have ho7 := happ7.1.mono (B' := w9.heap.size) (by omega); simp only [Nat.zero_add, List.nil_append] at ho7; have hb7 : Below w9.heap.size w9 w7 := halC.trans (happ7.2.1.mono (Nat.le_succ _)); have hl7b := litL_blk hLC (happ7.2.2.1.block w9.heap.size (by simp; omega) (by simp [Value.ownBlock])))
        | (refine step_appG lesP (by decide) (by decide) (by kernel_rfl) (by rfl) (.tmp 90) (.tmp 92) (by rfl) (by rfl) hoa7 (by rfl) hl7 (by omega) (by have := hb7.size; simp; omega) ?_; intro A8' c8' w8 happ8; have ho8 := happ8.1.rd; have hb8 : Below w9.heap.size w9 w8 := (hb7.trans ((alloc_more _ _).mono hb7.size)).trans happ8.2.1)
        | (refine step_appG lesP (by decide) (by decide) (by kernel_rfl) (by rfl) (.tmp 90) (.tmp 92) (by rfl) (by rfl) ho7r (by rfl) hl7b (by omega) (by exact hb7.size) ?_; intro A8' c8' w8 happ8; have ho8 := happ8.1.rd; simp only [Nat.zero_add, List.nil_append] at ho8; have hb8 : Below w9.heap.size w9 w8 := hb7.trans happ8.2.1)
        | (go_simp; go_at_call 11; refine (sameLeases_yes A8 n8 c8 A8' (ks.length + 1) c8' (ks ++ [a]) w8 ((HG9.out.below hb8).mono hb8.size) ho8).mono ?_; rintro ee wu ⟨rfl, hbu⟩; have hbu9 : Below w9.heap.size w9 wu := hb8.trans (hbu.mono hb8.size))
        | (go_simp; go_at_call 7; refine (knows_yes _).mono ?_; rintro ee wx ⟨rfl, hbx⟩; have hbx9 : Below w9.heap.size w9 wx := hbu9.trans (hbx.mono hbu9.size)))
    all_goals (
      go_wp2
      go_ret
      exact ⟨rfl, B9.out.trans (hbx9.mono B9.out.size)⟩)
end Go.Proofs.Ytogcmnpnhncjhaa
