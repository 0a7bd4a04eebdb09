/- The walk of CleanCuts: it returns true, and what was in memory stays. For all leases whose keys fit, any number of changes and any keeping. -/
import Derived.Test.YtlefpodonkdbeaaGreatLwKnows
import Derived.Test.YtlefpodonkdbeaaGreatLaGood
import Derived.Test.YtlefpodonkdbeaaGreatJwSame
import Derived.Test.YtlefpodonkdbeaaGreatJwOpen
import Derived.Test.YtlefpodonkdbeaaGreatDwD
import Derived.Test.YtlefpodonkdbeaaGreatRowA
import Derived.Deep.RegionHeld3
set_option maxRecDepth 8000
namespace Go.Proofs.YtlefpodonkdbeaaGreat
open Go.RowKit Co By Ky Rc Dk Jn Ew Jw La Lw
open Dw (ba ba_size ba_data ba_list Dv RdD Sm alloc_more cel3 good_sm intV crash_any)

theorem kinds_four {xs : List Cv} {ls : List L} (h : xs.map Cv.ch = fourC ls) : ∀ c ∈ xs, Kind5 c := by
  intro c hc
  have hm : c.ch ∈ fourC ls := by rw [← h]; exact List.mem_map_of_mem hc
  have hk : c.ch.kind = c.kind := rfl
  unfold Kind5
  rw [← hk]
  unfold fourC at hm
  simp only [List.mem_cons, List.not_mem_nil, or_false] at hm
  rcases hm with e | e | e | e <;> rw [e] <;> first | exact ⟨show (1 : Int) ≤ 1 by decide, show (1 : Int) ≤ 5 by decide⟩ | exact ⟨by decide, by decide⟩
theorem lneq_some (l m : L) : ∃ b, ∀ W, (binOp .neq 56 (lv l) (lv m)).run Tryz.prog W = .ok (.bool b) W := by
  have hS : Tryz.prog.underlying 56 = some (.struct (Tryz.prog.fieldsOf 56)) := by kernel_rfl
  have hp : Tryz.prog.stoodInHeld 56 = false := by kernel_rfl
  have u3 := Tryz.underlying3
  have a3 := Tryz.isAgg3
  have z3 := Tryz.sizeOf3
  have u9 := Tryz.underlying9
  have a9 := Tryz.isAgg9
  have z9 := Tryz.sizeOf9
  by_cases h1 : l.addr = m.addr
  · by_cases h2 : l.state = m.state
    · by_cases h3 : l.till = m.till
      · by_cases h4 : l.key = m.key
        · refine ⟨false, fun W => ?_⟩
          rw [run_neq_struct, show (10000 : Nat) = 9999 + 1 from rfl, run_equalIn_agg W 9999 56 _ _ hS hp]
          simp only [Program.fieldsOf, Tryz.underlying56, h1, h2, h3, h4]
          go_simp
        · refine ⟨true, fun W => ?_⟩
          rw [run_neq_struct, show (10000 : Nat) = 9999 + 1 from rfl, run_equalIn_agg W 9999 56 _ _ hS hp]
          simp only [Program.fieldsOf, Tryz.underlying56, h1, h2, h3]
          go_simp
          rw [ba_list, ba_list]
          exact h4
      · refine ⟨true, fun W => ?_⟩
        have b4 : (l.till == m.till) = false := by simpa using h3
        rw [run_neq_struct, show (10000 : Nat) = 9999 + 1 from rfl, run_equalIn_agg W 9999 56 _ _ hS hp]
        simp only [Program.fieldsOf, Tryz.underlying56, h1, h2]
        go_simp
    · refine ⟨true, fun W => ?_⟩
      have b4 : (l.state == m.state) = false := by simpa using h2
      rw [run_neq_struct, show (10000 : Nat) = 9999 + 1 from rfl, run_equalIn_agg W 9999 56 _ _ hS hp]
      simp only [Program.fieldsOf, Tryz.underlying56, h1]
      go_simp
  · refine ⟨true, fun W => ?_⟩
    have b4 : (l.addr == m.addr) = false := by simpa using h1
    rw [run_neq_struct, show (10000 : Nat) = 9999 + 1 from rfl, run_equalIn_agg W 9999 56 _ _ hS hp]
    simp only [Program.fieldsOf, Tryz.underlying56]
    go_simp
def SomeB (w : World) (e : Ending) (w' : World) : Prop := ∃ b : Bool, e = .returned (.bool b) ∧ Below w.heap.size w w'
set_option maxHeartbeats 1000000 in
theorem sameLeases_some (A : Option Addr) (n c : Nat) (A' : Option Addr) (n' c' : Nat) (l l' : List L) (w : World) (h : RdLs w.heap.size w A n c l) (h' : RdLs w.heap.size w A' n' c' l') :
    Calls Tryz.prog 10 #[.slice A n c, .slice A' n' c'] w (SomeB w) := by
  have hmx := h.max
  have hcap := h.cap
  have hmx' := h'.max
  have hcap' := h'.cap
  by_cases hne : n = n'
  rotate_left
  · exact (sameLeases_len A n c A' n' c' w (by omega) (by omega) hne).mono fun e w' hh => ⟨false, hh.1, hh.2⟩
  subst hne
  have HX := Lib.hid h
  have HY := Lib.hid h'
  clear h h'
  go_enter Tryz.func10, Tryz.ntmps10
  go_wp2
  go_loopw [5] (fun i wr => ∃ k : Nat, k ≤ n ∧ i = .int .i64 k ∧ Hid (Below w.heap.size w wr)) (fun i _ => n - (intOf i).toNat)
  case atStart => exact ⟨0, by omega, rfl, Below.refl _ _⟩
  case round =>
    obtain ⟨k, hk, rfl, HB⟩ := hrel
    by_cases hlt : k < n
    · obtain ⟨b, o, u, rfl, _, HE, d1, d2, d3, d4⟩ := atL (HX.out.below HB.out) hlt
      obtain ⟨b', o', u', rfl, _, HE', e1, e2, e3, e4⟩ := atL (HY.out.below HB.out) hlt
      have hkz : (k : Int) < (n : Int) := by omega
      obtain ⟨r, HQ⟩ := lneq_some u u'
      clear HE HE'
      cases r with
      | false =>
        go_wp2_with fail
        go_quiet (fail)
        go_wp2
        go_roundw
        case rel => exact ⟨k + 1, by omega, by go_num, below_drewN HB.out _⟩
        case measure => simp [intOf]; omega
      | true =>
        go_wp2_with fail
        go_quiet (fail)
        go_wp2
        go_ret
        exact ⟨false, rfl, below_drewN HB.out _⟩
    · obtain rfl : k = n := by omega
      go_wp2
      go_ret
      exact ⟨true, rfl, HB.out⟩

set_option maxHeartbeats 16000000 in
theorem cleanCuts_walk (A : Option Addr) (n c : Nat) (us : List L) (B : Option Addr) (nb cb : Nat) (ls : List L) (done : Int) (Ak : Option Addr) (nk ck : Nat) (keep : List Int) (dir : Bool) (w : World) (h : RdLs w.heap.size w A n c us) (hfk : ∀ a ∈ us, Fk a) (hb : RdLs w.heap.size w B nb cb ls) (hfb : ∀ a ∈ ls, Fk a) (hk : Rd w Ak nk ck (intV keep)) :
    Calls Tryz.prog 5 #[.slice A n c, .slice B nb cb, .int .i64 done, .slice Ak nk ck, .bool dir] w (isTrue w) := by
  have hcp := hk.cap
  have hmx := hk.max
  have hbcp := hb.cap
  have hbmx := hb.max
  have HG := Lib.hid (Lw.great_any B nb cb w.heap.size ls w hb hfb)
  cases hg : greatL ls with
  | true =>
    rw [hg] at HG
    clear hg h hfk hb hfb hk
    go_enter Tryz.func5, Tryz.ntmps5
    go_wp2_with fail
    refine HG.out.mono ?_
    rintro e w1 ⟨rfl, rfl⟩
    go_wp2_with fail
    refine (Lw.knows_yes _).mono ?_
    rintro e wz ⟨rfl, hbz⟩
    go_wp2
    go_ret
    exact ⟨rfl, hbz⟩
  | false =>
  rw [hg] at HG
  by_cases h20 : (nb : Int) > 20
  · skip
    clear hg h hfk hb hfb hk
    go_enter Tryz.func5, Tryz.ntmps5
    go_wp2_with fail
    refine HG.out.mono ?_
    rintro e w1 ⟨rfl, rfl⟩
    go_wp2_with fail
    refine (Lw.knows_yes _).mono ?_
    rintro e wz ⟨rfl, hbz⟩
    go_wp2
    go_ret
    exact ⟨rfl, hbz⟩
  by_cases h100 : (nk : Int) > 100
  · skip
    clear hg h hfk hb hfb hk
    go_enter Tryz.func5, Tryz.ntmps5
    go_wp2_with fail
    refine HG.out.mono ?_
    rintro e w1 ⟨rfl, rfl⟩
    go_wp2_with fail
    refine (Lw.knows_yes _).mono ?_
    rintro e wz ⟨rfl, hbz⟩
    go_wp2
    go_ret
    exact ⟨rfl, hbz⟩
  have HKP := Lib.hid (kept_any A n c us w h hfk)
  have HK := Lib.hid hk
  have hkr : ∀ a ∈ keptL us, RightR a := kept_right us 10
  have hln : (keptL us).length ≤ 10 := kept_len us 10
  have hsm : (framesJ (keptL us)).length ≤ 20000 := by have h1 := frames_small hkr; omega
  generalize keptL us = ks at HKP hkr hln hsm
  have HKR := Lib.hid hkr
  have HSMK := Lib.hid hsm
  have HSM := Lib.hid (good_sm (disk_right hsm))
  have HLB := Lib.hid hb
  have HFB := Lib.hid hfb
  have hnb : ls.length ≤ 20 := by have := hb.len; omega
  have HNB := Lib.hid hnb
  clear h hfk hk hb hfb hkr hsm hg hnb
  go_enter Tryz.func5, Tryz.ntmps5
  go_wp2_with fail
  refine HG.out.mono ?_
  rintro e w1 ⟨rfl, rfl⟩
  go_wp2_with fail
  refine HKP.out.mono ?_
  rintro e w3 ⟨z, A3, c3, rfl, hz, hrz, hl3, hb3⟩
  obtain ⟨w4, hw4⟩ : ∃ w4, w4 = w3.alloc (.cells z.cs 30) := ⟨_, rfl⟩
  have hb4 : Below w3.heap.size w3 w4 := by rw [hw4]; exact alloc_more _ _
  have hc4 : Cel w4 w3.heap.size 30 z.cs := by rw [hw4]; exact Cel.born _ _ _
  have B4 := Lib.hid (hb3.trans (hb4.mono hb3.size))
  have hz4 := (hrz.below hb4).mono hb4.size
  have hcg := changes_any z B nb cb ls w4 hz4 (by rw [hz]; exact HSM.out) ((HLB.out.below B4.out).mono B4.out.size) HFB.out
  rw [hz] at hcg
  have HC4 := Lib.hid hc4
  have HZ4 := Lib.hid hz4
  have HZ : Hid (z.d = diskJ ks) := hz
  have HL4 := Lib.hid ((hl3.below hb4).mono hb4.size)
  obtain ⟨d0, d1, d2⟩ := cel3 hc4
  rw [hw4] at d0 d1 d2
  by_cases hall : ∀ a ∈ ls, RightR a
  rotate_left
  · rw [show cleanC (diskJ ks) ls = ([], 1) from if_neg hall] at hcg
    have HCG := Lib.hid hcg
    clear hz hrz hl3 hb3 hb4 hc4 hz4 hcg hall HKP HC4 HZ4 HL4
    go_wp2_with fail
    rw [← hw4]
    clear hw4 d0 d1 d2
    refine HCG.out.mono ?_
    rintro e w5 ⟨A5, n5, c5, xs, rfl, hx5, he5, hb5⟩
    obtain rfl : n5 = 0 := by rw [← hx5.len, ← List.length_map (f := Cv.ch), he5]; rfl
    have B5 := Lib.hid (B4.out.trans (hb5.mono B4.out.size))
    clear hx5 he5 hb5 HCG
    go_wp2_with fail
    refine (Lw.knows_yes _).mono ?_
    rintro e wz ⟨rfl, hbz⟩
    go_wp2
    go_ret
    exact ⟨rfl, B5.out.trans (hbz.mono B5.out.size)⟩
  have hsl : (framesJ ls).length ≤ 20000 := by have h1 := frames_small hall; have h2 := HNB.out; omega
  rw [clean_disk HSMK.out hall hsl] at hcg
  have HHF := Lib.hid (clean_half HSMK.out hsl done)
  have HCM := Lib.hid (clean_cuts HKR.out hall HSMK.out hsl HHF.out keep dir)
  have HDG := Lib.hid (do_good (diskJ ks) (fourC ls) done)
  clear hsl HHF
  generalize hdc : doC (diskJ ks) (fourC ls) done = dc at HCM HDG
  have HDC := Lib.hid hdc
  clear hdc
  obtain ⟨xd, m⟩ := dc
  have HCG := Lib.hid hcg
  clear hz hrz hl3 hb3 hb4 hc4 hz4 hcg hall HKP
  go_wp2_with fail
  rw [← hw4]
  clear hw4 d0 d1 d2
  refine HCG.out.mono ?_
  rintro e w5 ⟨A5, n5, c5, xs, rfl, hx5, he5, hb5⟩
  obtain rfl : n5 = 4 := by rw [← hx5.len, ← List.length_map (f := Cv.ch), he5]; rfl
  have hz5 := (HZ4.out.below hb5).mono hb5.size
  have hdo := doJ_any z A5 4 c5 xs done w5 hz5 (by rw [HZ.out]; exact HSM.out) hx5 (kinds_four he5)
  rw [HZ.out, he5, HDC.out] at hdo
  have HDO := Lib.hid hdo
  have B5 := Lib.hid (B4.out.trans (hb5.mono B4.out.size))
  have HC5 := HC4.out.below hb5 HC4.out.lt
  have HL5 := Lib.hid ((HL4.out.below hb5).mono hb5.size)
  have h5c := hx5.1.cap
  have h5m := hx5.1.max
  obtain ⟨d0, d1, d2⟩ := cel3 HC5
  clear hx5 he5 hb5 hz5 hdo HC5 HCG HC4 HZ4 HL4 HDC HZ HSM
  go_wp2_with fail
  refine HDO.out.mono ?_
  rintro e w6 ⟨x, rfl, hx, hrx, hb6⟩
  obtain ⟨w7, hw7⟩ : ∃ w7, w7 = w6.alloc (.cells x.cs 30) := ⟨_, rfl⟩
  have hb7 : Below w6.heap.size w6 w7 := by rw [hw7]; exact alloc_more _ _
  have hc7 : Cel w7 w6.heap.size 30 x.cs := by rw [hw7]; exact Cel.born _ _ _
  have hb57 := hb6.trans (hb7.mono hb6.size)
  have B7 := Lib.hid (B5.out.trans (hb57.mono B5.out.size))
  have HL7 := Lib.hid ((HL5.out.below hb57).mono hb57.size)
  have hcr := crash_any x Ak nk ck keep dir w7 ((hrx.below hb7).mono hb7.size) (by rw [hx]; exact good_sm HDG.out) (HK.out.below B7.out)
  rw [hx] at hcr
  have HCR := Lib.hid hcr
  obtain ⟨d0, d1, d2⟩ := cel3 hc7
  rw [hw7] at d0 d1 d2
  have hcg := crash_good xd keep dir
  have hog := open_good (crashK xd keep dir)
  generalize crashK xd keep dir = cd at HCR HCM hcg hog
  have HCGD := Lib.hid (good_sm hcg)
  have HOG := Lib.hid (good_sm hog)
  clear hx hrx hb6 hb7 hc7 hb57 hcr HDO HL5 HDG hcg hog
  go_wp2_with fail
  rw [← hw7]
  clear hw7 d0 d1 d2
  refine HCR.out.mono ?_
  rintro e w8 ⟨y0, rfl, hy0, hry0, hb8⟩
  have B8 := Lib.hid (B7.out.trans (hb8.mono B7.out.size))
  have HL8 := Lib.hid ((HL7.out.below hb8).mono hb8.size)
  have hop := openJ_any y0 w8 hry0 (by rw [hy0]; exact HCGD.out)
  rw [hy0] at hop
  generalize openJ cd = od at hop HCM HOG
  obtain ⟨od, oe⟩ := od
  have HOP := Lib.hid hop
  clear hy0 hry0 hb8 hop HCR HL7 HCGD
  go_wp2_with fail
  refine HOP.out.mono ?_
  rintro e w9 ⟨y, rfl, hy, hry, hb9⟩
  obtain ⟨w10, hw10⟩ : ∃ w10, w10 = w9.alloc (.cells y.cs 30) := ⟨_, rfl⟩
  have hb10 : Below w9.heap.size w9 w10 := by rw [hw10]; exact alloc_more _ _
  have hc10 : Cel w10 w9.heap.size 30 y.cs := by rw [hw10]; exact Cel.born _ _ _
  have hb810 := hb9.trans (hb10.mono hb9.size)
  have B10 := Lib.hid (B8.out.trans (hb810.mono B8.out.size))
  have HL10 := Lib.hid ((HL8.out.below hb810).mono hb810.size)
  have hrd := readJ_any y w10 ((hry.below hb10).mono hb10.size) (by rw [hy]; exact HOG.out)
  rw [hy] at hrd
  simp only at hrd HCM
  generalize readD od = gd at hrd HCM
  obtain ⟨gl, gn, ge⟩ := gd
  have HRD := Lib.hid hrd
  obtain ⟨d0, d1, d2⟩ := cel3 hc10
  rw [hw10] at d0 d1 d2
  obtain ⟨he1, he2, hgl⟩ := HCM.out
  simp only at he1 he2 hgl
  subst he1 he2
  have HGL := Lib.hid hgl
  clear hy hry hb9 hb10 hc10 hb810 hrd HOP HL8 HOG HCM hgl
  go_wp2_with fail
  rw [← hw10]
  clear hw10 d0 d1 d2
  refine HRD.out.mono ?_
  rintro e w11 ⟨A8, n8, c8, rfl, hl8, hb11⟩
  have B11 := Lib.hid (B10.out.trans (hb11.mono B10.out.size))
  have HL11 := Lib.hid ((HL10.out.below hb11).mono hb11.size)
  have HB11 := Lib.hid ((HLB.out.below B11.out).mono B11.out.size)
  have HG11 := Lib.hid (show RdLs w11.heap.size w11 A8 n8 c8 gl from hl8)
  have h8c := hl8.cap
  have h8m := hl8.max
  have h3c := HL11.out.cap
  have h3m := HL11.out.max
  clear hl8 hb11 HRD HL10
  by_cases hm : 4 ≤ m
  · have hgl : gl = ls := by
      rcases HGL.out with e | ⟨_, k⟩
      · exact e
      · omega
    have HQ := HG11.out
    rw [hgl] at HQ
    have HSL := Lib.hid (sameLeases_yes A8 n8 c8 B nb cb ls w11 HQ HB11.out)
    have hmz : (m : Int) ≥ 4 := by omega
    clear HQ hgl HGL hm
    go_wp2_with fail
    refine HSL.out.mono ?_
    rintro e w12 ⟨rfl, hb12⟩
    have B12 := Lib.hid (B11.out.trans (hb12.mono B11.out.size))
    clear hb12
    go_wp2_with fail
    refine (Lw.knows_yes _).mono ?_
    rintro e wz ⟨rfl, hbz⟩
    go_wp2
    go_ret
    exact ⟨rfl, B12.out.trans (hbz.mono B12.out.size)⟩
  have hmz : ¬ (m : Int) ≥ 4 := by omega
  clear hm
  rcases HGL.out with hgl | ⟨hgl, _⟩
  · have HQ := HG11.out
    rw [hgl] at HQ
    have HSS := Lib.hid (sameLeases_some A8 n8 c8 A3 ks.length c3 ls ks w11 HQ HL11.out)
    have HQQ := Lib.hid HQ
    clear HQ hgl HGL
    go_wp2_with fail
    refine HSS.out.mono ?_
    rintro e w12 ⟨r, rfl, hb12⟩
    have B12 := Lib.hid (B11.out.trans (hb12.mono B11.out.size))
    cases r with
    | true =>
      clear hb12
      go_wp2_with fail
      refine (Lw.knows_yes _).mono ?_
      rintro e wz ⟨rfl, hbz⟩
      go_wp2
      go_ret
      exact ⟨rfl, B12.out.trans (hbz.mono B12.out.size)⟩
    | false =>
      have HSL := Lib.hid (sameLeases_yes A8 n8 c8 B nb cb ls w12 ((HQQ.out.below hb12).mono hb12.size) ((HB11.out.below hb12).mono hb12.size))
      clear hb12
      go_wp2_with fail
      refine HSL.out.mono ?_
      rintro e w13 ⟨rfl, hb13⟩
      have B13 := Lib.hid (B12.out.trans (hb13.mono B12.out.size))
      clear hb13
      go_wp2_with fail
      refine (Lw.knows_yes _).mono ?_
      rintro e wz ⟨rfl, hbz⟩
      go_wp2
      go_ret
      exact ⟨rfl, B13.out.trans (hbz.mono B13.out.size)⟩
  · have HQ := HG11.out
    rw [hgl] at HQ
    have HSL := Lib.hid (sameLeases_yes A8 n8 c8 A3 ks.length c3 ks w11 HQ HL11.out)
    clear HQ hgl HGL
    go_wp2_with fail
    refine HSL.out.mono ?_
    rintro e w12 ⟨rfl, hb12⟩
    have B12 := Lib.hid (B11.out.trans (hb12.mono B11.out.size))
    clear hb12
    go_wp2_with fail
    refine (Lw.knows_yes _).mono ?_
    rintro e wz ⟨rfl, hbz⟩
    go_wp2
    go_ret
    exact ⟨rfl, B12.out.trans (hbz.mono B12.out.size)⟩
end Go.Proofs.YtlefpodonkdbeaaGreat
