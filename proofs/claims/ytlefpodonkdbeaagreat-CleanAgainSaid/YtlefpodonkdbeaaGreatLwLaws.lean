/- The walks of CleanLasts, CleanAgain and CleanDue: each returns true, and what was in memory stays. For all leases whose keys fit and all disks whose names fit. -/
import Derived.Test.YtlefpodonkdbeaaGreatLwKnows
import Derived.Test.YtlefpodonkdbeaaGreatJwSame
import Derived.Test.YtlefpodonkdbeaaGreatDwAs
import Derived.Deep.RegionHeld3
set_option maxRecDepth 8000
namespace Go.Proofs.YtlefpodonkdbeaaGreat
open Go.RowKit Co By Ky Rc Dk Jn Ew Jw La Lw
open Dw (ba ba_size ba_data ba_list Dv RdD Sm alloc_more Vd as_any cel3)

set_option maxHeartbeats 2000000 in
theorem cleanLasts_walk (A : Option Addr) (n c : Nat) (ls : List L) (w : World) (h : RdLs w.heap.size w A n c ls) (hfk : ∀ a ∈ ls, Fk a) :
    Calls Tryz.prog 3 #[.slice A n c] w (isTrue w) := by
  have HG := Lib.hid (Lw.great_any A n c w.heap.size ls w h hfk)
  have hl := h.len
  have hcp := h.cap
  have hmx := h.max
  cases hg : greatL ls with
  | true =>
    rw [hg] at HG
    clear hg h hfk hl
    go_enter Tryz.func3, Tryz.ntmps3
    go_wp2_with fail
    refine HG.out.mono ?_
    rintro e w1 ⟨rfl, rfl⟩
    go_wp2_with fail
    refine (Lw.knows_yes _).mono ?_
    rintro e wz ⟨rfl, hbz⟩
    go_wp2
    go_ret
    exact ⟨rfl, hbz⟩
  | false =>
    obtain ⟨hs, _⟩ := small_of hg
    rw [hg] at HG
    have hn : n ≤ 200 := by omega
    have hlit := litL0 w
    have hba : Below w.heap.size w (w.alloc (.cells #[] 56)) := alloc_more _ _
    have hrd := (h.below hba)
    have HX := Lib.hid h
    clear hg h hfk hl hs
    go_enter Tryz.func3, Tryz.ntmps3
    go_wp2_with fail
    refine HG.out.mono ?_
    rintro e w1 ⟨rfl, rfl⟩
    go_wp2_with (at_builtin; refine wpList_appG lesP (by decide) (by decide) (by kernel_rfl) rfl (.tmp 6) (.tmp 7) rfl rfl hlit rfl hrd (by omega) (by simp) ?_; intro A8 c8 w8 happ; have ho8 := happ.1; simp only [Nat.zero_add, List.nil_append] at ho8)
    have B8 := Lib.hid (hba.trans happ.2.1)
    have HLA := Lib.hid (last_any A8 n c8 w8.heap.size ls w8 ho8.rd (Nat.le_refl _) (by omega))
    clear happ ho8 hlit hba hrd HG
    refine HLA.out.mono ?_
    rintro e w9 ⟨A9, n9, c9, rfl, ho9, hb9⟩
    have B9 := Lib.hid (B8.out.trans (hb9.mono B8.out.size))
    have HO9 := Lib.hid ho9.rd
    have HRL := Lib.hid (refLast_any A n c ls w9 ((HX.out.below B9.out).mono B9.out.size) (by omega))
    clear ho9 hb9 HLA
    go_wp2_with fail
    refine HRL.out.mono ?_
    rintro e w11 ⟨A11, n11, c11, rfl, ho11, hb11⟩
    have B11 := Lib.hid (B9.out.trans (hb11.mono B9.out.size))
    have HSL := Lib.hid (sameLeases_yes A9 n9 c9 A11 n11 c11 (lastL ls) w11 ((HO9.out.below hb11).mono hb11.size) ho11.rd)
    clear ho11 hb11 HRL HO9
    go_wp2_with fail
    refine HSL.out.mono ?_
    rintro e w12 ⟨rfl, hb12⟩
    have B12 := Lib.hid (B11.out.trans (hb12.mono B11.out.size))
    clear hb12 HSL
    go_wp2_with fail
    refine (Lw.knows_yes _).mono ?_
    rintro e wz ⟨rfl, hbz⟩
    go_wp2
    go_ret
    exact ⟨rfl, B12.out.trans (hbz.mono B12.out.size)⟩
set_option maxHeartbeats 4000000 in
theorem cleanAgain_walk (A : Option Addr) (n c : Nat) (ls : List L) (w : World) (h : RdLs w.heap.size w A n c ls) (hfk : ∀ a ∈ ls, Fk a) :
    Calls Tryz.prog 6 #[.slice A n c] w (isTrue w) := by
  have HG := Lib.hid (Lw.great_any A n c w.heap.size ls w h hfk)
  have hl := h.len
  have hcp := h.cap
  have hmx := h.max
  cases hg : greatL ls with
  | true =>
    rw [hg] at HG
    clear hg h hfk hl
    go_enter Tryz.func6, Tryz.ntmps6
    go_wp2_with fail
    refine HG.out.mono ?_
    rintro e w1 ⟨rfl, rfl⟩
    go_wp2_with fail
    refine (Lw.knows_yes _).mono ?_
    rintro e wz ⟨rfl, hbz⟩
    go_wp2
    go_ret
    exact ⟨rfl, hbz⟩
  | false =>
    obtain ⟨hs, _⟩ := small_of hg
    rw [hg] at HG
    have hn : n ≤ 200 := by omega
    have HLL : Hid ((lastL ls).length ≤ 200) := Nat.le_trans (last_len ls) hs
    have HAA := Lib.hid (last_last ls)
    have HAB := Lib.hid (last_behind ls)
    have hlit := litL0 w
    have hba : Below w.heap.size w (w.alloc (.cells #[] 56)) := alloc_more _ _
    have hrd := (h.below hba)
    have HX := Lib.hid h
    clear hg h hfk hl hs
    go_enter Tryz.func6, Tryz.ntmps6
    go_wp2_with fail
    refine HG.out.mono ?_
    rintro e w1 ⟨rfl, rfl⟩
    go_wp2_with (at_builtin; refine wpList_appG lesP (by decide) (by decide) (by kernel_rfl) rfl (.tmp 9) (.tmp 10) rfl rfl hlit rfl hrd (by omega) (by simp) ?_; intro A8 c8 w8 happ; have ho8 := happ.1; simp only [Nat.zero_add, List.nil_append] at ho8)
    have B8 := Lib.hid (hba.trans happ.2.1)
    have HLA := Lib.hid (last_any A8 n c8 w8.heap.size ls w8 ho8.rd (Nat.le_refl _) (by omega))
    clear happ ho8 hlit hba hrd HG
    refine HLA.out.mono ?_
    rintro e w9 ⟨A9, n9, c9, rfl, ho9, hb9⟩
    have B9 := Lib.hid (B8.out.trans (hb9.mono B8.out.size))
    have hn9 : n9 ≤ 200 := by have e1 : (lastL ls).length = n9 := ho9.2; have e2 := HLL.out; omega
    have HO9 := Lib.hid ho9.rd
    have hcp9 := ho9.rd.cap
    have hmx9 := ho9.rd.max
    have hlit := litL0 w9
    have hba : Below w9.heap.size w9 (w9.alloc (.cells #[] 56)) := alloc_more _ _
    have hrd := HO9.out.below hba
    clear ho9 hb9 HLA
    go_wp2_with (at_builtin; refine wpList_appG lesP (by decide) (by decide) (by kernel_rfl) rfl (.tmp 13) (.tmp 14) rfl rfl hlit rfl hrd (by omega) (by simp) ?_; intro A12 c12 w12 happ; have ho12 := happ.1; simp only [Nat.zero_add, List.nil_append] at ho12)
    have hb12 := hba.trans happ.2.1
    have B12 := Lib.hid (B9.out.trans (hb12.mono B9.out.size))
    have HO12 := Lib.hid ((HO9.out.below hb12).mono hb12.size)
    have hla := last_any A12 n9 c12 w12.heap.size (lastL ls) w12 ho12.rd (Nat.le_refl _) (by omega)
    rw [HAA.out] at hla
    have HLA := Lib.hid hla
    clear happ ho12 hlit hba hrd hb12 hla HO9
    refine HLA.out.mono ?_
    rintro e w13 ⟨A13, n13, c13, rfl, ho13, hb13⟩
    have B13 := Lib.hid (B12.out.trans (hb13.mono B12.out.size))
    have HO13 := Lib.hid ((HO12.out.below hb13).mono hb13.size)
    have HP13 := Lib.hid ho13.rd
    have hcp13 := ho13.rd.cap
    have hmx13 := ho13.rd.max
    have hlit := litL0 w13
    have hba : Below w13.heap.size w13 (w13.alloc (.cells #[] 56)) := alloc_more _ _
    have hrd := (HX.out.below B13.out).below (hba.mono B13.out.size)
    have hrd2 := HO13.out.below hba
    clear ho13 hb13 HLA HO12
    go_wp2_with (first
      | (at_builtin; refine wpList_appG lesP (by decide) (by decide) (by kernel_rfl) rfl (.tmp 17) (.tmp 18) rfl rfl hlit rfl hrd (by omega) (by simp) ?_; intro A19 c19 w19 happ; have ho19 := happ.1; simp only [Nat.zero_add, List.nil_append] at ho19; have hb19 := hba.trans happ.2.1; have hrd19 := HO13.out.below hb19)
      | (at_builtin; refine wpList_appG lesP (by decide) (by decide) (by kernel_rfl) rfl (.tmp 19) (.tmp 20) rfl rfl ho19 rfl hrd19 (by omega) hb19.size ?_; intro A21 c21 w21 happ21))
    have hb21 := hb19.trans happ21.2.1
    have B21 := Lib.hid (B13.out.trans (hb21.mono B13.out.size))
    have HO21 := Lib.hid ((HO13.out.below hb21).mono hb21.size)
    have HP21 := Lib.hid ((HP13.out.below hb21).mono hb21.size)
    have hla := last_any A21 (n + n9) c21 w21.heap.size (ls ++ lastL ls) w21 happ21.1.rd (Nat.le_refl _) (by omega)
    rw [HAB.out] at hla
    have HLA := Lib.hid hla
    clear happ ho19 hlit hba hrd hrd2 hb19 hrd19 happ21 hb21 hla HO13 HP13
    refine HLA.out.mono ?_
    rintro e w22 ⟨A22, n22, c22, rfl, ho22, hb22⟩
    have B22 := Lib.hid (B21.out.trans (hb22.mono B21.out.size))
    have HO22 := Lib.hid ((HO21.out.below hb22).mono hb22.size)
    have HP22 := Lib.hid ((HP21.out.below hb22).mono hb22.size)
    have HQ22 := Lib.hid ho22.rd
    have HSL := Lib.hid (sameLeases_yes A9 n9 c9 A13 n13 c13 (lastL ls) w22 HO22.out HP22.out)
    clear ho22 hb22 HLA HO21 HP21
    go_wp2_with fail
    refine HSL.out.mono ?_
    rintro e w25 ⟨rfl, hb25⟩
    have B25 := Lib.hid (B22.out.trans (hb25.mono B22.out.size))
    have HSL2 := Lib.hid (sameLeases_yes A9 n9 c9 A22 n22 c22 (lastL ls) w25 ((HO22.out.below hb25).mono hb25.size) ((HQ22.out.below hb25).mono hb25.size))
    clear hb25 HSL HO22 HP22 HQ22
    go_wp2_with fail
    refine HSL2.out.mono ?_
    rintro e w29 ⟨rfl, hb29⟩
    have B29 := Lib.hid (B25.out.trans (hb29.mono B25.out.size))
    clear hb29 HSL2
    go_wp2_with fail
    refine (Lw.knows_yes _).mono ?_
    rintro e wz ⟨rfl, hbz⟩
    go_wp2
    go_ret
    exact ⟨rfl, B29.out.trans (hbz.mono B29.out.size)⟩
set_option maxHeartbeats 4000000 in
theorem cleanDue_walk (x : Dv) (many : Int) (w : World) (h : RdD w.heap.size w x) (hsm : Sm x.d) :
    Calls Tryz.prog 4 #[x.v, .int .i64 many] w (isTrue w) := by
  obtain ⟨w1, hw1⟩ : ∃ w1, w1 = w.alloc (.cells x.cs 30) := ⟨_, rfl⟩
  have V1 : Vd (w.heap.size + 1) w1 w.heap.size x := by rw [hw1]; exact Vd.born h
  have hs1 : w1.heap.size = w.heap.size + 1 := by rw [hw1]; simp
  have hb1 : Below w.heap.size w w1 := by rw [hw1]; exact alloc_more _ _
  have HGR := Lib.hid (Dw.great_any x w1 (V1.r.mono (by omega)))
  have HV1 := Lib.hid V1
  have B1 := Lib.hid hb1
  have HS1 := Lib.hid hs1
  have HSM := Lib.hid hsm
  obtain ⟨q0, q1, q2⟩ := cel3 V1.c
  rw [hw1] at q0 q1 q2
  clear h hsm V1 hb1 hs1
  go_enter Tryz.func4, Tryz.ntmps4
  go_wp2_with fail
  rw [← hw1]
  clear hw1 q0 q1 q2
  refine HGR.out.mono ?_
  rintro e w2 ⟨gr, rfl, hgr, hb2⟩
  have B2 := Lib.hid (B1.out.trans (hb2.mono B1.out.size))
  have HV2 := Lib.hid (HV1.out.below (hb2.mono (by have := HS1.out; omega)))
  have HS2 := Lib.hid (show w.heap.size + 1 ≤ w2.heap.size by have := HS1.out; have := hb2.size; omega)
  clear hb2 HGR
  cases gr with
  | true =>
    clear hgr
    go_wp2_with fail
    refine (Lw.knows_yes _).mono ?_
    rintro e wz ⟨rfl, hbz⟩
    go_wp2
    go_ret
    exact ⟨rfl, B2.out.trans (hbz.mono B2.out.size)⟩
  | false =>
  obtain ⟨_, hg2, hg3, hg4⟩ := hgr rfl
  have hx2 := HV2.out.r.mono HS2.out
  have HD : Hid (∀ W, Below w2.heap.size w2 W → Calls Tryz.prog 14 #[x.v, .int .i64 many] W fun e w' => e = .returned (.bool (dueD x.d many)) ∧ Below w2.heap.size w2 w' ∧ Below W.heap.size W w') := fun W hW =>
    (due_any x many W ((hx2.below hW).mono hW.size) HSM.out).mono fun e w' hh => ⟨hh.1, hW.trans (hh.2.mono hW.size), hh.2⟩
  have HAS : Hid (∀ W, Below w2.heap.size w2 W → Calls Tryz.prog 16 #[x.v] W fun e w' => ∃ y : Dv, e = .returned y.v ∧ y.d = x.d ∧ RdD w'.heap.size w' y ∧ Below w2.heap.size w2 w') := fun W hW =>
    (as_any x W ((hx2.below hW).mono hW.size) (by omega) (by omega) (by omega)).mono fun e w' ⟨y, he, hy, hr, hb⟩ => ⟨y, he, hy, hr, hW.trans (hb.mono hW.size)⟩
  have HRD : Hid (∀ (y : Dv) (W : World), y.d = x.d → Below w2.heap.size w2 W → RdD W.heap.size W y → Calls Tryz.prog 15 #[y.v, .int .i64 many] W fun e w' => e = .returned (.bool (dueD x.d many)) ∧ Below w2.heap.size w2 w') := fun y W hy hW hr => by
    have := (refDue_any y many W hr (by rw [hy]; exact HSM.out)).mono fun e w' hh => (⟨hh.1, hW.trans (hh.2.mono hW.size)⟩ : e = .returned (.bool (dueD y.d many)) ∧ Below w2.heap.size w2 w')
    rwa [hy] at this
  generalize dueD x.d many = q at HD HRD
  have K : Hid (∀ W, Below w2.heap.size w2 W → W.cell? ⟨w.heap.size, 0, none⟩ = some (.slice x.fA x.fn x.fc) ∧ W.cell? ⟨w.heap.size, 1, none⟩ = some (.slice x.nA x.nn x.nc) ∧ W.cell? ⟨w.heap.size, 2, none⟩ = some (.slice x.kA x.kn x.kc)) := fun W hW => cel3 (HV2.out.c.below hW HV2.out.c.lt)
  have hqq : (q == q) = true := by simp
  clear hgr hg2 hg3 hg4 hx2 HV1 HV2
  go_wp2_with fail
  go_region_held3 (fun W => W.cell? ⟨w.heap.size, 0, none⟩ = some (.slice x.fA x.fn x.fc) ∧ W.cell? ⟨w.heap.size, 1, none⟩ = some (.slice x.nA x.nn x.nc) ∧ W.cell? ⟨w.heap.size, 2, none⟩ = some (.slice x.kA x.kn x.kc))
    (first
      | exact K.out _ (Below.refl _ _)
      | exact K.out _ (Below.refl _ _).drew
      | exact K.out _ hbd9
      | exact K.out _ hba9
      | exact K.out _ hbr9
      | exact K.out _ hbx9)
    (first
      | (go_simp; go_at_call 14; (with_reducible refine (HD.out _ (by first | exact Below.refl _ _ | exact (Below.refl _ _).drew | exact hba9 | exact hbr9)).mono ?_); rintro ee wd ⟨rfl, hbd9, hbdW⟩)
      | (go_simp; go_at_call 16; (with_reducible refine (HAS.out _ (by first | exact Below.refl _ _ | exact (Below.refl _ _).drew | exact hbd9)).mono ?_); rintro ee wa ⟨y, rfl, hy, hry, hba9⟩)
      | (go_simp; go_at_call 15; (with_reducible refine (HRD.out y _ hy (by first | exact hba9 | exact hbd9) (by first | exact hry | exact (hry.below hbdW).mono hbdW.size)).mono ?_); rintro ee wr ⟨rfl, hbr9⟩)
      | (go_simp; go_at_call 9; refine (Lw.knows_yes _).mono ?_; rintro ee wx ⟨rfl, hbx⟩; have hbx9 : Below w2.heap.size w2 wx := by first | exact hbr9.trans (hbx.mono hbr9.size) | exact hbd9.trans (hbx.mono hbd9.size)))
  all_goals (
    go_wp2
    go_ret
    exact ⟨rfl, B2.out.trans (hbx9.mono B2.out.size)⟩)
end Go.Proofs.YtlefpodonkdbeaaGreat
