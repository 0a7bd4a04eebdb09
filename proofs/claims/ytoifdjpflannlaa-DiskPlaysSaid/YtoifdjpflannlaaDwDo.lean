/- What boarderlaw08's do comes to: an act is done. For all disks whose names fit. -/
import Derived.Test.YtoifdjpflannlaaDwAct
import Derived.Deep.RegionHeld3
set_option maxRecDepth 8000
namespace Go.Proofs.Ytoifdjpflannlaa.Dw
open Go.RowKit By Dk

def doK (d : D) (a : Av) : D × Int :=
  if a.kind = 0 then appendK d a.name a.b else if a.kind = 1 then syncK d a.name else if a.kind = 2 then cutK d a.name a.n else if a.kind = 3 then renameK d a.name a.tn else if a.kind = 4 then removeK d a.name else if a.kind = 5 then (syncDirK d, 0) else (crashK d a.keep a.dir, 0)
set_option maxHeartbeats 4000000 in
theorem do_any (x : Dv) (a : Av) (w : World) (h : RdD w.heap.size w x) (hsm : Sm x.d) (hok : OkA w a) (hbl : a.b.length ≤ 30000) :
    Calls Try.prog 13 #[x.v, a.v] w (DE w (doK x.d a)) := by
  obtain ⟨w1, hw1⟩ : ∃ w1, w1 = ((w.alloc (.cells x.cs 25)).alloc (.cells #[.int .i64 a.kind, .int .i64 a.n, .string (ba a.name), .string (ba a.tn), .slice a.bA a.b.length a.bc, .slice a.kA a.keep.length a.kc, .bool a.dir] 38)).alloc (.cells #[.slice none 0 0, .slice none 0 0, .slice none 0 0] 25) := ⟨_, rfl⟩
  have hb1 : Below w.heap.size w w1 := by rw [hw1]; exact ((alloc_more _ _).alloc (by simp) _).alloc (by simp; omega) _
  have hs1 : w1.heap.size = w.heap.size + 3 := by rw [hw1]; simp
  have hc0 : Cel w1 w.heap.size 25 x.cs := by rw [hw1]; exact (Cel.born w _ _).below ((alloc_more _ _).trans ((alloc_more _ _).mono (by simp))) (by simp)
  have hca : Cel w1 (w.heap.size + 1) 38 #[.int .i64 a.kind, .int .i64 a.n, .string (ba a.name), .string (ba a.tn), .slice a.bA a.b.length a.bc, .slice a.kA a.keep.length a.kc, .bool a.dir] := by
    rw [hw1]
    have := (Cel.born (w.alloc (.cells x.cs 25)) 38 #[.int .i64 a.kind, .int .i64 a.n, .string (ba a.name), .string (ba a.tn), .slice a.bA a.b.length a.bc, .slice a.kA a.keep.length a.kc, .bool a.dir]).below (alloc_more _ (.cells #[.slice none 0 0, .slice none 0 0, .slice none 0 0] 25)) (by simp)
    simpa using this
  have hcr : Cel w1 (w.heap.size + 1 + 1) 25 #[.slice none 0 0, .slice none 0 0, .slice none 0 0] := by
    rw [hw1]
    have := Cel.born ((w.alloc (.cells x.cs 25)).alloc (.cells #[.int .i64 a.kind, .int .i64 a.n, .string (ba a.name), .string (ba a.tn), .slice a.bA a.b.length a.bc, .slice a.kA a.keep.length a.kc, .bool a.dir] 38)) 25 #[.slice none 0 0, .slice none 0 0, .slice none 0 0]
    simpa using this
  obtain ⟨q0, q1, q2⟩ := cel3 hc0
  have a0 : w1.cell? ⟨w.heap.size + 1, 0, none⟩ = some (.int .i64 a.kind) := by rw [hca.cell]; rfl
  have a1 : w1.cell? ⟨w.heap.size + 1, 1, none⟩ = some (.int .i64 a.n) := by rw [hca.cell]; rfl
  have a2 : w1.cell? ⟨w.heap.size + 1, 2, none⟩ = some (.string (ba a.name)) := by rw [hca.cell]; rfl
  have a3 : w1.cell? ⟨w.heap.size + 1, 3, none⟩ = some (.string (ba a.tn)) := by rw [hca.cell]; rfl
  have a4 : w1.cell? ⟨w.heap.size + 1, 4, none⟩ = some (.slice a.bA a.b.length a.bc) := by rw [hca.cell]; rfl
  have a5 : w1.cell? ⟨w.heap.size + 1, 5, none⟩ = some (.slice a.kA a.keep.length a.kc) := by rw [hca.cell]; rfl
  have a6 : w1.cell? ⟨w.heap.size + 1, 6, none⟩ = some (.bool a.dir) := by rw [hca.cell]; rfl
  have HR := Lib.hid ((h.below hb1).mono hb1.size)
  have HSM := Lib.hid hsm
  have HOK := Lib.hid (hok.below hb1)
  have HCR := Lib.hid hcr
  have HB1 := Lib.hid hb1
  have hlt0 : w.heap.size < w1.heap.size := by omega
  have hlt1 : w.heap.size + 1 < w1.heap.size := by omega
  have hlt2 : w.heap.size + 1 + 1 < w1.heap.size := by omega
  clear h hsm hok hc0 hca hcr hb1 hs1
  go_enter Try.func13, Try.ntmps13
  by_cases k0 : a.kind = 0
  · have H : Hid (doK x.d a = appendK x.d a.name a.b) := if_pos k0
    have HBa := Lib.hid HOK.out.b
    have hltr : w.heap.size < w1.heap.size := by omega
    have hlta : w.heap.size + 1 < w1.heap.size := by omega
    have b0 : (a.kind == 0) = true := by simpa using k0
    have hb1 := HOK.out.b.cap
    have hb2 := HOK.out.b.max
    have HAP : Hid (∀ W A c, Below w1.heap.size w1 W → Bs W A a.b.length c a.b → Calls Try.prog 23 #[.agg #[.slice x.fA x.fn x.fc, .slice x.nA x.nn x.nc, .slice x.kA x.kn x.kc], .string (ba a.name), .slice A a.b.length c] W (DE W (appendK x.d a.name a.b))) := fun W A c hW hbs => append_any x a.name A a.b.length c a.b W ((HR.out.below hW).mono hW.size) HSM.out HOK.out.s hbs (by omega)
    have K : Hid (∀ W, Below w1.heap.size w1 W → W.cell? ⟨w.heap.size, 0, none⟩ = some (.slice x.fA x.fn x.fc) ∧ W.cell? ⟨w.heap.size, 1, none⟩ = some (.slice x.nA x.nn x.nc) ∧ W.cell? ⟨w.heap.size, 2, none⟩ = some (.slice x.kA x.kn x.kc) ∧ W.cell? ⟨w.heap.size + 1, 2, none⟩ = some (.string (ba a.name)) ∧ W.cell? ⟨w.heap.size + 1, 4, none⟩ = some (.slice a.bA a.b.length a.bc)) := fun W hW => ⟨(hW.cell (p := ⟨w.heap.size, 0, none⟩) hltr).trans q0, (hW.cell (p := ⟨w.heap.size, 1, none⟩) hltr).trans q1, (hW.cell (p := ⟨w.heap.size, 2, none⟩) hltr).trans q2, (hW.cell (p := ⟨w.heap.size + 1, 2, none⟩) hlta).trans a2, (hW.cell (p := ⟨w.heap.size + 1, 4, none⟩) hlta).trans a4⟩
    have KP : Hid (∀ (W : World) (a' b' c' : Value), (W.cell? ⟨w.heap.size, 0, none⟩ = some (.slice x.fA x.fn x.fc) ∧ W.cell? ⟨w.heap.size, 1, none⟩ = some (.slice x.nA x.nn x.nc) ∧ W.cell? ⟨w.heap.size, 2, none⟩ = some (.slice x.kA x.kn x.kc) ∧ W.cell? ⟨w.heap.size + 1, 2, none⟩ = some (.string (ba a.name)) ∧ W.cell? ⟨w.heap.size + 1, 4, none⟩ = some (.slice a.bA a.b.length a.bc)) → ((((W.setCell ⟨w.heap.size + 1 + 1, 0, none⟩ a').setCell ⟨w.heap.size + 1 + 1, 1, none⟩ b').setCell ⟨w.heap.size + 1 + 1, 2, none⟩ c').cell? ⟨w.heap.size, 0, none⟩ = some (.slice x.fA x.fn x.fc) ∧ (((W.setCell ⟨w.heap.size + 1 + 1, 0, none⟩ a').setCell ⟨w.heap.size + 1 + 1, 1, none⟩ b').setCell ⟨w.heap.size + 1 + 1, 2, none⟩ c').cell? ⟨w.heap.size, 1, none⟩ = some (.slice x.nA x.nn x.nc) ∧ (((W.setCell ⟨w.heap.size + 1 + 1, 0, none⟩ a').setCell ⟨w.heap.size + 1 + 1, 1, none⟩ b').setCell ⟨w.heap.size + 1 + 1, 2, none⟩ c').cell? ⟨w.heap.size, 2, none⟩ = some (.slice x.kA x.kn x.kc) ∧ (((W.setCell ⟨w.heap.size + 1 + 1, 0, none⟩ a').setCell ⟨w.heap.size + 1 + 1, 1, none⟩ b').setCell ⟨w.heap.size + 1 + 1, 2, none⟩ c').cell? ⟨w.heap.size + 1, 2, none⟩ = some (.string (ba a.name)) ∧ (((W.setCell ⟨w.heap.size + 1 + 1, 0, none⟩ a').setCell ⟨w.heap.size + 1 + 1, 1, none⟩ b').setCell ⟨w.heap.size + 1 + 1, 2, none⟩ c').cell? ⟨w.heap.size + 1, 4, none⟩ = some (.slice a.bA a.b.length a.bc))) := fun W a' b' c' hS => ⟨(cell_put3 W _ a' b' c' _ (by show w.heap.size ≠ _; omega)).trans hS.1, (cell_put3 W _ a' b' c' _ (by show w.heap.size ≠ _; omega)).trans hS.2.1, (cell_put3 W _ a' b' c' _ (by show w.heap.size ≠ _; omega)).trans hS.2.2.1, (cell_put3 W _ a' b' c' _ (by show w.heap.size + 1 ≠ _; omega)).trans hS.2.2.2.1, (cell_put3 W _ a' b' c' _ (by show w.heap.size + 1 ≠ _; omega)).trans hS.2.2.2.2⟩
    have hl0 := Own.lit0 5 w1.drew
    have hal0 : Below w1.heap.size w1 (w1.drew.alloc (.cells #[] 5)) := (Below.refl _ _).drew.alloc (Nat.le_refl _) _
    have HBc := Lib.hid (HBa.out.below hal0)
    rw [k0] at a0
    clear k0
    go_wp2_with fail
    rw [← hw1]
    clear hw1
    go_region_held3 (fun W => W.cell? ⟨w.heap.size, 0, none⟩ = some (.slice x.fA x.fn x.fc) ∧ W.cell? ⟨w.heap.size, 1, none⟩ = some (.slice x.nA x.nn x.nc) ∧ W.cell? ⟨w.heap.size, 2, none⟩ = some (.slice x.kA x.kn x.kc) ∧ W.cell? ⟨w.heap.size + 1, 2, none⟩ = some (.string (ba a.name)) ∧ W.cell? ⟨w.heap.size + 1, 4, none⟩ = some (.slice a.bA a.b.length a.bc))
      (first
        | exact K.out _ (Below.refl _ _).drew
        | exact K.out _ hal0
        | exact K.out _ hb9'
        | exact K.out _ hb9u
        | exact KP.out _ _ _ _ (K.out _ hb9u))
      (first
        | (refine step_appE byP (by rfl) (.tmp 13) (.tmp 15) (by rfl) (by rfl) hl0 (by rfl) HBc.out (by omega) (by exact hal0.size) ?_; intro A9 c9 wq9 hown9 hb9 hgr9; simp only [Nat.zero_add, List.nil_append] at hown9; have hb9' : Below w1.heap.size w1 wq9 := hal0.trans (hb9.mono (Nat.le_refl _)); have hlt9 : w.heap.size < wq9.heap.size := Nat.lt_of_lt_of_le hltr hb9'.size; have k0 : wq9.cell? ⟨w.heap.size, 0, none⟩ = some (.slice x.fA x.fn x.fc) := (hb9'.cell (p := ⟨w.heap.size, 0, none⟩) hltr).trans q0; have k1 : wq9.cell? ⟨w.heap.size, 1, none⟩ = some (.slice x.nA x.nn x.nc) := (hb9'.cell (p := ⟨w.heap.size, 1, none⟩) hltr).trans q1; have k2 : wq9.cell? ⟨w.heap.size, 2, none⟩ = some (.slice x.kA x.kn x.kc) := (hb9'.cell (p := ⟨w.heap.size, 2, none⟩) hltr).trans q2; have k3 : wq9.cell? ⟨w.heap.size + 1, 2, none⟩ = some (.string (ba a.name)) := (hb9'.cell (p := ⟨w.heap.size + 1, 2, none⟩) hlta).trans a2; have k4 : wq9.cell? ⟨w.heap.size + 1, 4, none⟩ = some (.slice a.bA a.b.length a.bc) := (hb9'.cell (p := ⟨w.heap.size + 1, 4, none⟩) hlta).trans a4)
        | (go_simp; go_at_call 23; refine (HAP.out _ _ _ hb9' hown9.bs).mono ?_; rintro e wu ⟨z4, rfl, hz4, hr4, hbu⟩; have hb9u := hb9'.trans (hbu.mono hb9'.size); have hcz := HCR.out.below hb9u HCR.out.lt; obtain ⟨s0, s1, s2⟩ := cel3 hcz; obtain ⟨u0, u1, u2⟩ := cel_frs hcz))
    all_goals (
      have HZ := Lib.hid hz4
      have HRZ := Lib.hid hr4
      have HCZ := Lib.hid hcz
      have HB2 := Lib.hid (HB1.out.trans (hb9u.mono HB1.out.size))
      clear hz4 hr4 hcz hb9u
      go_wp2
      (try simp only [Exit.inBlock, Exit.then])
      refine bodyPost_ret (ret_disk2 rfl _ _ (w.heap.size + 1 + 1) z4.cs rfl (cel_put3 HCZ.out) rfl) rfl ?_
      exact ⟨z4, by rw [H.out]; rfl, by rw [H.out]; exact HZ.out, (rdd_away HRZ.out HCZ.out sl3 (cell_put3 wu _ _ _ _)).mono (by simp), below_put3 HB2.out (by omega) _ _ _⟩)
  have b0 : (a.kind == 0) = false := by simpa using k0
  by_cases k1 : a.kind = 1
  · have H : Hid (doK x.d a = syncK x.d a.name) := by show _ = _; unfold doK; rw [if_neg k0]; exact if_pos k1
    have HC := Lib.hid (sync_any x a.name w1 HR.out HSM.out)
    have b1 : (a.kind == 1) = true := by simpa using k1
    clear k0 k1
    go_wp2_with fail
    rw [← hw1]
    clear hw1
    refine HC.out.mono ?_
    rintro e w2 ⟨z, rfl, hz, hr, hb2⟩
    have hcz := HCR.out.below hb2 HCR.out.lt
    obtain ⟨t0, t1, t2⟩ := cel3 hcz
    obtain ⟨g0, g1, g2⟩ := cel_frs hcz
    have HZ := Lib.hid hz
    have HRZ := Lib.hid hr
    have HCZ := Lib.hid hcz
    have HB2 := Lib.hid (HB1.out.trans (hb2.mono HB1.out.size))
    clear hz hr hcz hb2
    go_wp2
    (try simp only [Exit.inBlock, Exit.then])
    refine bodyPost_ret (ret_disk2 rfl _ _ (w.heap.size + 1 + 1) z.cs rfl (cel_put3 HCZ.out) rfl) rfl ?_
    exact ⟨z, by rw [H.out]; rfl, by rw [H.out]; exact HZ.out, (rdd_away HRZ.out HCZ.out sl3 (cell_put3 w2 _ _ _ _)).mono (by simp), below_put3 HB2.out (by omega) _ _ _⟩
  have b1 : (a.kind == 1) = false := by simpa using k1
  by_cases k2 : a.kind = 2
  · have H : Hid (doK x.d a = cutK x.d a.name a.n) := by show _ = _; unfold doK; rw [if_neg k0]; rw [if_neg k1]; exact if_pos k2
    have HC := Lib.hid (cut_any x a.name a.n w1 HR.out HSM.out)
    have b2 : (a.kind == 2) = true := by simpa using k2
    clear k0 k1 k2
    go_wp2_with fail
    rw [← hw1]
    clear hw1
    refine HC.out.mono ?_
    rintro e w2 ⟨z, rfl, hz, hr, hb2⟩
    have hcz := HCR.out.below hb2 HCR.out.lt
    obtain ⟨t0, t1, t2⟩ := cel3 hcz
    obtain ⟨g0, g1, g2⟩ := cel_frs hcz
    have HZ := Lib.hid hz
    have HRZ := Lib.hid hr
    have HCZ := Lib.hid hcz
    have HB2 := Lib.hid (HB1.out.trans (hb2.mono HB1.out.size))
    clear hz hr hcz hb2
    go_wp2
    (try simp only [Exit.inBlock, Exit.then])
    refine bodyPost_ret (ret_disk2 rfl _ _ (w.heap.size + 1 + 1) z.cs rfl (cel_put3 HCZ.out) rfl) rfl ?_
    exact ⟨z, by rw [H.out]; rfl, by rw [H.out]; exact HZ.out, (rdd_away HRZ.out HCZ.out sl3 (cell_put3 w2 _ _ _ _)).mono (by simp), below_put3 HB2.out (by omega) _ _ _⟩
  have b2 : (a.kind == 2) = false := by simpa using k2
  by_cases k3 : a.kind = 3
  · have H : Hid (doK x.d a = renameK x.d a.name a.tn) := by show _ = _; unfold doK; rw [if_neg k0]; rw [if_neg k1]; rw [if_neg k2]; exact if_pos k3
    have HC := Lib.hid (rename_any x a.name a.tn w1 HR.out HSM.out HOK.out.t)
    have b3 : (a.kind == 3) = true := by simpa using k3
    clear k0 k1 k2 k3
    go_wp2_with fail
    rw [← hw1]
    clear hw1
    refine HC.out.mono ?_
    rintro e w2 ⟨z, rfl, hz, hr, hb2⟩
    have hcz := HCR.out.below hb2 HCR.out.lt
    obtain ⟨t0, t1, t2⟩ := cel3 hcz
    obtain ⟨g0, g1, g2⟩ := cel_frs hcz
    have HZ := Lib.hid hz
    have HRZ := Lib.hid hr
    have HCZ := Lib.hid hcz
    have HB2 := Lib.hid (HB1.out.trans (hb2.mono HB1.out.size))
    clear hz hr hcz hb2
    go_wp2
    (try simp only [Exit.inBlock, Exit.then])
    refine bodyPost_ret (ret_disk2 rfl _ _ (w.heap.size + 1 + 1) z.cs rfl (cel_put3 HCZ.out) rfl) rfl ?_
    exact ⟨z, by rw [H.out]; rfl, by rw [H.out]; exact HZ.out, (rdd_away HRZ.out HCZ.out sl3 (cell_put3 w2 _ _ _ _)).mono (by simp), below_put3 HB2.out (by omega) _ _ _⟩
  have b3 : (a.kind == 3) = false := by simpa using k3
  by_cases k4 : a.kind = 4
  · have H : Hid (doK x.d a = removeK x.d a.name) := by show _ = _; unfold doK; rw [if_neg k0]; rw [if_neg k1]; rw [if_neg k2]; rw [if_neg k3]; exact if_pos k4
    have HC := Lib.hid (remove_any x a.name w1 HR.out HSM.out)
    have b4 : (a.kind == 4) = true := by simpa using k4
    clear k0 k1 k2 k3 k4
    go_wp2_with fail
    rw [← hw1]
    clear hw1
    refine HC.out.mono ?_
    rintro e w2 ⟨z, rfl, hz, hr, hb2⟩
    have hcz := HCR.out.below hb2 HCR.out.lt
    obtain ⟨t0, t1, t2⟩ := cel3 hcz
    obtain ⟨g0, g1, g2⟩ := cel_frs hcz
    have HZ := Lib.hid hz
    have HRZ := Lib.hid hr
    have HCZ := Lib.hid hcz
    have HB2 := Lib.hid (HB1.out.trans (hb2.mono HB1.out.size))
    clear hz hr hcz hb2
    go_wp2
    (try simp only [Exit.inBlock, Exit.then])
    refine bodyPost_ret (ret_disk2 rfl _ _ (w.heap.size + 1 + 1) z.cs rfl (cel_put3 HCZ.out) rfl) rfl ?_
    exact ⟨z, by rw [H.out]; rfl, by rw [H.out]; exact HZ.out, (rdd_away HRZ.out HCZ.out sl3 (cell_put3 w2 _ _ _ _)).mono (by simp), below_put3 HB2.out (by omega) _ _ _⟩
  have b4 : (a.kind == 4) = false := by simpa using k4
  by_cases k5 : a.kind = 5
  · have H : Hid (doK x.d a = (syncDirK x.d, 0)) := by show _ = _; unfold doK; rw [if_neg k0]; rw [if_neg k1]; rw [if_neg k2]; rw [if_neg k3]; rw [if_neg k4]; exact if_pos k5
    have HC := Lib.hid (syncDir_any x w1 HR.out HSM.out)
    have b5 : (a.kind == 5) = true := by simpa using k5
    clear k0 k1 k2 k3 k4 k5
    go_wp2_with fail
    rw [← hw1]
    clear hw1
    refine HC.out.mono ?_
    rintro e w2 ⟨z, rfl, hz, hr, hb2⟩
    have hcz := HCR.out.below hb2 HCR.out.lt
    obtain ⟨t0, t1, t2⟩ := cel3 hcz
    obtain ⟨g0, g1, g2⟩ := cel_frs hcz
    have HZ := Lib.hid hz
    have HRZ := Lib.hid hr
    have HCZ := Lib.hid hcz
    have HB2 := Lib.hid (HB1.out.trans (hb2.mono HB1.out.size))
    clear hz hr hcz hb2
    go_wp2
    (try simp only [Exit.inBlock, Exit.then])
    refine bodyPost_ret (ret_disk2 rfl _ _ (w.heap.size + 1 + 1) z.cs rfl (cel_put3 HCZ.out) rfl) rfl ?_
    exact ⟨z, by rw [H.out]; rfl, by rw [H.out]; exact HZ.out, (rdd_away HRZ.out HCZ.out sl3 (cell_put3 w2 _ _ _ _)).mono (by simp), below_put3 HB2.out (by omega) _ _ _⟩
  have b5 : (a.kind == 5) = false := by simpa using k5
  have H : Hid (doK x.d a = (crashK x.d a.keep a.dir, 0)) := by show _ = _; unfold doK; rw [if_neg k0]; rw [if_neg k1]; rw [if_neg k2]; rw [if_neg k3]; rw [if_neg k4]; exact if_neg k5
  have HC := Lib.hid (crash_any x a.kA a.keep.length a.kc a.keep a.dir w1 HR.out HSM.out HOK.out.k)
  clear k0 k1 k2 k3 k4 k5
  go_wp2_with fail
  rw [← hw1]
  clear hw1
  refine HC.out.mono ?_
  rintro e w2 ⟨z, rfl, hz, hr, hb2⟩
  have hcz := HCR.out.below hb2 HCR.out.lt
  obtain ⟨t0, t1, t2⟩ := cel3 hcz
  obtain ⟨g0, g1, g2⟩ := cel_frs hcz
  have HZ := Lib.hid hz
  have HRZ := Lib.hid hr
  have HCZ := Lib.hid hcz
  have HB2 := Lib.hid (HB1.out.trans (hb2.mono HB1.out.size))
  clear hz hr hcz hb2
  go_wp2
  (try simp only [Exit.inBlock, Exit.then])
  refine bodyPost_ret (ret_disk2 rfl _ _ (w.heap.size + 1 + 1) z.cs rfl (cel_put3 HCZ.out) rfl) rfl ?_
  exact ⟨z, by rw [H.out]; rfl, by rw [H.out]; exact HZ.out, (rdd_away HRZ.out HCZ.out sl3 (cell_put3 w2 _ _ _ _)).mono (by simp), below_put3 HB2.out (by omega) _ _ _⟩
end Go.Proofs.Ytoifdjpflannlaa.Dw
