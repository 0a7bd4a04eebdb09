/- What disk's normalized, Right, valid and fileOf come to. For disks of up to 1000 entries; names that fit. -/
import Derived.Test.YtoifdjpflannlaaDwNorm
set_option maxRecDepth 8000
namespace Go.Proofs.Ytoifdjpflannlaa.Dw
open Go.RowKit By Dk

/-! ### Mathematics -/
theorem named_len {l : List E} {m : Nat} (h : Named l m) : l.length ≤ m := by
  have e : (filesOf l).length = l.length := List.length_map ..
  rw [← e]
  refine nodup_sub ?_ fun f hf => ?_
  · have ho := h.2
    unfold Dk.Ord at ho
    unfold filesOf
    exact List.pairwise_map.2 (ho.imp fun hab => hab.2)
  · obtain ⟨a, ha, rfl⟩ := List.mem_map.1 hf
    exact (h.1 a ha).2
theorem stays_iff {acc : List Int} {l : List E} : staysB acc l = true ↔ ∀ i, i < l.length → ∀ s f, l[i]? = some (s, f) → idx (accAt acc l i) f = f := by
  unfold staysB
  rw [decide_eq_true_iff]
  constructor
  · intro h i hi s f hg
    have := h i hi
    rw [hit_at hg] at this
    simpa using this
  · intro h i hi
    have hg : l[i]? = some (l[i].1, l[i].2) := List.getElem?_eq_getElem hi
    rw [hit_at hg]
    simpa using h i hi _ _ hg
theorem stays_not {acc : List Int} {l : List E} (h : staysB acc l = false) : ∃ k s f, l[k]? = some (s, f) ∧ idx (accAt acc l k) f ≠ f := by
  by_cases hx : ∃ k s f, l[k]? = some (s, f) ∧ idx (accAt acc l k) f ≠ f
  · exact hx
  · have : staysB acc l = true := stays_iff.2 fun i _ s f hg => Decidable.byContradiction fun hne => hx ⟨i, s, f, hg, hne⟩
    rw [h] at this
    cases this
/-- Both lists stay, and no file is left: just the disks that are numbered as they come up. -/
theorem norm_iff {d : D} (h0 : ∀ e ∈ d.now ++ d.kept, 0 ≤ e.2) :
    (staysB [] d.now = true ∧ staysB (firsts (filesOf d.now)) d.kept = true ∧ (cameD d).length = d.fs.length) ↔ cameD d = rangeZ d.fs.length := by
  constructor
  · rintro ⟨h1, h2, h3⟩
    obtain ⟨m, hm⟩ := stays_rows (acc := []) (l := d.now) ⟨0, rfl⟩ (fun e he => h0 e (List.mem_append_left _ he)) (stays_iff.1 h1) d.now.length (Nat.le_refl _)
    rw [acc_end (Nat.le_refl _)] at hm
    obtain ⟨k, hk⟩ := stays_rows (acc := firsts (filesOf d.now)) (l := d.kept) ⟨m, hm⟩ (fun e he => h0 e (List.mem_append_right _ he)) (stays_iff.1 h2) d.kept.length (Nat.le_refl _)
    rw [acc_end (Nat.le_refl _), ← came_two] at hk
    rw [hk, range_len] at h3
    rw [hk, h3]
  · intro h
    refine ⟨?_, ?_, by rw [h, range_len]⟩
    · cases hs : staysB [] d.now with
      | true => rfl
      | false =>
        obtain ⟨k, s, f, hg, hne⟩ := stays_not hs
        exact absurd ((came_two d).symm.trans h) (stray hg hne _ _)
    · cases hs : staysB (firsts (filesOf d.now)) d.kept with
      | true => rfl
      | false =>
        obtain ⟨k, s, f, hg, hne⟩ := stays_not hs
        exact absurd ((came_two d).symm.trans h) (stray hg hne [] _)
/-- Names that fit. -/
def Sm (d : D) : Prop := ∀ e ∈ d.now ++ d.kept, e.1.length ≤ 9223372036854775807
theorem right_sm {d : D} (h : RightD d) : Sm d := fun e he => by
  rcases List.mem_append.1 he with k | k
  · have := (h.2.1.1.1 e k).1.2; omega
  · have := (h.2.1.2.1.1 e k).1.2; omega

/-! ### normalized -/
def isB (w : World) (b : Bool) (e : Ending) (w' : World) : Prop := e = .returned (.bool b) ∧ Below w.heap.size w w'
set_option maxHeartbeats 1000000 in
theorem normalized_any (x : Dv) (w : World) (h : RdD w.heap.size w x) (h0 : ∀ e ∈ x.now ++ x.kept, 0 ≤ e.2) (hn : x.now.length + x.kept.length ≤ 1000) :
    Calls Try.prog 63 #[x.v] w (isB w (decide (cameD x.d = rangeZ x.d.fs.length))) := by
  obtain ⟨w1, hw1⟩ : ∃ w1, w1 = (w.alloc (.cells #[.slice x.fA x.fn x.fc, .slice x.nA x.nn x.nc, .slice x.kA x.kn x.kc] 25)).alloc (.cells #[.slice x.fA x.fn x.fc, .slice x.nA x.nn x.nc, .slice x.kA x.kn x.kc, .slice none 0 0] 111) := ⟨_, rfl⟩
  have hb1 : Below w.heap.size w w1 := by rw [hw1]; exact ((Below.refl _ _).alloc (Nat.le_refl _) _).alloc (by simp) _
  have hs1 : w1.heap.size = w.heap.size + 2 := by rw [hw1]; simp
  have hc1 : Cel w1 (w.heap.size + 1) 111 #[.slice x.fA x.fn x.fc, .slice x.nA x.nn x.nc, .slice x.kA x.kn x.kc, .slice none 0 0] := by
    rw [hw1]
    have := Cel.born (w.alloc (.cells #[.slice x.fA x.fn x.fc, .slice x.nA x.nn x.nc, .slice x.kA x.kn x.kc] 25)) 111 #[.slice x.fA x.fn x.fc, .slice x.nA x.nn x.nc, .slice x.kA x.kn x.kc, .slice none 0 0]
    simpa using this
  have hz : Nz (w.heap.size + 2) (w.heap.size + 1) w1 x [] := ⟨by omega, none, 0, 0, hc1, OwnV.nil _ _ _⟩
  have hnm := h.n.len
  have hkm := h.k.len
  have hfl : x.d.fs.length = x.fn := by show (fsOf x.xs).length = _; rw [fs_len, h.f.len]
  have hmx := h.f.max
  have hcp := h.f.cap
  have HIF := Lib.hid (norm_iff (d := x.d) h0)
  have HST := Lib.hid (stays_any (w.heap.size + 2) (w.heap.size + 1) w1 x [] x.nA x.nn x.nc x.now hz (by omega) (by simp; omega) ((h.n.below hb1).mono (by omega)))
  have HS2 : Hid (∀ w2, Nz (w.heap.size + 2) (w.heap.size + 1) w2 x (firsts (filesOf x.now)) → Below w.heap.size w w2 → w1.heap.size ≤ w2.heap.size → Calls Try.prog 84 #[.pointer (some ⟨w.heap.size + 1, 0, none⟩), .slice x.kA x.kn x.kc] w2 (StR (w.heap.size + 2) (w.heap.size + 1) w2 x (firsts (filesOf x.now)) x.kept)) := fun w2 hz2 hb2 hs2 =>
    stays_any (w.heap.size + 2) (w.heap.size + 1) w2 x (firsts (filesOf x.now)) x.kA x.kn x.kc x.kept hz2 (by omega) (by
      have := from_len (filesOf x.now) []
      have e : (filesOf x.now).length = x.now.length := List.length_map ..
      unfold firsts
      simp at this
      omega) ((h.k.below hb2).mono (by omega))
  have HB1 := Lib.hid hb1
  have HFL := Lib.hid hfl
  have r1 : w1.cell? ⟨w.heap.size + 1, 1, none⟩ = some (.slice x.nA x.nn x.nc) := by rw [hc1.cell]; rfl
  clear hz hc1 h h0 hb1 hfl
  go_enter Try.func63, Try.ntmps63
  go_wp2_with fail
  rw [← hw1]
  clear hw1
  refine HST.out.mono ?_
  rintro e w2 ⟨acc', rfl, hz2, ha2, hb2, _⟩
  have hb02 := Lib.hid (HB1.out.trans (hb2.mono (show w.heap.size ≤ w.heap.size + 1 by omega)))
  have hs2 := hb2.size
  cases hst : staysB [] x.now with
  | false =>
    have H : Hid (decide (cameD x.d = rangeZ x.d.fs.length) = false) := decide_eq_false fun k => by
      have := (HIF.out.2 k).1
      rw [show staysB [] x.d.now = staysB [] x.now from rfl, hst] at this
      cases this
    clear hz2 ha2 hst hb2
    go_wp2
    go_ret
    exact ⟨ret_bool H.out.symm, hb02.out⟩
  | true =>
    have e1 : acc' = firsts (filesOf x.now) := ha2 hst
    subst e1
    obtain ⟨_, A2, n2, c2, hc2, _⟩ := id hz2
    have r2 : w2.cell? ⟨w.heap.size + 1, 2, none⟩ = some (.slice x.kA x.kn x.kc) := by rw [hc2.cell]; rfl
    have HS3 := Lib.hid (HS2.out w2 hz2 hb02.out hs2)
    have HT := Lib.hid hst
    clear hz2 ha2 hc2 hst HS2 hb2
    go_wp2_with fail
    refine HS3.out.mono ?_
    rintro e w3 ⟨acc3, rfl, hz3, ha3, hb3, _⟩
    have hb03 := Lib.hid (hb02.out.trans (hb3.mono (show w.heap.size ≤ w.heap.size + 1 by omega)))
    cases hst : staysB (firsts (filesOf x.now)) x.kept with
    | false =>
      have H : Hid (decide (cameD x.d = rangeZ x.d.fs.length) = false) := decide_eq_false fun k => by
        have := (HIF.out.2 k).2.1
        rw [show staysB (firsts (filesOf x.d.now)) x.d.kept = staysB (firsts (filesOf x.now)) x.kept from rfl, hst] at this
        cases this
      clear hz3 ha3 hst hb3
      go_wp2
      go_ret
      exact ⟨ret_bool H.out.symm, hb03.out⟩
    | true =>
      have e3 : acc3 = cameD x.d := by rw [came_two]; exact ha3 hst
      subst e3
      obtain ⟨_, A3, n3, c3, hc3, ho3⟩ := hz3
      have r3 : w3.cell? ⟨w.heap.size + 1, 3, none⟩ = some (.slice A3 n3 c3) := by rw [hc3.cell]; rfl
      have r4 : w3.cell? ⟨w.heap.size + 1, 0, none⟩ = some (.slice x.fA x.fn x.fc) := by rw [hc3.cell]; rfl
      have hn3 : (cameD x.d).length = n3 := by have := ho3.len; rw [intV_len] at this; exact this
      have hn3c := ho3.rd.cap
      have hn3m := ho3.rd.max
      have HT2 := Lib.hid hst
      have H : Hid (decide (cameD x.d = rangeZ x.d.fs.length) = decide ((n3 : Int) = (x.fn : Int))) := by
        show _ = _
        rw [decide_eq_decide, ← HIF.out, hn3, HFL.out]
        constructor
        · rintro ⟨_, _, k⟩; omega
        · intro k; exact ⟨HT.out, HT2.out, by omega⟩
      clear hc3 ho3 hst ha3 hb3 hn3
      by_cases he : (n3 : Int) = (x.fn : Int)
      · have hbe : ((n3 : Int) == (x.fn : Int)) = true := by simpa using he
        have HE := Lib.hid (decide_eq_true he)
        clear he
        go_wp2
        go_ret
        exact ⟨ret_bool (by rw [H.out, HE.out]), hb03.out⟩
      · have hbe : ((n3 : Int) == (x.fn : Int)) = false := by simpa using he
        have HE := Lib.hid (decide_eq_false he)
        clear he
        go_wp2
        go_ret
        exact ⟨ret_bool (by rw [H.out, HE.out]), hb03.out⟩

/-! ### Right -/
theorem rightD_iff (d : D) : RightD d ↔ d.fs.length ≤ 20 ∧ allOk d.fs ∧ Named d.now d.fs.length ∧ Named d.kept d.fs.length ∧ cameD d = rangeZ d.fs.length := by
  unfold RightD Loose allOk
  constructor
  · rintro ⟨a, ⟨b, c, d⟩, e⟩; exact ⟨a, d, b, c, e⟩
  · rintro ⟨a, d, b, c, e⟩; exact ⟨a, ⟨b, c, d⟩, e⟩
set_option maxHeartbeats 1000000 in
theorem right_any (x : Dv) (w : World) (h : RdD w.heap.size w x) (hsm : Sm x.d) :
    Calls Try.prog 29 #[x.v] w (isB w (decide (RightD x.d))) := by
  obtain ⟨w1, hw1⟩ : ∃ w1, w1 = w.alloc (.cells #[.slice x.fA x.fn x.fc, .slice x.nA x.nn x.nc, .slice x.kA x.kn x.kc] 25) := ⟨_, rfl⟩
  have hb1 : Below w.heap.size w w1 := by rw [hw1]; exact (Below.refl _ _).alloc (Nat.le_refl _) _
  have hc1 : Cel w1 w.heap.size 25 #[.slice x.fA x.fn x.fc, .slice x.nA x.nn x.nc, .slice x.kA x.kn x.kc] := by rw [hw1]; exact Cel.born w _ _
  have hs1 : w1.heap.size = w.heap.size + 1 := by rw [hw1]; simp
  have hfl : x.d.fs.length = x.fn := by show (fsOf x.xs).length = _; rw [fs_len, h.f.len]
  have hmx := h.f.max
  have hcp := h.f.cap
  have HIF := Lib.hid (rightD_iff x.d)
  rw [hfl] at HIF
  have HFL := Lib.hid hfl
  have HSM := Lib.hid hsm
  have HR := Lib.hid h
  have r1 : w1.cell? ⟨w.heap.size, 0, none⟩ = some (.slice x.fA x.fn x.fc) := by rw [hc1.cell]; rfl
  have HB1 := Lib.hid hb1
  by_cases h20 : (x.fn : Int) ≤ 20
  rotate_left
  · have H : Hid (decide (RightD x.d) = false) := decide_eq_false fun k => by have := (HIF.out.1 k).1; omega
    clear hb1 hc1 h hfl hsm
    go_enter Try.func29, Try.ntmps29
    go_wp2
    go_ret
    exact ⟨ret_bool H.out.symm, (Below.refl _ _).alloc (Nat.le_refl _) _⟩
  have HCF := Lib.hid (containsF_any x.fA x.fn x.fc x.xs w1 ((h.f.below hb1).mono hb1.size))
  have HC1 := Lib.hid hc1
  clear hb1 hc1 h hfl hsm
  go_enter Try.func29, Try.ntmps29
  go_wp2_with fail
  rw [← hw1]
  clear hw1
  refine HCF.out.mono ?_
  rintro e w2 ⟨rfl, hb2⟩
  have hb02 := Lib.hid (HB1.out.trans (hb2.mono (by omega)))
  by_cases hok : allOk (fsOf x.xs)
  rotate_left
  · have hd : decide (allOk (fsOf x.xs)) = false := decide_eq_false hok
    have H : Hid (decide (RightD x.d) = false) := decide_eq_false fun k => hok (HIF.out.1 k).2.1
    rw [hd]
    clear hd hok hb2
    go_wp2
    go_ret
    exact ⟨ret_bool H.out.symm, hb02.out⟩
  have hd : decide (allOk (fsOf x.xs)) = true := decide_eq_true hok
  rw [hd]
  have HOK := Lib.hid hok
  have hc2 := HC1.out.below hb2 HC1.out.lt
  have r2 : w2.cell? ⟨w.heap.size, 0, none⟩ = some (.slice x.fA x.fn x.fc) := by rw [hc2.cell]; rfl
  have r3 : w2.cell? ⟨w.heap.size, 1, none⟩ = some (.slice x.nA x.nn x.nc) := by rw [hc2.cell]; rfl
  have HE1 := Lib.hid (rightEntries_any x.nA x.nn x.nc x.now x.fn w2 ((HR.out.n.below hb02.out).mono hb02.out.size) (fun e he => HSM.out e (List.mem_append_left _ he)))
  have HC2 := Lib.hid hc2
  have hs2 := hb2.size
  clear hd hok hb2 hc2
  go_wp2_with fail
  refine HE1.out.mono ?_
  rintro e w3 ⟨rfl, hb3⟩
  have hb03 := Lib.hid (hb02.out.trans (hb3.mono hb02.out.size))
  by_cases hn1 : Named x.now x.fn
  rotate_left
  · have hd : decide (Named x.now x.fn) = false := decide_eq_false hn1
    have H : Hid (decide (RightD x.d) = false) := decide_eq_false fun k => hn1 (HIF.out.1 k).2.2.1
    rw [hd]
    clear hd hn1 hb3
    go_wp2
    go_ret
    exact ⟨ret_bool H.out.symm, hb03.out⟩
  have hd : decide (Named x.now x.fn) = true := decide_eq_true hn1
  rw [hd]
  have HN1 := Lib.hid hn1
  have hc3 := HC2.out.below hb3 HC2.out.lt
  have r4 : w3.cell? ⟨w.heap.size, 0, none⟩ = some (.slice x.fA x.fn x.fc) := by rw [hc3.cell]; rfl
  have r5 : w3.cell? ⟨w.heap.size, 2, none⟩ = some (.slice x.kA x.kn x.kc) := by rw [hc3.cell]; rfl
  have HE2 := Lib.hid (rightEntries_any x.kA x.kn x.kc x.kept x.fn w3 ((HR.out.k.below hb03.out).mono hb03.out.size) (fun e he => HSM.out e (List.mem_append_right _ he)))
  have HC3 := Lib.hid hc3
  have hs3 := hb3.size
  clear hd hn1 hb3 hc3
  go_wp2_with fail
  refine HE2.out.mono ?_
  rintro e w4 ⟨rfl, hb4⟩
  have hb04 := Lib.hid (hb03.out.trans (hb4.mono hb03.out.size))
  by_cases hn2 : Named x.kept x.fn
  rotate_left
  · have hd : decide (Named x.kept x.fn) = false := decide_eq_false hn2
    have H : Hid (decide (RightD x.d) = false) := decide_eq_false fun k => hn2 (HIF.out.1 k).2.2.2.1
    rw [hd]
    clear hd hn2 hb4
    go_wp2
    go_ret
    exact ⟨ret_bool H.out.symm, hb04.out⟩
  have hd : decide (Named x.kept x.fn) = true := decide_eq_true hn2
  rw [hd]
  have HN2 := Lib.hid hn2
  have hc4 := HC3.out.below hb4 HC3.out.lt
  have r6 : w4.cell? ⟨w.heap.size, 0, none⟩ = some (.slice x.fA x.fn x.fc) := by rw [hc4.cell]; rfl
  have r7 : w4.cell? ⟨w.heap.size, 1, none⟩ = some (.slice x.nA x.nn x.nc) := by rw [hc4.cell]; rfl
  have r8 : w4.cell? ⟨w.heap.size, 2, none⟩ = some (.slice x.kA x.kn x.kc) := by rw [hc4.cell]; rfl
  have HNO := Lib.hid (normalized_any x w4 ((HR.out.below hb04.out).mono hb04.out.size) (fun e he => by
    rcases List.mem_append.1 he with k | k
    · exact (HN1.out.1 e k).2.1
    · exact (HN2.out.1 e k).2.1) (by have e1 := named_len HN1.out; have e2 := named_len HN2.out; omega))
  have H : Hid (decide (RightD x.d) = decide (cameD x.d = rangeZ x.d.fs.length)) := by
    show _ = _
    rw [decide_eq_decide, HIF.out, HFL.out]
    exact ⟨fun k => k.2.2.2.2, fun k => ⟨by omega, HOK.out, HN1.out, HN2.out, k⟩⟩
  clear hd hn2 hb4 hc4
  go_wp2_with fail
  refine HNO.out.mono ?_
  rintro e w5 ⟨rfl, hb5⟩
  have hb05 := Lib.hid (hb04.out.trans (hb5.mono hb04.out.size))
  clear hb5
  go_wp2
  go_ret
  exact ⟨ret_bool H.out.symm, hb05.out⟩
end Go.Proofs.Ytoifdjpflannlaa.Dw
