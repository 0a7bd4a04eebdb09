/- What journal's valid and lasts come to: has the durable directory the journal, and for the file that has its name now? For all disks whose names fit. -/
import Derived.Test.YtlefpodonkdbeaaGreatJwKit
import Derived.Laws.StructEq
import Derived.BigQuiet
import Derived.Deep.QuietTactic
import Derived.Deep.RegionHeld3
set_option maxRecDepth 8000
namespace Go.Proofs.YtlefpodonkdbeaaGreat.Jw
open Go.RowKit By Dk Jn
open Dw

/-! ### Entries compared -/
theorem eeq_any (s t : N) (f g : Int) (W : World) : (binOp .eql 68 (.agg #[.string (ba s), .int .i64 f]) (.agg #[.string (ba t), .int .i64 g])).run Tryz.prog W = .ok (.bool (decide ((s, f) = (t, g)))) W := by
  have hS : Tryz.prog.underlying 68 = some (.struct (Tryz.prog.fieldsOf 68)) := by kernel_rfl
  have hp : Tryz.prog.stoodInHeld 68 = false := by kernel_rfl
  have u3 := Tryz.underlying3
  have a3 := Tryz.isAgg3
  have z3 := Tryz.sizeOf3
  have u9 := Tryz.underlying9
  have a9 := Tryz.isAgg9
  have z9 := Tryz.sizeOf9
  have hs := same_is s t
  rw [run_eql_struct, show (10000 : Nat) = 9999 + 1 from rfl, run_equalIn_agg W 9999 68 _ _ hS hp]
  simp only [Program.fieldsOf, Tryz.underlying68]
  by_cases h1 : s = t
  · subst h1
    by_cases h2 : f = g
    · subst h2
      simp only [decide_true]
      go_simp
    · have h3 : decide ((s, f) = (s, g)) = false := decide_eq_false (fun k => h2 (Prod.mk.inj k).2)
      rw [h3]
      go_simp
  · have h3 : decide ((s, f) = (t, g)) = false := decide_eq_false (fun k => h1 (Prod.mk.inj k).1)
    rw [h3]
    rw [decide_eq_false h1] at hs
    go_simp

/-! ### slices.Index, slices.Contains at entries -/
set_option maxHeartbeats 1000000 in
theorem indexEn_any (A : Option Addr) (n c : Nat) (l : List E) (s : N) (f : Int) (w : World) (h : RdE w.heap.size w A n c l) :
    Calls Tryz.prog 109 #[.slice A n c, .agg #[.string (ba s), .int .i64 f]] w fun e w' => (∃ i : Int, e = .returned (.int .i64 i) ∧ decide (0 ≤ i) = decide ((s, f) ∈ l)) ∧ Below w.heap.size w w' := by
  obtain ⟨w1, hw1⟩ : ∃ w1, w1 = w.alloc (.cells #[.string (ba s), .int .i64 f] 68) := ⟨_, rfl⟩
  have HB1 := Lib.hid (show Below w.heap.size w w1 by rw [hw1]; exact (Below.refl _ _).alloc (Nat.le_refl _) _)
  have HC1 := Lib.hid (show Cel w1 w.heap.size 68 #[.string (ba s), .int .i64 f] by rw [hw1]; exact Cel.born _ _ _)
  have hl := Lib.hid h.len
  have hm := h.max
  have hcap := h.cap
  have HX := Lib.hid h
  clear h
  go_enter Tryz.func109, Tryz.ntmps109
  go_wp2
  rw [← hw1]
  clear hw1
  go_loopw [8] (fun i wr => ∃ k : Nat, k ≤ n ∧ i = .int .i64 k ∧ (s, f) ∉ l.take k ∧ Below w1.heap.size w1 wr) (fun i _ => n - (intOf i).toNat)
  case atStart => exact ⟨0, by omega, rfl, by simp, Below.refl _ _⟩
  case round =>
    obtain ⟨k, hk, rfl, hs, hbw⟩ := hrel
    have HS := Lib.hid hs
    clear hs
    by_cases hlt : k < n
    · have hcw := HC1.out.below hbw HC1.out.lt
      have q0 : wr.cell? ⟨w.heap.size, 0, none⟩ = some (.string (ba s)) := by rw [hcw.cell]; rfl
      have q1 : wr.cell? ⟨w.heap.size, 1, none⟩ = some (.int .i64 f) := by rw [hcw.cell]; rfl
      obtain ⟨b, o, t, g, rfl, _, HE, c1, c2⟩ := atE (HX.out.below (HB1.out.trans (hbw.mono HB1.out.size))) hlt
      have hkz : (k : Int) < (n : Int) := by omega
      have HQ := fun W => eeq_any s t f g W
      clear hcw
      by_cases he : (s, f) = (t, g)
      · have HT : Hid (decide ((s, f) ∈ l) = true) := decide_eq_true (by rw [he]; exact List.mem_of_getElem? HE.out)
        rw [decide_eq_true he] at HQ
        clear HE he
        go_wp2_with fail
        go_quiet (fail)
        go_wp2
        go_ret
        exact ⟨⟨k, rfl, by rw [HT.out]; exact decide_eq_true (by omega)⟩, HB1.out.trans (below_drewN (hbw.mono HB1.out.size) _)⟩
      · have HT : Hid ((s, f) ∉ l.take (k + 1)) := by
          show _ ∉ _
          rw [take_next HE.out]
          intro hm
          rcases List.mem_append.1 hm with hm | hm
          · exact HS.out hm
          · exact he (by simpa using hm)
        rw [decide_eq_false he] at HQ
        clear HE he
        go_wp2_with fail
        go_quiet (fail)
        go_wp2
        go_roundw
        case rel => exact ⟨k + 1, by omega, by go_num, HT.out, below_drewN hbw _⟩
        case measure => simp [intOf]; omega
    · obtain rfl : k = n := by omega
      have HT : Hid (decide ((s, f) ∈ l) = false) := decide_eq_false (by have := HS.out; rwa [List.take_of_length_le (by rw [hl.out]; exact Nat.le_refl _)] at this)
      go_wp2
      go_ret
      exact ⟨⟨-1, rfl, by rw [HT.out]; rfl⟩, HB1.out.trans (hbw.mono HB1.out.size)⟩
set_option maxHeartbeats 1000000 in
theorem containsEn_any (A : Option Addr) (n c : Nat) (l : List E) (s : N) (f : Int) (w : World) (h : RdE w.heap.size w A n c l) :
    Calls Tryz.prog 79 #[.slice A n c, .agg #[.string (ba s), .int .i64 f]] w (isB w (decide ((s, f) ∈ l))) := by
  have hb : Below w.heap.size w (w.alloc (.cells #[.string (ba s), .int .i64 f] 68)) := (Below.refl _ _).alloc (Nat.le_refl _) _
  have HI := Lib.hid (indexEn_any A n c l s f (w.alloc (.cells #[.string (ba s), .int .i64 f] 68)) ((h.below hb).mono hb.size))
  have HB := Lib.hid hb
  clear h hb
  go_enter Tryz.func79, Tryz.ntmps79
  go_wp2_with fail
  refine HI.out.mono ?_
  rintro e w2 ⟨⟨i, rfl, hi⟩, hb2⟩
  have HQ := Lib.hid hi
  have HB2 := Lib.hid (HB.out.trans (hb2.mono HB.out.size))
  clear hi hb2
  go_wp2
  go_ret
  exact ⟨ret_bool HQ.out, HB2.out⟩

/-! ### The entry of the journal -/
theorem nameJ_is (s : N) (f : Int) (w : World) :
    Calls Tryz.prog 78 #[.agg #[.string (ba s), .int .i64 f]] w (isB w (decide (s = nJ))) := by
  have HS : Hid (((ba s).toList == [106]) = decide (s = nJ)) := by have h := same_is s nJ; rw [ba_list nJ] at h; exact h
  go_enter Tryz.func78, Tryz.ntmps78
  go_wp2
  go_ret
  exact ⟨ret_bool HS.out, (Below.refl _ _).alloc (Nat.le_refl _) _⟩
set_option maxHeartbeats 400000 in
theorem indexE_gen0 (K : Nat) (hE : ∀ args W, (callFunc K args).run Tryz.prog W = .ok (.enter K args) W) (U : Nat) (A : Option Addr) (n c : Nat) (l : List E) (p : Nat → Bool) (I : Nat → World → Prop) (w : World) (h0 : RdE U w A n c l)
    (h : ∀ k W, I k W → RdE U W A n c l) (hI : I 0 w)
    (hK : ∀ k s f W, l[k]? = some (s, f) → I k W → Calls Tryz.prog K #[.agg #[.string (ba s), .int .i64 f]] W fun e W' => e = .returned (.bool (p k)) ∧ I (k + 1) W') :
    Calls Tryz.prog 77 #[.slice A n c, .func (.func K) #[] #[]] w (IxR n p I) := by
  have hm := h0.max
  have hcap := h0.cap
  have HK := Lib.hid hK
  have HR := Lib.hid h
  have HEN := Lib.hid hE
  clear hK h h0 hE
  go_enter Tryz.func77, Tryz.ntmps77
  go_wp2
  go_loopw [8] (fun i wr => ∃ k : Nat, k ≤ n ∧ i = .int .i64 k ∧ (∀ i, i < k → p i = false) ∧ I k wr) (fun i _ => n - (intOf i).toNat)
  case atStart => exact ⟨0, by omega, rfl, fun i hi => absurd hi (Nat.not_lt_zero _), hI⟩
  case round =>
    obtain ⟨k, hk, rfl, hs, hIk⟩ := hrel
    have HS := Lib.hid hs
    clear hs
    by_cases hlt : k < n
    · obtain ⟨b, o, s, f, rfl, _, HE, c1, c2⟩ := atE (HR.out k wr hIk) hlt
      have HC := Lib.hid (HK.out k s f wr HE.out hIk)
      clear HE
      go_wp2_with fail
      rw [HEN.out, Oper.upon_enter]
      refine HC.out.mono ?_
      rintro e w1 ⟨rfl, hI1⟩
      have HP : Hid (p k = p k) := rfl
      generalize hp : p k = b1 at HP
      cases b1 with
      | true =>
        have HT := Lib.hid hp
        clear hp
        go_wp2
        go_ret
        exact .inl ⟨k, hlt, rfl, HT.out, HS.out, hI1⟩
      | false =>
        have HT := Lib.hid hp
        clear hp
        go_wp2
        go_roundw
        case rel => exact ⟨k + 1, by omega, by go_num, none_step HS.out HT.out, hI1⟩
        case measure => simp [intOf]; omega
    · obtain rfl : k = n := by omega
      go_wp2
      go_ret
      exact .inr ⟨rfl, HS.out, hIk⟩

set_option maxHeartbeats 1000000 in
theorem validJ_any (U : Nat) (x : Dv) (w : World) (h : RdD U w x) (hU : U ≤ w.heap.size) (hsm : Sm x.d) :
    Calls Tryz.prog 32 #[x.v] w (VaR U w x) := by
  obtain ⟨w1, hw1⟩ : ∃ w1, w1 = (w.alloc (.cells x.cs 30)).alloc (.cells #[.slice none 0 0, .slice none 0 0, .slice none 0 0] 30) := ⟨_, rfl⟩
  have hb1 : Below w.heap.size w w1 := by rw [hw1]; exact ((Below.refl _ _).alloc (Nat.le_refl _) _).alloc (by simp) _
  have hc1 : Cel w1 w.heap.size 30 x.cs := by rw [hw1]; exact (Cel.born w _ _).below ((Below.refl _ _).alloc (Nat.le_refl _) _) (by simp)
  have hc2 : Cel w1 (w.heap.size + 1) 30 #[.slice none 0 0, .slice none 0 0, .slice none 0 0] := by
    rw [hw1]
    have := Cel.born (w.alloc (.cells x.cs 30)) 30 #[.slice none 0 0, .slice none 0 0, .slice none 0 0]
    simpa using this
  have HRI := Lib.hid (right_any x w1 ((h.below (hb1.mono hU)).mono (Nat.le_trans hU hb1.size)) hsm)
  have HR := Lib.hid h
  have HB1 := Lib.hid hb1
  have HC1 := Lib.hid hc1
  have HC2 := Lib.hid hc2
  clear h hb1 hc1 hc2 hsm
  go_enter Tryz.func32, Tryz.ntmps32
  go_wp2_with fail
  rw [← hw1]
  clear hw1
  refine HRI.out.mono ?_
  rintro e w2 ⟨rfl, hb2⟩
  have hb02 := Lib.hid (HB1.out.trans (hb2.mono HB1.out.size))
  have hk1 := HC1.out.below hb2 HC1.out.lt
  have hk2 := HC2.out.below hb2 HC2.out.lt
  obtain ⟨r0, r1, r2⟩ := cel3 hk1
  obtain ⟨q0, q1, q2⟩ := cel3 hk2
  have f0 := cel_fr hk2 0
  have f1 := cel_fr hk2 1
  have f2 := cel_fr hk2 2
  have HK2 := Lib.hid hk2
  clear hk1 hk2 hb2
  by_cases hr : RightD x.d
  · have hd : decide (RightD x.d) = true := decide_eq_true hr
    have HG := Lib.hid (good_of hr)
    rw [hd]
    clear hd hr
    go_wp2
    (try simp only [Exit.inBlock, Exit.then])
    refine bodyPost_ret (ret_disk rfl _ _ (w.heap.size + 1) x.cs rfl (cel_put3 HK2.out) rfl) rfl ?_
    have hb := below_put3 hb02.out (show w.heap.size ≤ w.heap.size + 1 by omega) (.slice x.fA x.fn x.fc) (.slice x.nA x.nn x.nc) (.slice x.kA x.kn x.kc)
    exact ⟨x, rfl, HG.out.symm, HR.out.below (hb.mono hU), hb⟩
  · have hd : decide (RightD x.d) = false := decide_eq_false hr
    have HG : Hid (goodD x.d = zeroD) := if_neg hr
    rw [hd]
    clear hd hr
    go_wp2
    (try simp only [Exit.inBlock, Exit.then])
    refine bodyPost_ret (ret_disk rfl _ _ (w.heap.size + 1) zeroV.cs rfl (cel_put3 HK2.out) rfl) rfl ?_
    have hb := below_put3 hb02.out (show w.heap.size ≤ w.heap.size + 1 by omega) (.slice none 0 0) (.slice none 0 0) (.slice none 0 0)
    exact ⟨zeroV, rfl, HG.out.symm, RdD.zero _ _, hb⟩


/-! ### lasts -/
theorem uniq_kept {l : List E} {m : Nat} (h : Named l m) {n : N} {f : Int} : (n, f) ∈ l ↔ findE l n = some f := (find_iff h.2).symm
theorem lose_iff (d : D) (h : RightD d) : (!loseJ d) = match findE d.now nJ with
    | none => false
    | some f => decide ((nJ, f) ∈ d.kept) := by
  unfold loseJ
  cases hk : findE d.kept nJ with
  | none =>
    cases hn : findE d.now nJ with
    | none => rfl
    | some f =>
      show false = decide _
      rw [decide_eq_false]
      rw [uniq_kept h.2.1.2.1, hk]
      intro q; cases q
  | some g =>
    cases hn : findE d.now nJ with
    | none => simp
    | some f =>
      show (!decide (some f ≠ some g)) = decide _
      have : decide ((nJ, f) ∈ d.kept) = decide (f = g) := by
        rw [Bool.eq_iff_iff, decide_eq_true_iff, decide_eq_true_iff, uniq_kept h.2.1.2.1, hk]
        exact ⟨fun q => by injection q with q; exact q.symm, fun q => by rw [q]⟩
      rw [this]
      by_cases hfg : f = g
      · simp [hfg]
      · simp [hfg]
set_option maxHeartbeats 2000000 in
theorem lasts_any (x : Dv) (w : World) (h : RdD w.heap.size w x) (hsm : Sm x.d) :
    Calls Tryz.prog 56 #[x.v] w (isB w (!loseJ (goodD x.d))) := by
  obtain ⟨w1, hw1⟩ : ∃ w1, w1 = w.alloc (.cells x.cs 30) := ⟨_, rfl⟩
  have hb1 : Below w.heap.size w w1 := by rw [hw1]; exact (Below.refl _ _).alloc (Nat.le_refl _) _
  have hc1 : Cel w1 w.heap.size 30 x.cs := by rw [hw1]; exact Cel.born w _ _
  have HV := Lib.hid (validJ_any w.heap.size x w1 (h.below hb1) hb1.size hsm)
  have HB1 := Lib.hid hb1
  have HC1 := Lib.hid hc1
  obtain ⟨lb, hlb⟩ : ∃ q, q = !loseJ (goodD x.d) := ⟨_, rfl⟩
  rw [← hlb]
  have HLO := Lib.hid (hlb.trans (lose_iff (goodD x.d) (good_right _)))
  clear h hb1 hsm hc1 hlb
  go_enter Tryz.func56, Tryz.ntmps56
  go_wp2_with fail
  rw [← hw1]
  clear hw1
  refine HV.out.mono ?_
  rintro e w2 ⟨y, rfl, hy, hry, hb2⟩
  rw [← hy] at HLO
  have hb02 := Lib.hid (HB1.out.trans (hb2.mono HB1.out.size))
  have hk1 := HC1.out.below hb2 HC1.out.lt
  obtain ⟨r0, r1, r2⟩ := cel3 hk1
  have f0 := cel_fr hk1 0
  have f1 := cel_fr hk1 1
  have f2 := cel_fr hk1 2
  have HC3 := Lib.hid (cel_put3 (a' := .slice y.fA y.fn y.fc) (b' := .slice y.nA y.nn y.nc) (c' := .slice y.kA y.kn y.kc) hk1)
  have HB3 := Lib.hid (below_put3 hb02.out (Nat.le_refl _) (.slice y.fA y.fn y.fc) (.slice y.nA y.nn y.nc) (.slice y.kA y.kn y.kc))
  have hr3 := hry.below (below_put3 (Below.refl w.heap.size w2) (Nat.le_refl _) (.slice y.fA y.fn y.fc) (.slice y.nA y.nn y.nc) (.slice y.kA y.kn y.kc))
  obtain ⟨w3, hw3⟩ : ∃ w3, w3 = (((w2.setCell ⟨w.heap.size, 0, none⟩ (.slice y.fA y.fn y.fc)).setCell ⟨w.heap.size, 1, none⟩ (.slice y.nA y.nn y.nc)).setCell ⟨w.heap.size, 2, none⟩ (.slice y.kA y.kn y.kc)) := ⟨_, rfl⟩
  rw [← hw3] at HC3 HB3 hr3
  have hr3' := hr3.n.mono HB3.out.size
  have HIX := Lib.hid (indexE_gen0 78 Tryz.call78 w3.heap.size y.nA y.nn y.nc y.now (hitE (fun e => decide (e.1 = nJ)) y.now) (fun _ W => Below w3.heap.size w3 W) w3 hr3' (fun _ W hW => hr3'.below hW) (Below.refl _ _) (fun k s f W hk hW => by
    refine (nameJ_is s f W).mono ?_
    rintro e W' ⟨rfl, hb⟩
    exact ⟨by rw [hit_at hk], hW.trans (hb.mono hW.size)⟩))
  have HR3 := Lib.hid hr3
  have HLn := Lib.hid hr3.n.len
  have hmx := hr3.n.max
  have hcp := hr3.n.cap
  obtain ⟨q0, q1, q2⟩ := cel3 HC3.out
  rw [hw3] at q0 q1 q2
  clear hry hb2 hk1 hr3 hr3' hy
  go_wp2_with fail
  rw [← hw3]
  clear hw3 q0 q1 q2
  refine HIX.out.mono ?_
  rintro e w4 (⟨j, hj, rfl, h1, h2, hb4⟩ | ⟨rfl, h2, hb4⟩)
  · have HB4 := Lib.hid (HB3.out.trans (hb4.mono HB3.out.size))
    have hc4 := HC3.out.below hb4 HC3.out.lt
    obtain ⟨b, o, s, f, eA, hbU, HE, c1, c2⟩ := atE ((HR3.out.n.below (hb4.mono HB3.out.size)).mono HB4.out.size) hj
    obtain rfl : s = nJ := by
      rw [hit_at HE.out] at h1
      simpa using h1
    have hfn : findE y.d.now nJ = some f := find_hit HE.out rfl h2
    rw [hfn] at HLO
    have HCT := Lib.hid (fun W (hW : Below w4.heap.size w4 W) => containsEn_any y.kA y.kn y.kc y.kept nJ f W (((HR3.out.k.below (hb4.mono HB3.out.size)).mono HB4.out.size |>.below hW).mono hW.size))
    obtain ⟨q0, q1, q2⟩ := cel3 hc4
    have K : Hid (∀ W, Below w4.heap.size w4 W → W.cell? ⟨w.heap.size, 2, none⟩ = some (.slice y.kA y.kn y.kc) ∧ W.cell? ⟨w.heap.size, 1, none⟩ = some (.slice (some ⟨b, o, none⟩) y.nn y.nc) ∧ W.cell? ⟨b, o + j * 2, none⟩ = some (.string (ba nJ)) ∧ W.cell? ⟨b, o + j * 2 + 1, none⟩ = some (.int .i64 f)) := fun W hW =>
      ⟨(hW.cell (p := ⟨w.heap.size, 2, none⟩) hc4.lt).trans q2, by rw [← eA]; exact (hW.cell (p := ⟨w.heap.size, 1, none⟩) hc4.lt).trans q1, (hW.cell (p := ⟨b, o + j * 2, none⟩) hbU).trans c1, (hW.cell (p := ⟨b, o + j * 2 + 1, none⟩) hbU).trans c2⟩
    have hj0 : (0 : Int) ≤ (j : Int) := by omega
    have hjz : (j : Int) < (y.nn : Int) := by omega
    generalize hq : decide ((nJ, f) ∈ y.kept) = q at HCT
    have HQ : Hid (lb = q) := by show _ = _; rw [HLO.out]; exact hq
    clear hq h1 h2 hb4 hc4 q0 q1 q2 c1 c2 HE hfn eA HLO
    go_wp2_with fail
    go_region_held3 (fun W => W.cell? ⟨w.heap.size, 2, none⟩ = some (.slice y.kA y.kn y.kc) ∧ W.cell? ⟨w.heap.size, 1, none⟩ = some (.slice (some ⟨b, o, none⟩) y.nn y.nc) ∧ W.cell? ⟨b, o + j * 2, none⟩ = some (.string (ba nJ)) ∧ W.cell? ⟨b, o + j * 2 + 1, none⟩ = some (.int .i64 f))
      (first
        | exact K.out _ (Below.refl _ _)
        | exact K.out _ (Below.refl _ _).drew
        | exact K.out _ hbu9)
      (first
        | (go_simp; go_at_call 79; (with_reducible refine (HCT.out _ (by first | exact Below.refl _ _ | exact (Below.refl _ _).drew)).mono ?_); rintro ee wu ⟨rfl, hbu⟩; have hbu9 : Below w4.heap.size w4 wu := below_undrew hbu))
    all_goals (
      go_wp2
      go_ret
      exact ⟨ret_bool HQ.out.symm, HB4.out.trans (hbu9.mono HB4.out.size)⟩)
  · have HB4 := Lib.hid (HB3.out.trans (hb4.mono HB3.out.size))
    have hfn : findE y.d.now nJ = none := find_none.2 fun e he => by
      have := hit_none (q := fun e => decide (e.1 = nJ)) (l := y.now) (by rw [HLn.out]; exact h2) e he
      simpa using this
    rw [hfn] at HLO
    have hd : decide ((0 : Int) ≤ -1) = false := rfl
    clear h2 hb4 hfn
    go_wp2_with fail
    go_quiet (fail)
    go_wp2
    go_ret
    exact ⟨ret_bool HLO.out.symm, below_drewN HB4.out _⟩
end Go.Proofs.YtlefpodonkdbeaaGreat.Jw
