/- The walks of the five statements of layer 5: each returns true, and what was in memory stays. For all inputs. -/
import Derived.Test.YtibcpdimdjipjaaOwKnows
set_option maxRecDepth 8000
namespace Go.Proofs.Ytibcpdimdjipjaa
open Go.RowKit Tl Ms Co By Ow

theorem not_greatL {ps : List Po} (h : Tw.greatL (osP ps) = false) : ps.length ≤ 100 ∧ ∀ p ∈ ps, p.l.length ≤ 1000 := by
  unfold Tw.greatL at h
  rw [Bool.or_eq_false_iff, List.any_eq_false] at h
  refine ⟨?_, fun p hp => ?_⟩
  · have := h.2
    rw [decide_eq_false_iff_not, os_len] at this
    omega
  · have := h.1 p.o (os_mem hp)
    simp only [decide_eq_true_eq] at this
    have h2 : p.o.2.length = p.l.length := rfl
    omega
theorem same_selfL {l m : List O} (h : l = m) : Tw.sameL l m = true := decide_eq_true h

set_option maxHeartbeats 2000000 in
theorem optsSays_walk (A : Option Addr) (n c : Nat) (ps : List Po) (code : Int) (w : World) (h : RdO w A n c ps) (_ : (Lit.int .i64 code).wf = true) :
    Calls Try.prog 3 #[.slice A n c, .int .i64 code] w (isTrue w) := by
  by_cases hg : Tw.greatL (osP ps) = true
  · have HG := Lib.hid hg
    clear hg
    go_enter Try.func3, Try.ntmps3
    go_wp2_with fail
    refine (Tw.great_any A n c ps _ h).mono ?_
    rw [HG.out]
    rintro e w' ⟨rfl, rfl⟩
    go_wp2_with fail
    refine (knows_yes _).mono ?_
    rintro e wk ⟨rfl, hbk⟩
    go_wp2
    go_ret
    exact ⟨rfl, hbk⟩
  have hg' : Tw.greatL (osP ps) = false := by simpa using hg
  have HG := Lib.hid hg'
  have HS := Lib.hid (not_greatL hg').2
  have hn : n ≤ 1000 := by have e1 := (not_greatL hg').1; have e2 := h.len; omega
  clear hg hg'
  clear hn
  go_enter Try.func3, Try.ntmps3
  go_wp2_with fail
  refine (Tw.great_any A n c ps _ h).mono ?_
  rw [HG.out]
  rintro e w' ⟨rfl, rfl⟩
  go_wp2_with fail
  refine (number4_any A n c ps code _ h HS.out).mono ?_
  rintro e w1 ⟨rfl, hb1⟩
  go_wp2_with fail
  refine (refNumber_any A n c ps code _ (h.below hb1)).mono ?_
  rintro e w2 ⟨rfl, hb2⟩
  have hb02 := hb1.trans (hb2.mono hb1.size)
  go_wp2_with fail
  refine (kindOf_any A n c ps _ (h.below hb02) HS.out).mono ?_
  rintro e w3 ⟨rfl, hb3⟩
  have hb03 := hb02.trans (hb3.mono hb02.size)
  clear hb1 hb2 hb3 hb02
  go_wp2_with fail
  refine (refKind_any A n c ps _ (h.below hb03)).mono ?_
  rintro e w4 ⟨rfl, rfl⟩
  generalize numL (osP ps) code 4 = r
  generalize kindL (osP ps) = kk
  go_wp2_with fail
  refine (listed_any A n c ps _ (h.below hb03) HS.out).mono ?_
  rintro e w4 ⟨A4, m4, c4, rfl, hrd4, hb4⟩
  have hb04 := hb03.trans (hb4.mono hb03.size)
  go_wp2_with fail
  refine (refListed_any A n c ps _ (h.below hb04) HS.out).mono ?_
  rintro e w5 ⟨A5, m5, c5, rfl, hrd5, hb5⟩
  have hb05 := hb04.trans (hb5.mono hb04.size)
  have hrd45 := hrd4.below hb5
  clear hrd4 hb4 hb5 hb03 hb04
  go_wp2_with fail
  refine (sameInts_yes A4 m4 c4 A5 m5 c5 _ _ hrd45 hrd5).mono ?_
  rintro e w6 ⟨rfl, hb6⟩
  have hb06 := hb05.trans (hb6.mono hb05.size)
  clear hrd45 hrd5 hb05 hb6
  go_wp2_with fail
  refine (wants_any A n c ps code _ (h.below hb06) HS.out).mono ?_
  rintro e w7 ⟨rfl, hb7⟩
  have hb07 := hb06.trans (hb7.mono hb06.size)
  go_wp2_with fail
  refine (refWants_any A n c ps code _ (h.below hb07)).mono ?_
  rintro e w8 ⟨rfl, rfl⟩
  generalize hasB (listedL (osP ps)) code = hh
  go_wp2_with fail
  refine (knows_yes _).mono ?_
  rintro e wk ⟨rfl, hbk⟩
  go_wp2
  go_ret
  exact ⟨rfl, hb07.trans (hbk.mono hb07.size)⟩

set_option maxHeartbeats 2000000 in
theorem optsKeeps_walk (A : Option Addr) (n c : Nat) (ps : List Po) (code : Int) (D : Option Addr) (m dc : Nat) (b : List UInt8) (w : World) (h : RdO w A n c ps) (_ : (Lit.int .i64 code).wf = true) (hd : Bs w D m dc b) :
    Calls Try.prog 4 #[.slice A n c, .int .i64 code, .slice D m dc] w (isTrue w) := by
  have hdc := hd.cap
  have hdm := hd.max
  by_cases hg : Tw.greatL (osP ps) = true
  · have HG := Lib.hid hg
    clear hg
    go_enter Try.func4, Try.ntmps4
    go_wp2_with fail
    refine (Tw.great_any A n c ps _ h).mono ?_
    rw [HG.out]
    rintro e w' ⟨rfl, rfl⟩
    go_wp2_with fail
    refine (knows_yes _).mono ?_
    rintro e wk ⟨rfl, hbk⟩
    go_wp2
    go_ret
    exact ⟨rfl, hbk⟩
  have hg' : Tw.greatL (osP ps) = false := by simpa using hg
  have HG := Lib.hid hg'
  have HS := Lib.hid (not_greatL hg').2
  have hn : n ≤ 1000 := by have e1 := (not_greatL hg').1; have e2 := h.len; omega
  clear hg hg'
  by_cases hm : (1000 : Int) < (m : Int)
  · go_enter Try.func4, Try.ntmps4
    go_wp2_with fail
    refine (Tw.great_any A n c ps _ h).mono ?_
    rw [HG.out]
    rintro e w' ⟨rfl, rfl⟩
    go_wp2_with fail
    refine (knows_yes _).mono ?_
    rintro e wk ⟨rfl, hbk⟩
    go_wp2
    go_ret
    exact ⟨rfl, hbk⟩
  have hba : Below w.heap.size w (w.alloc (Obj.cells #[] 5)) := (Below.refl _ _).alloc (Nat.le_refl _) _
  have hl0 := Own.lit0 5 w
  go_enter Try.func4, Try.ntmps4
  go_wp2_with fail
  refine (Tw.great_any A n c ps _ h).mono ?_
  rw [HG.out]
  rintro e w' ⟨rfl, rfl⟩
  go_wp2_with (first | fail | (at_builtin; refine wpList_app byP rfl (.tmp 20) (.tmp 21) rfl rfl hl0 rfl (hd.below hba) (by omega) (by simp) ?_; intro A1 c1 w1 hown1 hb1 _ _))
  simp only [Nat.zero_add, List.nil_append] at hown1
  have hb01 := hba.trans hb1
  have hbs1 := hown1.bs
  clear hown1 hl0 hb1 hba
  by_cases hf : fairO code b = true
  rotate_left
  · have HF := Lib.hid (show fairO code b = false by simpa using hf)
    refine (keep_no A n c code A1 m c1 b _ hbs1 hf).mono ?_
    rintro e w2 ⟨rfl, hb2⟩
    have hb02 := hb01.trans (hb2.mono hb01.size)
    clear hf hbs1
    go_wp2_with fail
    refine (refFair_any code D m dc b _ (hd.below hb02)).mono ?_
    rw [HF.out]
    rintro e w3 ⟨rfl, rfl⟩
    go_wp2_with fail
    refine (knows_yes _).mono ?_
    rintro e wk ⟨rfl, hbk⟩
    go_wp2
    go_ret
    exact ⟨rfl, hb02.trans (hbk.mono hb02.size)⟩
  have HF := Lib.hid hf
  refine (keep_yes A n c ps code A1 m c1 b _ (h.below hb01) hn HS.out hbs1 hf).mono ?_
  rintro e w2 ⟨A2, m2, c2, qs, rfl, hqs, hown2, hb2⟩
  have hb02 := hb01.trans (hb2.mono hb01.size)
  have hrd2 := hown2.rd
  have HQ := Lib.hid hqs
  clear hf hbs1 hown2 hqs
  go_wp2_with fail
  refine (refFair_any code D m dc b _ (hd.below hb02)).mono ?_
  rw [HF.out]
  rintro e w3 ⟨rfl, rfl⟩
  go_wp2_with fail
  refine (refKeep_any A n c ps code D m dc b _ (h.below hb02) hn (hd.below hb02)).mono ?_
  rintro e w3 ⟨A3, m3, c3, rs, rfl, hrs, hrd3, hb3⟩
  have hb03 := hb02.trans (hb3.mono hb02.size)
  have hrd23 := hrd2.below hb3
  have HE := Lib.hid (same_selfL (HQ.out.trans hrs.symm))
  clear hrd2 hrs
  go_wp2_with fail
  refine (Tw.same_any A2 m2 c2 qs A3 m3 c3 rs _ hrd23 hrd3).mono ?_
  rw [HE.out]
  rintro e w4 ⟨rfl, hb4⟩
  have hb04 := hb03.trans (hb4.mono hb03.size)
  clear hrd23 hrd3
  go_wp2_with fail
  refine (knows_yes _).mono ?_
  rintro e wk ⟨rfl, hbk⟩
  go_wp2
  go_ret
  exact ⟨rfl, hb04.trans (hbk.mono hb04.size)⟩

set_option maxHeartbeats 2000000 in
theorem optsSets_walk (A : Option Addr) (n c : Nat) (ps : List Po) (code v k : Int) (w : World) (h : RdO w A n c ps) (_ : (Lit.int .i64 code).wf = true) (_ : (Lit.int .i64 v).wf = true) (_ : (Lit.int .i64 k).wf = true) :
    Calls Try.prog 5 #[.slice A n c, .int .i64 code, .int .i64 v, .int .i64 k] w (isTrue w) := by
  by_cases hg : Tw.greatL (osP ps) = true
  · have HG := Lib.hid hg
    clear hg
    go_enter Try.func5, Try.ntmps5
    go_wp2_with fail
    refine (Tw.great_any A n c ps _ h).mono ?_
    rw [HG.out]
    rintro e w' ⟨rfl, rfl⟩
    go_wp2_with fail
    refine (knows_yes _).mono ?_
    rintro e wk ⟨rfl, hbk⟩
    go_wp2
    go_ret
    exact ⟨rfl, hbk⟩
  have hg' : Tw.greatL (osP ps) = false := by simpa using hg
  have HG := Lib.hid hg'
  have HS := Lib.hid (not_greatL hg').2
  have hn : n ≤ 1000 := by have e1 := (not_greatL hg').1; have e2 := h.len; omega
  clear hg hg'
  by_cases hb : Cw.fairB v k = true
  rotate_left
  · have HB := Lib.hid (show Cw.fairB v k = false by simpa using hb)
    have HK := Lib.hid (set_no A n c code v k w (fun e => hb e.1))
    clear hb
    go_enter Try.func5, Try.ntmps5
    go_wp2_with fail
    refine (Tw.great_any A n c ps _ h).mono ?_
    rw [HG.out]
    rintro e w' ⟨rfl, rfl⟩
    go_wp2_with fail
    refine HK.out.mono ?_
    rintro e w1 ⟨rfl, hb1⟩
    go_wp2_with fail
    refine (Cw.fair_any v k _).mono ?_
    rw [HB.out]
    rintro e w2 ⟨rfl, rfl⟩
    go_wp2_with fail
    refine (knows_yes _).mono ?_
    rintro e wk ⟨rfl, hbk⟩
    go_wp2
    go_ret
    exact ⟨rfl, hb1.trans (hbk.mono hb1.size)⟩
  have HB := Lib.hid hb
  by_cases hf : fairO code [] = true
  rotate_left
  · have HF := Lib.hid (show fairO code [] = false by simpa using hf)
    have HK := Lib.hid (set_no A n c code v k w (fun e => hf e.2))
    clear hb hf
    go_enter Try.func5, Try.ntmps5
    go_wp2_with fail
    refine (Tw.great_any A n c ps _ h).mono ?_
    rw [HG.out]
    rintro e w' ⟨rfl, rfl⟩
    go_wp2_with fail
    refine HK.out.mono ?_
    rintro e w1 ⟨rfl, hb1⟩
    go_wp2_with fail
    refine (Cw.fair_any v k _).mono ?_
    rw [HB.out]
    rintro e w2 ⟨rfl, rfl⟩
    go_wp2_with fail
    refine (refFair_any code none 0 0 [] _ (Bs.nil _)).mono ?_
    rw [HF.out]
    rintro e w2 ⟨rfl, rfl⟩
    go_wp2_with fail
    refine (knows_yes _).mono ?_
    rintro e wk ⟨rfl, hbk⟩
    go_wp2
    go_ret
    exact ⟨rfl, hb1.trans (hbk.mono hb1.size)⟩
  have HF := Lib.hid hf
  have HK := Lib.hid (set_yes A n c ps code v k w h hn HS.out hb hf)
  obtain ⟨h1, h2, h3, h4⟩ := (fairB_iff v k).1 hb
  obtain ⟨v', rfl⟩ := Int.eq_ofNat_of_zero_le h3
  obtain ⟨k', rfl⟩ := Int.eq_ofNat_of_zero_le (show 0 ≤ k by omega)
  have hk7 : k' ≤ 7 := by omega
  have hv63 : v' < 9223372036854775808 := by
    simp only [Int.toNat_natCast] at h4
    have : p256 k' ≤ 72057594037927936 := p256_le hk7
    omega
  clear hb hf h3 h4
  go_enter Try.func5, Try.ntmps5
  go_wp2_with fail
  refine (Tw.great_any A n c ps _ h).mono ?_
  rw [HG.out]
  rintro e w' ⟨rfl, rfl⟩
  go_wp2_with fail
  refine HK.out.mono ?_
  rintro e w1 ⟨A1, m1, c1, qs, rfl, hqs, hown1, hb1⟩
  have hrd1 := hown1.rd
  have HQ := Lib.hid hqs
  clear hown1 hqs
  go_wp2_with fail
  refine (Cw.fair_any _ _ _).mono ?_
  rw [HB.out]
  rintro e w2 ⟨rfl, rfl⟩
  go_wp2_with fail
  refine (refFair_any code none 0 0 [] _ (Bs.nil _)).mono ?_
  rw [HF.out]
  rintro e w2 ⟨rfl, rfl⟩
  go_wp2_with fail
  refine (Cw.refPut_any k' v' _ hk7 hv63).mono ?_
  rintro e w2 ⟨A2, c2, rfl, hown2, hb2⟩
  have hb02 := hb1.trans (hb2.mono hb1.size)
  have hbs2 := hown2.bs
  clear hown2
  go_wp2_with fail
  refine (refKeep_any A n c ps code A2 k' c2 _ _ (h.below hb02) hn hbs2).mono ?_
  rintro e w3 ⟨A3, m3, c3, rs, rfl, hrs, hrd3, hb3⟩
  have hb03 := hb02.trans (hb3.mono hb02.size)
  have hrd13 := (hrd1.below hb2).below hb3
  have HE := Lib.hid (same_selfL (HQ.out.trans hrs.symm))
  clear hrd1 hrs hbs2
  go_wp2_with fail
  refine (Tw.same_any A1 m1 c1 qs A3 m3 c3 rs _ hrd13 hrd3).mono ?_
  rw [HE.out]
  rintro e w4 ⟨rfl, hb4⟩
  have hb04 := hb03.trans (hb4.mono hb03.size)
  clear hrd13 hrd3
  go_wp2_with fail
  refine (knows_yes _).mono ?_
  rintro e wk ⟨rfl, hbk⟩
  go_wp2
  go_ret
  exact ⟨rfl, hb04.trans (hbk.mono hb04.size)⟩

set_option maxHeartbeats 4000000 in
theorem optsOthers_walk (A : Option Addr) (n c : Nat) (ps : List Po) (code : Int) (D : Option Addr) (m dc : Nat) (b : List UInt8) (other : Int) (w : World) (h : RdO w A n c ps) (_ : (Lit.int .i64 code).wf = true) (hd : Bs w D m dc b) (_ : (Lit.int .i64 other).wf = true) :
    Calls Try.prog 7 #[.slice A n c, .int .i64 code, .slice D m dc, .int .i64 other] w (isTrue w) := by
  have hdc := hd.cap
  have hdm := hd.max
  by_cases hg : Tw.greatL (osP ps) = true
  · have HG := Lib.hid hg
    clear hg
    go_enter Try.func7, Try.ntmps7
    go_wp2_with fail
    refine (Tw.great_any A n c ps _ h).mono ?_
    rw [HG.out]
    rintro e w' ⟨rfl, rfl⟩
    go_wp2_with fail
    refine (knows_yes _).mono ?_
    rintro e wk ⟨rfl, hbk⟩
    go_wp2
    go_ret
    exact ⟨rfl, hbk⟩
  have hg' : Tw.greatL (osP ps) = false := by simpa using hg
  have HG := Lib.hid hg'
  have HS := Lib.hid (not_greatL hg').2
  have hn : n ≤ 1000 := by have e1 := (not_greatL hg').1; have e2 := h.len; omega
  clear hg hg'
  by_cases hm : (1000 : Int) < (m : Int)
  · go_enter Try.func7, Try.ntmps7
    go_wp2_with fail
    refine (Tw.great_any A n c ps _ h).mono ?_
    rw [HG.out]
    rintro e w' ⟨rfl, rfl⟩
    go_wp2_with fail
    refine (knows_yes _).mono ?_
    rintro e wk ⟨rfl, hbk⟩
    go_wp2
    go_ret
    exact ⟨rfl, hbk⟩
  by_cases hco : code = other
  · have hceq : (code == other) = true := by simpa using hco
    clear hco
    go_enter Try.func7, Try.ntmps7
    go_wp2_with fail
    refine (Tw.great_any A n c ps _ h).mono ?_
    rw [HG.out]
    rintro e w' ⟨rfl, rfl⟩
    go_wp2_with fail
    refine (knows_yes _).mono ?_
    rintro e wk ⟨rfl, hbk⟩
    go_wp2
    go_ret
    exact ⟨rfl, hbk⟩
  have hceq : (code == other) = false := by simpa using hco
  have HNE := Lib.hid hco
  clear hco
  obtain ⟨r, HR⟩ : ∃ r, Hid (rightL (osP ps) = r) := ⟨_, rfl⟩
  cases r with
  | false =>
    go_enter Try.func7, Try.ntmps7
    go_wp2_with fail
    refine (Tw.great_any A n c ps _ h).mono ?_
    rw [HG.out]
    rintro e w' ⟨rfl, rfl⟩
    go_wp2_with fail
    refine (Tw.refRight_any A n c ps _ h).mono ?_
    rw [HR.out]
    rintro e w' ⟨rfl, rfl⟩
    go_wp2_with fail
    refine (knows_yes _).mono ?_
    rintro e wk ⟨rfl, hbk⟩
    go_wp2
    go_ret
    exact ⟨rfl, hbk⟩
  | true =>
    by_cases hf : fairO code b = true
    rotate_left
    · have HF := Lib.hid (show fairO code b = false by simpa using hf)
      have HK := Lib.hid (keep_no A n c code D m dc b w hd hf)
      clear hf
      go_enter Try.func7, Try.ntmps7
      go_wp2_with fail
      refine (Tw.great_any A n c ps _ h).mono ?_
      rw [HG.out]
      rintro e w' ⟨rfl, rfl⟩
      go_wp2_with fail
      refine (Tw.refRight_any A n c ps _ h).mono ?_
      rw [HR.out]
      rintro e w' ⟨rfl, rfl⟩
      go_wp2_with fail
      refine HK.out.mono ?_
      rintro e w2 ⟨rfl, hb2⟩
      go_wp2_with fail
      refine (refFair_any code D m dc b _ (hd.below hb2)).mono ?_
      rw [HF.out]
      rintro e w3 ⟨rfl, rfl⟩
      go_wp2_with fail
      refine (knows_yes _).mono ?_
      rintro e wk ⟨rfl, hbk⟩
      go_wp2
      go_ret
      exact ⟨rfl, hb2.trans (hbk.mono hb2.size)⟩
    have HK := Lib.hid (keep_yes A n c ps code D m dc b w h hn HS.out hd hf)
    have HFO := Lib.hid (find_other (osP ps) b HNE.out)
    have HFK := Lib.hid (find_kept (osP ps) code b)
    have HHK := Lib.hid (has_kept (osP ps) code b)
    clear hf
    go_enter Try.func7, Try.ntmps7
    go_wp2_with fail
    refine (Tw.great_any A n c ps _ h).mono ?_
    rw [HG.out]
    rintro e w' ⟨rfl, rfl⟩
    go_wp2_with fail
    refine (Tw.refRight_any A n c ps _ h).mono ?_
    rw [HR.out]
    rintro e w' ⟨rfl, rfl⟩
    go_wp2_with fail
    refine HK.out.mono ?_
    rintro e w2 ⟨A2, m2, c2, qs, rfl, hqs, hown2, hb2⟩
    have hrd2 := hown2.rd
    have HQ := Lib.hid hqs
    clear hown2 hqs
    go_wp2_with fail
    refine (Tw.refFind_any A n c ps other _ (h.below hb2)).mono ?_
    rintro e w3 ⟨X, mx, cx, rfl, hbx, rfl⟩
    go_wp2_with fail
    refine (Tw.refFind_any A2 m2 c2 qs other _ hrd2).mono ?_
    rw [HQ.out, HFO.out]
    rintro e w3 ⟨Y, my, cy, rfl, hby, rfl⟩
    go_wp2_with fail
    refine (Tw.refFind_any A2 m2 c2 qs code _ hrd2).mono ?_
    rw [HQ.out, HFK.out]
    rintro e w3 ⟨Z, mz, cz, rfl, hbz, rfl⟩
    have hbz' : Bs w2 Z mz cz b := hbz
    have hcv1 := byP.str hbx
    have hcv2 := byP.str hby
    have hcv3 := byP.str hbz'
    have hcv4 := byP.str (hd.below hb2)
    clear hbx hby hbz hbz'
    generalize (findL (osP ps) other).getD [] = fx at hcv1 hcv2
    generalize (findL (osP ps) other).isSome = sx
    go_wp2_with fail
    refine (Tw.has_any A2 m2 c2 qs code _ hrd2).mono ?_
    rw [HQ.out, HHK.out]
    rintro e w3 ⟨rfl, rfl⟩
    go_wp2_with fail
    refine (knows_yes _).mono ?_
    rintro e wk ⟨rfl, hbk⟩
    go_wp2
    go_ret
    exact ⟨rfl, hb2.trans (hbk.mono hb2.size)⟩

end Go.Proofs.Ytibcpdimdjipjaa
