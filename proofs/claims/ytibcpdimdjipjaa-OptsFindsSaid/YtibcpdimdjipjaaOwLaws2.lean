/- The walk of OptsFinds: true, and what was in memory stays. For all inputs. -/
import Derived.Test.YtibcpdimdjipjaaOwLaws
set_option maxRecDepth 8000
namespace Go.Proofs.Ytibcpdimdjipjaa
open Go.RowKit Tl Ms Co By Ow

set_option maxHeartbeats 16000000 in
theorem optsFinds_walk (A : Option Addr) (n c : Nat) (ps : List Po) (code v : Int) (w : World) (h : RdO w A n c ps) (_ : (Lit.int .i64 code).wf = true) (_ : (Lit.int .i64 v).wf = true) :
    Calls Try.prog 6 #[.slice A n c, .int .i64 code, .int .i64 v] w (isTrue w) := by
  by_cases hg : Tw.greatL (osP ps) = true
  · have HG := Lib.hid hg
    clear hg
    go_enter Try.func6, Try.ntmps6
    go_wp2_with fail
    refine (Tw.great_any A n c ps _ h).mono ?_
    rw [HG.out]
    rintro e w' ⟨rfl, rfl⟩
    go_wp2_with fail
    refine (knows_yes _).mono ?_
    rintro e wk ⟨rfl, hbk⟩
    go_wp2
    go_ret
    exact ⟨rfl, hbk⟩
  have hg' : Tw.greatL (osP ps) = false := by simpa using hg
  have HG := Lib.hid hg'
  have HS := Lib.hid (not_greatL hg').2
  have hn : n ≤ 1000 := by have e1 := (not_greatL hg').1; have e2 := h.len; omega
  clear hg hg'
  have HF53 := Lib.hid (show fairO 53 [] = true by decide +kernel)
  by_cases hA : Cw.fairB v 4 = true ∧ fairO code [] = true
  · have HB4 := Lib.hid hA.1
    have HK1 := Lib.hid (set_yes A n c ps code v 4 w h hn HS.out hA.1 hA.2)
    have hv0 : 0 ≤ v := ((fairB_iff v 4).1 hA.1).2.2.1
    have HNU : Hid (numL (setL (osP ps) code v 4) code 4 = some v.toNat) := num_set (osP ps) code (v := v) (k := 4) hA.1
    clear hA
    -- the second number
    by_cases hb1f : Cw.fairB v 1 = true
    · have HB1 := Lib.hid hb1f
      obtain ⟨_, _, h3, h4⟩ := (fairB_iff v 1).1 hb1f
      have h4' : v < 256 := h4
      obtain ⟨v', rfl⟩ := Int.eq_ofNat_of_zero_le h3
      have HN1 : Hid (numL (setL (osP ps) 53 (v' : Int) 1) 53 1 = some v') := num_set (osP ps) 53 (v := (v' : Int)) (k := 1) hb1f
      clear hb1f h3 h4
      clear hv0
      have HNU' : Hid (numL (setL (osP ps) code (v' : Int) 4) code 4 = some v') := HNU.out
      clear HNU
      have HNU := HNU'
      clear HNU'
      by_cases hv : 1 ≤ v' ∧ v' ≤ 8
      · have HKI := Lib.hid (kind_yes HN1.out hv.1 hv.2)
        clear hv
        go_enter Try.func6, Try.ntmps6
        go_wp2_with fail
        refine (Tw.great_any A n c ps _ h).mono ?_
        rw [HG.out]
        rintro e w' ⟨rfl, rfl⟩
        go_wp2_with fail
        refine HK1.out.mono ?_
        rintro e w1 ⟨A1, m1, c1, q1, rfl, hq1, hown1, hb1⟩
        have hrd1 := hown1.rd
        have HN4 := Lib.hid (number4_any A1 m1 c1 q1 code _ hrd1 (set_small HS.out HB4.out hq1))
        rw [hq1, HNU.out] at HN4
        clear hown1 hq1 hrd1
        go_wp2_with fail
        refine HN4.out.mono ?_
        rintro e w2 ⟨rfl, hb2⟩
        have hb02 := hb1.trans (hb2.mono hb1.size)
        have HK2 := Lib.hid (set_yes A n c ps 53 (v' : Int) 1 w2 (h.below hb02) hn HS.out HB1.out HF53.out)
        clear HN4
        go_wp2_with fail
        refine HK2.out.mono ?_
        rintro e w5 ⟨A5, m5, c5, q5, rfl, hq5, hown5, hb5⟩
        have hb05 := hb02.trans (hb5.mono hb02.size)
        have hrd5 := hown5.rd
        have HKO := Lib.hid (kindOf_any A5 m5 c5 q5 _ hrd5 (set_small HS.out HB1.out hq5))
        rw [hq5, HKI.out] at HKO
        clear hown5 hq5 hrd5
        go_wp2_with fail
        refine HKO.out.mono ?_
        rintro e w6 ⟨rfl, hb6⟩
        have hb06 := hb05.trans (hb6.mono hb05.size)
        go_wp2_with fail
        refine (knows_yes _).mono ?_
        rintro e wk ⟨rfl, hbk⟩
        go_wp2
        go_ret
        exact ⟨rfl, hb06.trans (hbk.mono hb06.size)⟩
      · have HKI := Lib.hid (kind_out HN1.out hv)
        by_cases h0 : v' = 0
        · have heq : ((0 : Int) == (v' : Int)) = true := by simp; omega
          clear hv h0
          go_enter Try.func6, Try.ntmps6
          go_wp2_with fail
          refine (Tw.great_any A n c ps _ h).mono ?_
          rw [HG.out]
          rintro e w' ⟨rfl, rfl⟩
          go_wp2_with fail
          refine HK1.out.mono ?_
          rintro e w1 ⟨A1, m1, c1, q1, rfl, hq1, hown1, hb1⟩
          have hrd1 := hown1.rd
          have HN4 := Lib.hid (number4_any A1 m1 c1 q1 code _ hrd1 (set_small HS.out HB4.out hq1))
          rw [hq1, HNU.out] at HN4
          clear hown1 hq1 hrd1
          go_wp2_with fail
          refine HN4.out.mono ?_
          rintro e w2 ⟨rfl, hb2⟩
          have hb02 := hb1.trans (hb2.mono hb1.size)
          have HK2 := Lib.hid (set_yes A n c ps 53 (v' : Int) 1 w2 (h.below hb02) hn HS.out HB1.out HF53.out)
          clear HN4
          go_wp2_with fail
          refine HK2.out.mono ?_
          rintro e w5 ⟨A5, m5, c5, q5, rfl, hq5, hown5, hb5⟩
          have hb05 := hb02.trans (hb5.mono hb02.size)
          have hrd5 := hown5.rd
          have HKO := Lib.hid (kindOf_any A5 m5 c5 q5 _ hrd5 (set_small HS.out HB1.out hq5))
          rw [hq5, HKI.out] at HKO
          clear hown5 hq5 hrd5
          go_wp2_with fail
          refine HKO.out.mono ?_
          rintro e w6 ⟨rfl, hb6⟩
          have hb06 := hb05.trans (hb6.mono hb05.size)
          go_wp2_with fail
          refine (knows_yes _).mono ?_
          rintro e wk ⟨rfl, hbk⟩
          go_wp2
          go_ret
          exact ⟨rfl, hb06.trans (hbk.mono hb06.size)⟩
        · have h8 : (8 : Int) < (v' : Int) := by omega
          have hne : ((0 : Int) == (v' : Int)) = false := by simp; omega
          have hd1 : decide ((v' : Int) < 1) = false := by simp; omega
          have hd2 : decide ((8 : Int) < (v' : Int)) = true := by simp; omega
          clear hv h0 h8 h4'
          go_enter Try.func6, Try.ntmps6
          go_wp2_with fail
          refine (Tw.great_any A n c ps _ h).mono ?_
          rw [HG.out]
          rintro e w' ⟨rfl, rfl⟩
          go_wp2_with fail
          refine HK1.out.mono ?_
          rintro e w1 ⟨A1, m1, c1, q1, rfl, hq1, hown1, hb1⟩
          have hrd1 := hown1.rd
          have HN4 := Lib.hid (number4_any A1 m1 c1 q1 code _ hrd1 (set_small HS.out HB4.out hq1))
          rw [hq1, HNU.out] at HN4
          clear hown1 hq1 hrd1
          go_wp2_with fail
          refine HN4.out.mono ?_
          rintro e w2 ⟨rfl, hb2⟩
          have hb02 := hb1.trans (hb2.mono hb1.size)
          have HK2 := Lib.hid (set_yes A n c ps 53 (v' : Int) 1 w2 (h.below hb02) hn HS.out HB1.out HF53.out)
          clear HN4
          go_wp2_with fail
          refine HK2.out.mono ?_
          rintro e w5 ⟨A5, m5, c5, q5, rfl, hq5, hown5, hb5⟩
          have hb05 := hb02.trans (hb5.mono hb02.size)
          have hrd5 := hown5.rd
          have HKO := Lib.hid (kindOf_any A5 m5 c5 q5 _ hrd5 (set_small HS.out HB1.out hq5))
          rw [hq5, HKI.out] at HKO
          clear hown5 hq5 hrd5
          go_wp2_with fail
          refine HKO.out.mono ?_
          rintro e w6 ⟨rfl, hb6⟩
          have hb06 := hb05.trans (hb6.mono hb05.size)
          go_wp2_with fail
          refine (knows_yes _).mono ?_
          rintro e wk ⟨rfl, hbk⟩
          go_wp2
          go_ret
          exact ⟨rfl, hb06.trans (hbk.mono hb06.size)⟩
    · have HB1 := Lib.hid hb1f
      have hr : 255 < v := by
        rw [fairB_iff] at hb1f
        have e : ((p256 (1 : Int).toNat : Nat) : Int) = 256 := by decide +kernel
        rw [e] at hb1f
        omega
      have hr2 : ¬ v < 0 := by omega
      clear hb1f hv0
      go_enter Try.func6, Try.ntmps6
      go_wp2_with fail
      refine (Tw.great_any A n c ps _ h).mono ?_
      rw [HG.out]
      rintro e w' ⟨rfl, rfl⟩
      go_wp2_with fail
      refine HK1.out.mono ?_
      rintro e w1 ⟨A1, m1, c1, q1, rfl, hq1, hown1, hb1⟩
      have hrd1 := hown1.rd
      have HN4 := Lib.hid (number4_any A1 m1 c1 q1 code _ hrd1 (set_small HS.out HB4.out hq1))
      rw [hq1, HNU.out] at HN4
      clear hown1 hq1 hrd1
      go_wp2_with fail
      refine HN4.out.mono ?_
      rintro e w2 ⟨rfl, hb2⟩
      have hb02 := hb1.trans (hb2.mono hb1.size)
      have HK2 := Lib.hid (set_no A n c 53 v 1 w2 (fun e => HB1.out e.1))
      clear HN4
      go_wp2_with fail
      refine HK2.out.mono ?_
      rintro e w5 ⟨rfl, hb5⟩
      have hb05 := hb02.trans (hb5.mono hb02.size)
      go_wp2_with fail
      refine (knows_yes _).mono ?_
      rintro e wk ⟨rfl, hbk⟩
      go_wp2
      go_ret
      exact ⟨rfl, hb05.trans (hbk.mono hb05.size)⟩
  have HK1 := Lib.hid (set_no A n c code v 4 w hA)
  clear hA
  -- the second number
  by_cases hb1f : Cw.fairB v 1 = true
  · have HB1 := Lib.hid hb1f
    obtain ⟨_, _, h3, h4⟩ := (fairB_iff v 1).1 hb1f
    have h4' : v < 256 := h4
    obtain ⟨v', rfl⟩ := Int.eq_ofNat_of_zero_le h3
    have HN1 : Hid (numL (setL (osP ps) 53 (v' : Int) 1) 53 1 = some v') := num_set (osP ps) 53 (v := (v' : Int)) (k := 1) hb1f
    clear hb1f h3 h4
    by_cases hv : 1 ≤ v' ∧ v' ≤ 8
    · have HKI := Lib.hid (kind_yes HN1.out hv.1 hv.2)
      clear hv
      go_enter Try.func6, Try.ntmps6
      go_wp2_with fail
      refine (Tw.great_any A n c ps _ h).mono ?_
      rw [HG.out]
      rintro e w' ⟨rfl, rfl⟩
      go_wp2_with fail
      refine HK1.out.mono ?_
      rintro e w1 ⟨rfl, hb1⟩
      have HK2 := Lib.hid (set_yes A n c ps 53 (v' : Int) 1 w1 (h.below hb1) hn HS.out HB1.out HF53.out)
      go_wp2_with fail
      refine HK2.out.mono ?_
      rintro e w5 ⟨A5, m5, c5, q5, rfl, hq5, hown5, hb5⟩
      have hb05 := hb1.trans (hb5.mono hb1.size)
      have hrd5 := hown5.rd
      have HKO := Lib.hid (kindOf_any A5 m5 c5 q5 _ hrd5 (set_small HS.out HB1.out hq5))
      rw [hq5, HKI.out] at HKO
      clear hown5 hq5 hrd5
      go_wp2_with fail
      refine HKO.out.mono ?_
      rintro e w6 ⟨rfl, hb6⟩
      have hb06 := hb05.trans (hb6.mono hb05.size)
      go_wp2_with fail
      refine (knows_yes _).mono ?_
      rintro e wk ⟨rfl, hbk⟩
      go_wp2
      go_ret
      exact ⟨rfl, hb06.trans (hbk.mono hb06.size)⟩
    · have HKI := Lib.hid (kind_out HN1.out hv)
      by_cases h0 : v' = 0
      · have heq : ((0 : Int) == (v' : Int)) = true := by simp; omega
        clear hv h0
        go_enter Try.func6, Try.ntmps6
        go_wp2_with fail
        refine (Tw.great_any A n c ps _ h).mono ?_
        rw [HG.out]
        rintro e w' ⟨rfl, rfl⟩
        go_wp2_with fail
        refine HK1.out.mono ?_
        rintro e w1 ⟨rfl, hb1⟩
        have HK2 := Lib.hid (set_yes A n c ps 53 (v' : Int) 1 w1 (h.below hb1) hn HS.out HB1.out HF53.out)
        go_wp2_with fail
        refine HK2.out.mono ?_
        rintro e w5 ⟨A5, m5, c5, q5, rfl, hq5, hown5, hb5⟩
        have hb05 := hb1.trans (hb5.mono hb1.size)
        have hrd5 := hown5.rd
        have HKO := Lib.hid (kindOf_any A5 m5 c5 q5 _ hrd5 (set_small HS.out HB1.out hq5))
        rw [hq5, HKI.out] at HKO
        clear hown5 hq5 hrd5
        go_wp2_with fail
        refine HKO.out.mono ?_
        rintro e w6 ⟨rfl, hb6⟩
        have hb06 := hb05.trans (hb6.mono hb05.size)
        go_wp2_with fail
        refine (knows_yes _).mono ?_
        rintro e wk ⟨rfl, hbk⟩
        go_wp2
        go_ret
        exact ⟨rfl, hb06.trans (hbk.mono hb06.size)⟩
      · have h8 : (8 : Int) < (v' : Int) := by omega
        have hne : ((0 : Int) == (v' : Int)) = false := by simp; omega
        have hd1 : decide ((v' : Int) < 1) = false := by simp; omega
        have hd2 : decide ((8 : Int) < (v' : Int)) = true := by simp; omega
        clear hv h0 h8 h4'
        go_enter Try.func6, Try.ntmps6
        go_wp2_with fail
        refine (Tw.great_any A n c ps _ h).mono ?_
        rw [HG.out]
        rintro e w' ⟨rfl, rfl⟩
        go_wp2_with fail
        refine HK1.out.mono ?_
        rintro e w1 ⟨rfl, hb1⟩
        have HK2 := Lib.hid (set_yes A n c ps 53 (v' : Int) 1 w1 (h.below hb1) hn HS.out HB1.out HF53.out)
        go_wp2_with fail
        refine HK2.out.mono ?_
        rintro e w5 ⟨A5, m5, c5, q5, rfl, hq5, hown5, hb5⟩
        have hb05 := hb1.trans (hb5.mono hb1.size)
        have hrd5 := hown5.rd
        have HKO := Lib.hid (kindOf_any A5 m5 c5 q5 _ hrd5 (set_small HS.out HB1.out hq5))
        rw [hq5, HKI.out] at HKO
        clear hown5 hq5 hrd5
        go_wp2_with fail
        refine HKO.out.mono ?_
        rintro e w6 ⟨rfl, hb6⟩
        have hb06 := hb05.trans (hb6.mono hb05.size)
        go_wp2_with fail
        refine (knows_yes _).mono ?_
        rintro e wk ⟨rfl, hbk⟩
        go_wp2
        go_ret
        exact ⟨rfl, hb06.trans (hbk.mono hb06.size)⟩
  · have HB1 := Lib.hid hb1f
    have hr : v < 0 ∨ 255 < v := by
      rw [fairB_iff] at hb1f
      have e : ((p256 (1 : Int).toNat : Nat) : Int) = 256 := by decide +kernel
      rw [e] at hb1f
      omega
    clear hb1f
    rcases hr with hr | hr
    · go_enter Try.func6, Try.ntmps6
      go_wp2_with fail
      refine (Tw.great_any A n c ps _ h).mono ?_
      rw [HG.out]
      rintro e w' ⟨rfl, rfl⟩
      go_wp2_with fail
      refine HK1.out.mono ?_
      rintro e w1 ⟨rfl, hb1⟩
      have HK2 := Lib.hid (set_no A n c 53 v 1 w1 (fun e => HB1.out e.1))
      go_wp2_with fail
      refine HK2.out.mono ?_
      rintro e w5 ⟨rfl, hb5⟩
      have hb05 := hb1.trans (hb5.mono hb1.size)
      go_wp2_with fail
      refine (knows_yes _).mono ?_
      rintro e wk ⟨rfl, hbk⟩
      go_wp2
      go_ret
      exact ⟨rfl, hb05.trans (hbk.mono hb05.size)⟩
    · have hr2 : ¬ v < 0 := by omega
      go_enter Try.func6, Try.ntmps6
      go_wp2_with fail
      refine (Tw.great_any A n c ps _ h).mono ?_
      rw [HG.out]
      rintro e w' ⟨rfl, rfl⟩
      go_wp2_with fail
      refine HK1.out.mono ?_
      rintro e w1 ⟨rfl, hb1⟩
      have HK2 := Lib.hid (set_no A n c 53 v 1 w1 (fun e => HB1.out e.1))
      go_wp2_with fail
      refine HK2.out.mono ?_
      rintro e w5 ⟨rfl, hb5⟩
      have hb05 := hb1.trans (hb5.mono hb1.size)
      go_wp2_with fail
      refine (knows_yes _).mono ?_
      rintro e wk ⟨rfl, hbk⟩
      go_wp2
      go_ret
      exact ⟨rfl, hb05.trans (hbk.mono hb05.size)⟩
end Go.Proofs.Ytibcpdimdjipjaa
