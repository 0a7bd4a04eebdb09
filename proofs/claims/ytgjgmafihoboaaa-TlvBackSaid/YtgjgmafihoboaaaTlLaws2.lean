/- The walks of TlvBack, TlvAny and TlvRows: each returns true, and what was in memory stays. For all inputs. -/
import Derived.Test.YtgjgmafihoboaaaTlLaws
namespace Go.Proofs.Ytgjgmafihoboaaa
open Go.RowKit Tl By

theorem write_len {l : List O} (h : rightL l = true) : (writeL l).length ≤ 72121 := by
  have := body_len_right h l.length
  rw [List.take_length] at this
  unfold writeL
  rw [List.length_append]
  simp
  omega

set_option maxHeartbeats 1600000 in
theorem tlvBack_walk (A : Option Addr) (n c : Nat) (ps : List Po) (B : Option Addr) (m d : Nat) (r : List UInt8) (w : World) (h : RdO w A n c ps) (g : Bs w B m d r) :
    Calls Try.prog 7 #[.slice A n c, .slice B m d] w (isTrue w) := by
  have gm := g.max
  have gcap := g.cap
  by_cases hg : greatL (osP ps) = true
  · have HG := Lib.hid hg
    clear hg
    go_enter Try.func7, Try.ntmps7
    go_wp2_with fail
    refine (great_any A n c ps _ h).mono ?_
    rw [HG.out]
    rintro e w' ⟨rfl, rfl⟩
    go_wp2_with fail
    refine (knows_yes _).mono ?_
    rintro e w1 ⟨rfl, hb1⟩
    go_wp2
    go_ret
    exact ⟨rfl, hb1⟩
  have hg' : greatL (osP ps) = false := by simpa using hg
  have HG := Lib.hid hg'
  clear hg hg'
  by_cases hg2 : 1000 < m
  · go_enter Try.func7, Try.ntmps7
    go_wp2_with fail
    refine (great_any A n c ps _ h).mono ?_
    rw [HG.out]
    rintro e w' ⟨rfl, rfl⟩
    go_wp2_with fail
    refine (knows_yes _).mono ?_
    rintro e w1 ⟨rfl, hb1⟩
    go_wp2
    go_ret
    exact ⟨rfl, hb1⟩
  by_cases hr : rightL (osP ps) = true
  rotate_left
  · have hr' : rightL (osP ps) = false := by simpa using hr
    have HR := Lib.hid hr'
    clear hr hr'
    go_enter Try.func7, Try.ntmps7
    go_wp2_with fail
    refine (great_any A n c ps _ h).mono ?_
    rw [HG.out]
    rintro e w' ⟨rfl, rfl⟩
    go_wp2_with fail
    refine (write_no A n c ps _ h HR.out).mono ?_
    rintro e w1 ⟨rfl, hb1⟩
    go_wp2_with fail
    refine (knows_yes _).mono ?_
    rintro e w2 ⟨rfl, hb2⟩
    go_wp2
    go_ret
    exact ⟨rfl, hb1.trans (hb2.mono hb1.size)⟩
  have HR := Lib.hid hr
  have HRB := Lib.hid (read_back hr r)
  have HWL := Lib.hid (write_len hr)
  clear hr
  go_enter Try.func7, Try.ntmps7
  go_wp2_with fail
  refine (great_any A n c ps _ h).mono ?_
  rw [HG.out]
  rintro e w' ⟨rfl, rfl⟩
  go_wp2_with fail
  refine (write_yes A n c ps _ h HR.out).mono ?_
  rintro e w1 ⟨A1, m1, c1, rfl, hown1, hb1⟩
  have hm1 : m1 ≤ 72121 := by rw [← hown1.bs.len]; exact HWL.out
  have hba : Below w1.heap.size w1 (w1.alloc (Obj.cells #[] 5)) := (Below.refl _ _).alloc (Nat.le_refl _) _
  have hbs1 := (hown1.below hba).bs
  have g1 := (g.below hb1).below hba
  clear hown1
  go_wp2_with (first
    | fail
    | (at_builtin; refine wpList_app byP rfl (.tmp 31) (.tmp 32) rfl rfl (Own.lit0 5 w1) rfl hbs1 (by omega) (by simp) ?_; intro A2 c2 w2 hown2 hb2 _ _; simp only [Nat.zero_add, List.nil_append] at hown2; have hb12 := hba.trans hb2)
    | (at_builtin; refine wpList_app byP rfl (.tmp 33) (.tmp 34) rfl rfl hown2 rfl ((g.below hb1).below hb12) (by omega) hb12.size ?_; intro A3 c3 w3 hown3 hb3 _ _))
  have hb13 := hb12.trans hb3
  have hb03 := hb1.trans (hb13.mono hb1.size)
  refine (read_any _ _ _ _ _ hown3.bs).mono ?_
  rw [HRB.out]
  rintro e w4 ⟨A4, n4, c4, ps4, rfl, hps4, hown4, hb4⟩
  have hb04 : Below w.heap.size w w4 := hb03.trans (hb4.mono hb03.size)
  have HQ := Lib.hid (same_self hps4.symm)
  have hrd4 := hown4.rd
  clear hps4 hown4 hown3 hown2 hbs1 g1
  go_wp2_with fail
  refine (same_any _ _ _ _ _ _ _ _ _ (h.below hb04) hrd4).mono ?_
  rw [HQ.out]
  rintro e w5 ⟨rfl, hb5⟩
  have hb05 : Below w.heap.size w w5 := hb04.trans (hb5.mono hb04.size)
  go_wp2_with fail
  refine (knows_yes _).mono ?_
  rintro e w6 ⟨rfl, hb6⟩
  go_wp2
  go_ret
  exact ⟨rfl, hb05.trans (hb6.mono hb05.size)⟩

set_option maxRecDepth 100000 in
set_option maxHeartbeats 1600000 in
theorem tlvRows_walk (A : Option Addr) (n c : Nat) (ps : List Po) (B : Option Addr) (m d : Nat) (qs : List Po) (w : World) (h : RdO w A n c ps) (g : RdO w B m d qs) :
    Calls Try.prog 9 #[.slice A n c, .slice B m d] w (isTrue w) := by
  by_cases hg : greatL (osP ps) = true
  · have HG := Lib.hid hg
    clear hg
    go_enter Try.func9, Try.ntmps9
    go_wp2_with fail
    refine (great_any A n c ps _ h).mono ?_
    rw [HG.out]
    rintro e w' ⟨rfl, rfl⟩
    go_wp2_with fail
    refine (knows_yes _).mono ?_
    rintro e w1 ⟨rfl, hb1⟩
    go_wp2
    go_ret
    exact ⟨rfl, hb1⟩
  have hg' : greatL (osP ps) = false := by simpa using hg
  have HG := Lib.hid hg'
  clear hg hg'
  by_cases hg2 : greatL (osP qs) = true
  · have HG2 := Lib.hid hg2
    clear hg2
    go_enter Try.func9, Try.ntmps9
    go_wp2_with fail
    refine (great_any A n c ps _ h).mono ?_
    rw [HG.out]
    rintro e w' ⟨rfl, rfl⟩
    go_wp2_with fail
    refine (great_any B m d qs _ g).mono ?_
    rw [HG2.out]
    rintro e w' ⟨rfl, rfl⟩
    go_wp2_with fail
    refine (knows_yes _).mono ?_
    rintro e w1 ⟨rfl, hb1⟩
    go_wp2
    go_ret
    exact ⟨rfl, hb1⟩
  have hg2' : greatL (osP qs) = false := by simpa using hg2
  have HG2 := Lib.hid hg2'
  clear hg2 hg2'
  by_cases hr : rightL (osP ps) = true
  rotate_left
  · have hr' : rightL (osP ps) = false := by simpa using hr
    have HR := Lib.hid hr'
    clear hr hr'
    by_cases hq : rightL (osP qs) = true
    · have HQ := Lib.hid hq
      clear hq
      go_enter Try.func9, Try.ntmps9
      go_wp2_with fail
      refine (great_any A n c ps _ h).mono ?_
      rw [HG.out]
      rintro e w' ⟨rfl, rfl⟩
      go_wp2_with fail
      refine (great_any B m d qs _ g).mono ?_
      rw [HG2.out]
      rintro e w' ⟨rfl, rfl⟩
      go_wp2_with fail
      refine (write_no A n c ps _ h HR.out).mono ?_
      rintro e w1 ⟨rfl, hb1⟩
      go_wp2_with fail
      refine (write_yes B m d qs _ (g.below hb1) HQ.out).mono ?_
      rintro e w2 ⟨A2, m2, c2, rfl, _, hb2⟩
      have hb02 := hb1.trans (hb2.mono hb1.size)
      go_wp2_with fail
      refine (knows_yes _).mono ?_
      rintro e w3 ⟨rfl, hb3⟩
      go_wp2
      go_ret
      exact ⟨rfl, hb02.trans (hb3.mono hb02.size)⟩
    · have hq' : rightL (osP qs) = false := by simpa using hq
      have HQ := Lib.hid hq'
      clear hq hq'
      go_enter Try.func9, Try.ntmps9
      go_wp2_with fail
      refine (great_any A n c ps _ h).mono ?_
      rw [HG.out]
      rintro e w' ⟨rfl, rfl⟩
      go_wp2_with fail
      refine (great_any B m d qs _ g).mono ?_
      rw [HG2.out]
      rintro e w' ⟨rfl, rfl⟩
      go_wp2_with fail
      refine (write_no A n c ps _ h HR.out).mono ?_
      rintro e w1 ⟨rfl, hb1⟩
      go_wp2_with fail
      refine (write_no B m d qs _ (g.below hb1) HQ.out).mono ?_
      rintro e w2 ⟨rfl, hb2⟩
      have hb02 := hb1.trans (hb2.mono hb1.size)
      go_wp2_with fail
      refine (knows_yes _).mono ?_
      rintro e w3 ⟨rfl, hb3⟩
      go_wp2
      go_ret
      exact ⟨rfl, hb02.trans (hb3.mono hb02.size)⟩
  have HR := Lib.hid hr
  have HWL := Lib.hid (write_len hr)
  by_cases hq : rightL (osP qs) = true
  rotate_left
  · have hq' : rightL (osP qs) = false := by simpa using hq
    have HQ := Lib.hid hq'
    clear hq hq' hr
    go_enter Try.func9, Try.ntmps9
    go_wp2_with fail
    refine (great_any A n c ps _ h).mono ?_
    rw [HG.out]
    rintro e w' ⟨rfl, rfl⟩
    go_wp2_with fail
    refine (great_any B m d qs _ g).mono ?_
    rw [HG2.out]
    rintro e w' ⟨rfl, rfl⟩
    go_wp2_with fail
    refine (write_yes A n c ps _ h HR.out).mono ?_
    rintro e w1 ⟨A1, m1, c1, rfl, hown1, hb1⟩
    have hm1 : 0 < m1 := by
      rw [← hown1.bs.len]
      unfold writeL
      rw [List.length_append]
      simp
    have hm1b : ((m1 : Int) == 0) = false := by simp; omega
    clear hown1
    go_wp2_with fail
    refine (write_no B m d qs _ (g.below hb1) HQ.out).mono ?_
    rintro e w2 ⟨rfl, hb2⟩
    have hb02 := hb1.trans (hb2.mono hb1.size)
    go_wp2_with fail
    refine (knows_yes _).mono ?_
    rintro e w3 ⟨rfl, hb3⟩
    go_wp2
    go_ret
    exact ⟨rfl, hb02.trans (hb3.mono hb02.size)⟩
  have HQ := Lib.hid hq
  have HWQ := Lib.hid (write_len hq)
  have HRR : Hid (readL [] (bodyL (osP ps) ++ writeL (osP qs)) = joinL (osP ps) (osP qs)) := by
    have := read_rows hr hq []
    rw [List.append_nil] at this
    exact this
  clear hr hq
  go_enter Try.func9, Try.ntmps9
  go_wp2_with fail
  refine (great_any A n c ps _ h).mono ?_
  rw [HG.out]
  rintro e w' ⟨rfl, rfl⟩
  go_wp2_with fail
  refine (great_any B m d qs _ g).mono ?_
  rw [HG2.out]
  rintro e w' ⟨rfl, rfl⟩
  go_wp2_with fail
  refine (write_yes A n c ps _ h HR.out).mono ?_
  rintro e w1 ⟨A1, m1, c1, rfl, hown1, hb1⟩
  have hl1 : m1 = (bodyL (osP ps)).length + 1 := by
    rw [← hown1.bs.len]
    unfold writeL
    rw [List.length_append]
    rfl
  have hm1 : 0 < m1 := by omega
  have hm2 : m1 ≤ 72121 := by rw [← hown1.bs.len]; exact HWL.out
  have hm1b : ((m1 : Int) == 0) = false := by simp; omega
  have HTK : Hid ((writeL (osP ps)).take (m1 - 1) = bodyL (osP ps)) := by
    show (writeL (osP ps)).take (m1 - 1) = bodyL (osP ps)
    unfold writeL
    rw [hl1, Nat.add_sub_cancel]
    exact List.take_left
  clear hl1
  go_wp2_with fail
  refine (write_yes B m d qs _ (g.below hb1) HQ.out).mono ?_
  rintro e w2 ⟨A2, m2, c2, rfl, hown2, hb2⟩
  have hb02 := hb1.trans (hb2.mono hb1.size)
  have hn2 : m2 ≤ 72121 := by rw [← hown2.bs.len]; exact HWQ.out
  have hba : Below w2.heap.size w2 (w2.alloc (Obj.cells #[] 5)) := (Below.refl _ _).alloc (Nat.le_refl _) _
  have hbs1 := ((hown1.below hb2).below hba).bs
  have hbs2 := hown2.bs
  have hc1 := hbs1.cap
  have hc2 := hbs1.max
  obtain ⟨A3, hA3, hrun3⟩ := byP.cut_h hbs1 (m1 - 1) ((m1 : Int) - 1) (by omega) (by omega)
  rw [HTK.out] at hA3
  clear hown1 hown2 hbs1
  go_wp2_with (first
    | fail
    | (at_builtin; refine wpList_app byP rfl (.tmp 51) (.tmp 56) rfl rfl (Own.lit0 5 w2) rfl hA3 (by omega) (by simp) ?_; intro A4 c4 w4 hown4 hb4 _ _; simp only [Nat.zero_add, List.nil_append] at hown4; have hb24 := hba.trans hb4)
    | (at_builtin; refine wpList_app byP rfl (.tmp 57) (.tmp 58) rfl rfl hown4 rfl (hbs2.below hb24) (by omega) hb24.size ?_; intro A5 c5 w5 hown5 hb5 _ _))
  have hb25 := hb24.trans hb5
  have hb05 := hb02.trans (hb25.mono hb02.size)
  refine (read_any _ _ _ _ _ hown5.bs).mono ?_
  rw [HRR.out]
  rintro e w6 ⟨A6, n6, c6, ps6, rfl, hps6, hown6, hb6⟩
  have hb06 : Below w.heap.size w w6 := hb05.trans (hb6.mono hb05.size)
  have hrd6 := hown6.rd
  clear hown6 hown5 hown4 hbs2 hrun3 hA3
  go_wp2_with fail
  refine (join_any A n c ps B m d qs _ (h.below hb06) (g.below hb06)).mono ?_
  rintro e w7 ⟨A7, n7, c7, ps7, rfl, hps7, hown7, hb7⟩
  have hb07 : Below w.heap.size w w7 := hb06.trans (hb7.mono hb06.size)
  have hrd7 := hown7.rd
  have HS := Lib.hid (same_self (hps6.trans hps7.symm))
  clear hps6 hps7 hown7
  generalize (joinL (osP ps) (osP qs)).2 = x
  go_wp2_with fail
  refine (same_any _ _ _ _ _ _ _ _ _ (hrd6.below hb7) hrd7).mono ?_
  rw [HS.out]
  rintro e w8 ⟨rfl, hb8⟩
  have hb08 : Below w.heap.size w w8 := hb07.trans (hb8.mono hb07.size)
  go_wp2_with fail
  refine (knows_yes _).mono ?_
  rintro e w9 ⟨rfl, hb9⟩
  go_wp2
  go_ret
  exact ⟨rfl, hb08.trans (hb9.mono hb08.size)⟩
end Go.Proofs.Ytgjgmafihoboaaa
