/- The walks of RecordWrites, RecordBack and RecordOnly: each returns true, and what was in memory stays. For all inputs. -/
import Derived.Test.YtoifdjpflannlaaEwKnows
import Derived.Test.YtoifdjpflannlaaEwRef
import Derived.Deep.RegionHeld3
set_option maxRecDepth 8000
namespace Go.Proofs.Ytoifdjpflannlaa
open Go.RowKit Co By Ky Rc Ew
open Dw (ba ba_size ba_data ba_list)

set_option maxHeartbeats 4000000 in
theorem recordWrites_walk (l : L) (w : World) (hk : Fk l) : Calls Try.prog 5 #[lv l] w (isTrue w) := by
  obtain ⟨w1, hw1⟩ : ∃ w1, w1 = w.alloc (.cells (lcs l) 47) := ⟨_, rfl⟩
  have HC1 := Lib.hid (show Cel w1 w.heap.size 47 (lcs l) by rw [hw1]; exact Cel.born _ _ _)
  have HB1 := Lib.hid (show Below w.heap.size w w1 by rw [hw1]; exact (Below.refl _ _).alloc (Nat.le_refl _) _)
  have hz := Lib.hid (ba_size l.key)
  have HK := Lib.hid hk
  by_cases hs : (1000 : Int) < ((ba l.key).size : Int)
  · go_enter Try.func5, Try.ntmps5
    go_wp2_with fail
    rw [← hw1]
    clear hw1
    refine (knows_yes _).mono ?_
    rintro e w2 ⟨rfl, hb2⟩
    go_wp2
    go_ret
    exact ⟨rfl, HB1.out.trans (hb2.mono HB1.out.size)⟩
  have hsz : (encR l).length ≤ 1012 := by have := hz.out; rw [enc_len]; omega
  have HSZ := Lib.hid hsz
  have hwr := write_any l w1 hk
  obtain ⟨q0, q1, q2, q3⟩ := cel4 HC1.out
  rw [hw1] at q0 q1 q2 q3
  clear hk hsz
  by_cases hr : RightR l
  rotate_left
  · rw [show writeR l = ([], 1) from if_neg hr] at hwr
    have HR := Lib.hid (fun W => refRight_any l W HK.out)
    rw [show rightR l = false from decide_eq_false hr] at HR
    have HWR := Lib.hid hwr
    clear hwr hr
    go_enter Try.func5, Try.ntmps5
    go_wp2_with fail
    rw [← hw1]
    clear hw1 q0 q1 q2 q3
    refine HWR.out.mono ?_
    rintro e w2 ⟨A2, n2, c2, rfl, hown2, hb2⟩
    obtain rfl : 0 = n2 := hown2.bs.len
    have HB2 := Lib.hid (HB1.out.trans (hb2.mono HB1.out.size))
    obtain ⟨q0, q1, q2, q3⟩ := cel4 (HC1.out.below hb2 HC1.out.lt)
    clear hb2 hown2
    go_wp2_with fail
    refine (HR.out _).mono ?_
    rintro e w3 ⟨rfl, hb3⟩
    have HB3 := Lib.hid (HB2.out.trans (hb3.mono HB2.out.size))
    clear q0 q1 q2 q3 hb3
    go_wp2_with fail
    refine (knows_yes _).mono ?_
    rintro e w4 ⟨rfl, hb4⟩
    go_wp2
    go_ret
    exact ⟨rfl, HB3.out.trans (hb4.mono HB3.out.size)⟩
  · rw [show writeR l = (encR l, 0) from if_pos hr] at hwr
    have HR := Lib.hid (fun W => refRight_any l W HK.out)
    rw [show rightR l = true from decide_eq_true hr] at HR
    have HRW := Lib.hid (fun W => refWrite_any l W hr)
    have HWR := Lib.hid hwr
    clear hwr hr
    generalize encR l = bs at HRW HWR HSZ
    obtain ⟨q, hq⟩ : ∃ q : ByteArray, q = ⟨bs.toArray⟩ := ⟨_, rfl⟩
    have HQ := Lib.hid hq
    clear hq
    go_enter Try.func5, Try.ntmps5
    go_wp2_with fail
    rw [← hw1]
    clear hw1 q0 q1 q2 q3
    refine HWR.out.mono ?_
    rintro e w2 ⟨A2, n2, c2, rfl, hown2, hb2⟩
    have HB2 := Lib.hid (HB1.out.trans (hb2.mono HB1.out.size))
    have HC2 := Lib.hid (HC1.out.below hb2 HC1.out.lt)
    have HO2 := Lib.hid hown2.bs
    obtain ⟨q0, q1, q2, q3⟩ := cel4 HC2.out
    clear hb2 hown2 HC1 HB1 HWR
    go_wp2_with fail
    refine (HR.out _).mono ?_
    rintro e w3 ⟨rfl, hb3⟩
    have HB3 := Lib.hid (HB2.out.trans (hb3.mono HB2.out.size))
    have HC3 := Lib.hid (HC2.out.below hb3 HC2.out.lt)
    have HO3 := Lib.hid (HO2.out.below hb3)
    have HKW : Hid (∀ W, Below w3.heap.size w3 W → W.cell? ⟨w.heap.size, 0, none⟩ = some (.int .i64 l.addr) ∧ W.cell? ⟨w.heap.size, 1, none⟩ = some (.int .i64 l.state) ∧ W.cell? ⟨w.heap.size, 2, none⟩ = some (.int .i64 l.till) ∧ W.cell? ⟨w.heap.size, 3, none⟩ = some (.string (ba l.key)) ∧ (convert 35 9 (.slice A2 n2 c2)).run Try.prog W = .ok (.string q) W) := fun W hW => by
      obtain ⟨a, b, c, d⟩ := cel4 (HC3.out.below hW HC3.out.lt)
      exact ⟨a, b, c, d, by rw [HQ.out]; exact byP.str (HO3.out.below hW)⟩
    clear q0 q1 q2 q3 hb3 HC2 HO2 HB2
    have hqq : (q.toList == q.toList) = true := by simp
    obtain ⟨q0, q1, q2, q3, hcv⟩ := HKW.out w3.drew (Below.refl _ _).drew
    go_wp2_with fail
    go_region_with (first
      | ((go_at_call 20; refine (HRW.out _).mono ?_; rintro ee wv ⟨Av, cv, rfl, hownv, hbv⟩; have hbv9 : Below w3.heap.size w3 wv := below_undrew hbv; have hcv9 : (convert 35 9 (.slice Av bs.length cv)).run Try.prog wv = .ok (.string q) wv := (by rw [HQ.out]; exact byP.str hownv.bs); have hcv5 := (HKW.out wv hbv9).2.2.2.2))
      | ((go_at_call 16; refine (knows_yes _).mono ?_; rintro ee wx ⟨rfl, hbx⟩)))
    all_goals have hbx9 : Below w3.heap.size w3 wx := hbv9.trans (hbx.mono hbv9.size)
    all_goals go_wp2
    all_goals go_ret
    all_goals exact ⟨rfl, HB3.out.trans (hbx9.mono HB3.out.size)⟩

set_option maxHeartbeats 4000000 in
theorem recordBack_walk (l : L) (w : World) (hk : Fk l) : Calls Try.prog 7 #[lv l] w (isTrue w) := by
  obtain ⟨w1, hw1⟩ : ∃ w1, w1 = w.alloc (.cells (lcs l) 47) := ⟨_, rfl⟩
  have HC1 := Lib.hid (show Cel w1 w.heap.size 47 (lcs l) by rw [hw1]; exact Cel.born _ _ _)
  have HB1 := Lib.hid (show Below w.heap.size w w1 by rw [hw1]; exact (Below.refl _ _).alloc (Nat.le_refl _) _)
  have hz := Lib.hid (ba_size l.key)
  by_cases hs : (1000 : Int) < ((ba l.key).size : Int)
  · go_enter Try.func7, Try.ntmps7
    go_wp2_with fail
    rw [← hw1]
    clear hw1
    refine (knows_yes _).mono ?_
    rintro e w2 ⟨rfl, hb2⟩
    go_wp2
    go_ret
    exact ⟨rfl, HB1.out.trans (hb2.mono HB1.out.size)⟩
  have hwr := write_any l w1 hk
  obtain ⟨q0, q1, q2, q3⟩ := cel4 HC1.out
  rw [hw1] at q0 q1 q2 q3
  clear hk
  by_cases hr : RightR l
  rotate_left
  · rw [show writeR l = ([], 1) from if_neg hr] at hwr
    have HWR := Lib.hid hwr
    clear hwr hr
    go_enter Try.func7, Try.ntmps7
    go_wp2_with fail
    rw [← hw1]
    clear hw1 q0 q1 q2 q3
    refine HWR.out.mono ?_
    rintro e w2 ⟨A2, n2, c2, rfl, hown2, hb2⟩
    obtain rfl : 0 = n2 := hown2.bs.len
    have HB2 := Lib.hid (HB1.out.trans (hb2.mono HB1.out.size))
    clear hb2 hown2
    go_wp2_with fail
    refine (knows_yes _).mono ?_
    rintro e w4 ⟨rfl, hb4⟩
    go_wp2
    go_ret
    exact ⟨rfl, HB2.out.trans (hb4.mono HB2.out.size)⟩
  · rw [show writeR l = (encR l, 0) from if_pos hr] at hwr
    have HWR := Lib.hid hwr
    have HRB := Lib.hid (read_write hr)
    clear hwr hr
    generalize encR l = bs at HWR HRB
    go_enter Try.func7, Try.ntmps7
    go_wp2_with fail
    rw [← hw1]
    clear hw1 q0 q1 q2 q3
    refine HWR.out.mono ?_
    rintro e w2 ⟨A2, n2, c2, rfl, hown2, hb2⟩
    have HB2 := Lib.hid (HB1.out.trans (hb2.mono HB1.out.size))
    have HC2 := Lib.hid (HC1.out.below hb2 HC1.out.lt)
    have hrd := read_any A2 n2 c2 bs w2 hown2.bs
    rw [HRB.out] at hrd
    have HRD := Lib.hid hrd
    clear hb2 hown2 hrd HC1 HB1 HWR
    go_wp2_with fail
    refine HRD.out.mono ?_
    rintro e w3 ⟨rfl, hb3⟩
    have HB3 := Lib.hid (HB2.out.trans (hb3.mono HB2.out.size))
    have HC3 := Lib.hid (HC2.out.below hb3 HC2.out.lt)
    obtain ⟨w4, hw4⟩ : ∃ w4, w4 = w3.alloc (.cells (lcs l) 47) := ⟨_, rfl⟩
    have hb4 : Below w3.heap.size w3 w4 := by rw [hw4]; exact (Below.refl _ _).alloc (Nat.le_refl _) _
    obtain ⟨p0, p1, p2, p3⟩ := cel4 (show Cel w4 w3.heap.size 47 (lcs l) by rw [hw4]; exact Cel.born _ _ _)
    obtain ⟨q0, q1, q2, q3⟩ := cel4 (HC3.out.below hb4 HC3.out.lt)
    have HB4 := Lib.hid (HB3.out.trans (hb4.mono HB3.out.size))
    rw [hw4] at p0 p1 p2 p3 q0 q1 q2 q3
    have HQ := fun W => leq_self l W
    clear hb3 hb4 HC2 HB2 HRD
    go_wp2_with fail
    rw [← hw4]
    clear hw4 p0 p1 p2 p3 q0 q1 q2 q3
    refine (knows_yes _).mono ?_
    rintro e w5 ⟨rfl, hb5⟩
    go_wp2
    go_ret
    exact ⟨rfl, HB4.out.trans (hb5.mono HB4.out.size)⟩

set_option maxHeartbeats 4000000 in
theorem recordOnly_walk (A : Option Addr) (n c : Nat) (l : List UInt8) (w : World) (h : Bs w A n c l) : Calls Try.prog 8 #[.slice A n c] w (isTrue w) := by
  have hmx := h.max
  have hcp := h.cap
  by_cases hs : 1000 < n
  · go_enter Try.func8, Try.ntmps8
    go_wp2_with fail
    refine (knows_yes _).mono ?_
    rintro e w2 ⟨rfl, hb2⟩
    go_wp2
    go_ret
    exact ⟨rfl, hb2⟩
  have HX := Lib.hid h
  have hl0 := Own.lit0 5 w
  have hal0 : Below w.heap.size w (w.alloc (.cells #[] 5)) := (Below.refl _ _).alloc (Nat.le_refl _) _
  have hx0 := h.below hal0
  have hz0 := hal0.size
  clear h
  go_enter Try.func8, Try.ntmps8
  go_wp2_with (at_builtin; refine wpList_app byP rfl (.tmp 12) (.tmp 13) rfl rfl hl0 rfl hx0 (by omega) hz0 ?_; intro A1 c1 w1 hown1 hb1 _ _)
  simp only [Nat.zero_add, List.nil_append] at hown1
  have HB1 := Lib.hid (hal0.trans hb1)
  have HRD := Lib.hid (read_any A1 n c1 l w1 hown1.bs)
  have HNO := Lib.hid (fun h : (readR l).2 ≠ 0 => read_err h)
  have HYES := Lib.hid (fun h : (readR l).2 = 0 => read_only h)
  have HRT := Lib.hid (fun h : (readR l).2 = 0 => (read_ok h))
  have HFK : Hid (Fk (readR l).1) := by
    show Fk _
    unfold Fk readR
    have hl := HX.out.len
    split
    · exact Nat.zero_le _
    · split
      · show (l.drop 12).length ≤ _
        rw [List.length_drop]
        omega
      · exact Nat.zero_le _
  generalize readR l = p at HRD HNO HYES HFK
  obtain ⟨m, er⟩ := p
  clear hb1 hown1 hl0 hal0 hx0 hz0 HRT
  refine HRD.out.mono ?_
  rintro e w2 ⟨rfl, hb2⟩
  have HB2 := Lib.hid (HB1.out.trans (hb2.mono HB1.out.size))
  clear hb2 HRD
  by_cases he : er = 0
  rotate_left
  · have hz := HNO.out he
    simp only at hz
    subst hz
    obtain ⟨w3, hw3⟩ : ∃ w3, w3 = w2.alloc (.cells #[.int .i64 0, .int .i64 0, .int .i64 0, .string ⟨#[]⟩] 47) := ⟨_, rfl⟩
    have hb3 : Below w2.heap.size w2 w3 := by rw [hw3]; exact (Below.refl _ _).alloc (Nat.le_refl _) _
    obtain ⟨p0, p1, p2, p3⟩ := cel4 (show Cel w3 w2.heap.size 47 #[.int .i64 0, .int .i64 0, .int .i64 0, .string ⟨#[]⟩] by rw [hw3]; exact Cel.born _ _ _)
    have HB3 := Lib.hid (HB2.out.trans (hb3.mono HB2.out.size))
    rw [hw3] at p0 p1 p2 p3
    have HQ : ∀ W, (binOp .eql 47 (.agg #[.int .i64 0, .int .i64 0, .int .i64 0, .string ⟨#[]⟩]) (.agg #[.int .i64 0, .int .i64 0, .int .i64 0, .string ⟨#[]⟩])).run Try.prog W = .ok (.bool true) W := leq_self zeroL
    have hne : (er != 0) = true := by simpa using he
    have hval : lv zeroL = .agg #[.int .i64 0, .int .i64 0, .int .i64 0, .string ⟨#[]⟩] := rfl
    clear hb3 he HNO HYES HFK
    rw [hval]
    clear hval
    go_wp2_with fail
    rw [← hw3]
    clear hw3 p0 p1 p2 p3
    refine (knows_yes _).mono ?_
    rintro e w4 ⟨rfl, hb4⟩
    go_wp2
    go_ret
    exact ⟨rfl, HB3.out.trans (hb4.mono HB3.out.size)⟩
  · subst he
    have hy := HYES.out rfl
    simp only at hy
    obtain ⟨w3, hw3⟩ : ∃ w3, w3 = w2.alloc (.cells (lcs m) 47) := ⟨_, rfl⟩
    have hb3 : Below w2.heap.size w2 w3 := by rw [hw3]; exact (Below.refl _ _).alloc (Nat.le_refl _) _
    obtain ⟨p0, p1, p2, p3⟩ := cel4 (show Cel w3 w2.heap.size 47 (lcs m) by rw [hw3]; exact Cel.born _ _ _)
    have HB3 := Lib.hid (HB2.out.trans (hb3.mono HB2.out.size))
    rw [hw3] at p0 p1 p2 p3
    have hwr := write_any m w3 HFK.out
    rw [hy] at hwr
    have HWR := Lib.hid hwr
    clear hb3 hwr hy HNO HYES HFK
    go_wp2_with fail
    rw [← hw3]
    clear hw3 p0 p1 p2 p3
    refine HWR.out.mono ?_
    rintro e w4 ⟨A4, n4, c4, rfl, hown4, hb4⟩
    have HB4 := Lib.hid (HB3.out.trans (hb4.mono HB3.out.size))
    obtain ⟨q, hq⟩ : ∃ q : ByteArray, q = ⟨l.toArray⟩ := ⟨_, rfl⟩
    have hc1 : (convert 35 9 (.slice A4 n4 c4)).run Try.prog w4 = .ok (.string q) w4 := by rw [hq]; exact byP.str hown4.bs
    have hc2 : (convert 35 9 (.slice A n c)).run Try.prog w4 = .ok (.string q) w4 := by rw [hq]; exact byP.str (HX.out.below HB4.out)
    clear hq hown4 hb4
    go_wp2_with fail
    clear hc1 hc2
    refine (knows_yes _).mono ?_
    rintro e w5 ⟨rfl, hb5⟩
    go_wp2
    go_ret
    exact ⟨rfl, HB4.out.trans (hb5.mono HB4.out.size)⟩
end Go.Proofs.Ytoifdjpflannlaa
