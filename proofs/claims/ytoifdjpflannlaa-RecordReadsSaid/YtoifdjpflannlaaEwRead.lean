/- What record's Read comes to, its closure and the function that makes it. For all bytes. -/
import Derived.Test.YtoifdjpflannlaaEwBox
set_option maxRecDepth 8000
namespace Go.Proofs.Ytoifdjpflannlaa.Ew
open Go.RowKit Co By Ky Rc
open Dw (ba ba_size ba_data ba_list)

/-- What numbersOf leaves: the bytes in a box, the place in another one, and the function over both. -/
def NuR (w : World) (A : Option Addr) (n c : Nat) (e : Ending) (w' : World) : Prop :=
  e = .returned (.func (.func 75) #[] #[.pointer (some ⟨w.heap.size, 0, none⟩), .pointer (some ⟨w.heap.size + 1, 0, none⟩)]) ∧
  Cel w' w.heap.size 35 #[.slice A n c] ∧ Cel w' (w.heap.size + 1) 3 #[.int .i64 0] ∧ Below w.heap.size w w'
theorem numbersOf_any (A : Option Addr) (n c : Nat) (w : World) : Calls Try.prog 49 #[.slice A n c] w (NuR w A n c) := by
  have hb : Below w.heap.size w ((w.alloc (.cells #[.slice A n c] 35)).alloc (.cells #[.int .i64 0] 3)) := ((Below.refl _ _).alloc (Nat.le_refl _) _).alloc (by simp) _
  have h1 : Cel ((w.alloc (.cells #[.slice A n c] 35)).alloc (.cells #[.int .i64 0] 3)) w.heap.size 35 #[.slice A n c] := (Cel.born w _ _).below (((Below.refl _ _).alloc (Nat.le_refl _) _)) (by simp)
  have h2 : Cel ((w.alloc (.cells #[.slice A n c] 35)).alloc (.cells #[.int .i64 0] 3)) (w.heap.size + 1) 3 #[.int .i64 0] := by
    have := Cel.born (w.alloc (.cells #[.slice A n c] 35)) 3 #[.int .i64 0]
    simpa using this
  have H1 := Lib.hid h1
  have H2 := Lib.hid h2
  clear h1 h2
  go_enter Try.func49, Try.ntmps49
  go_wp2
  go_ret
  exact ⟨rfl, H1.out, H2.out, hb⟩
/-- What the function leaves: the number, and the place behind it. -/
def NxR (U : Nat) (w : World) (A : Option Addr) (n c g h k m V : Nat) (e : Ending) (w' : World) : Prop :=
  e = .returned (.int .i64 (V : Nat)) ∧ Cel w' g 35 #[.slice A n c] ∧ Cel w' h 3 #[.int .i64 ((k + m : Nat) : Int)] ∧ Below U w w'
set_option maxHeartbeats 1000000 in
theorem next_any (U : Nat) (A : Option Addr) (n c : Nat) (l : List UInt8) (g h k m : Nat) (w : World) (hbs : Bs w A n c l) (hg : Cel w g 35 #[.slice A n c]) (hh : Cel w h 3 #[.int .i64 (k : Int)]) (hU : U ≤ h) (hne : g ≠ h) (h1 : 1 ≤ m) (h2 : m ≤ 7) (h3 : k + m ≤ n) :
    Calls Try.prog 75 #[.int .i64 (m : Int), .pointer (some ⟨g, 0, none⟩), .pointer (some ⟨h, 0, none⟩)] w (NxR U w A n c g h k m (valL ((l.drop k).take m))) := by
  have e1 : w.cell? ⟨g, 0, none⟩ = some (.slice A n c) := by rw [hg.cell]; rfl
  have e2 : w.cell? ⟨h, 0, none⟩ = some (.int .i64 (k : Int)) := by rw [hh.cell]; rfl
  have f2 := celFr hh 0
  have hmx := hbs.max
  have hcp := hbs.cap
  have HG := Lib.hid (Cw.get_ok A n c l k m w hbs h1 h2 h3)
  have HC := Lib.hid hg
  have HH := Lib.hid hh
  generalize valL ((l.drop k).take m) = V at HG
  clear hg hh hbs
  go_enter Try.func75, Try.ntmps75
  go_wp2_with fail
  refine HG.out.mono ?_
  rintro e w1 ⟨rfl, rfl⟩
  go_wp2
  go_ret
  refine ⟨rfl, celFar HC.out 0 _ hne, ?_, (Below.refl _ _).setCell (p := ⟨h, 0, none⟩) hU _⟩
  have := celPut HH.out 0 (.int .i64 ((k + m : Nat) : Int))
  simpa using this

set_option maxHeartbeats 4000000 in
theorem read_any (A : Option Addr) (n c : Nat) (l : List UInt8) (w : World) (hbs : Bs w A n c l) : Calls Try.prog 21 #[.slice A n c] w (RdL w (readR l)) := by
  have HL := Lib.hid hbs.len
  have hmx := hbs.max
  have hcp := hbs.cap
  by_cases h12 : n < 12
  · have H : Hid (readR l = (zeroL, 4)) := by show _ = _; unfold readR; rw [if_pos (by rw [HL.out]; exact h12)]
    go_enter Try.func21, Try.ntmps21
    go_wp2
    refine bodyPost_ret (ret_lease2 rfl _ _ w.heap.size zeroL rfl (Cel.born _ _ _)) rfl ?_
    exact ⟨by rw [H.out]; rfl, (Below.refl _ _).alloc (Nat.le_refl _) _⟩
  · have HH : Hid (readR l = if RightR (heldR l) then (heldR l, 0) else (zeroL, 2)) := by show _ = _; unfold readR; rw [if_neg (by rw [HL.out]; exact h12)]
    have e1 : valL ((l.drop 4).take 1) = (l.getD 4 0).toNat := val_one (by have := HL.out; omega)
    have HE : Hid (heldR l = ⟨(valL ((l.drop 0).take 4) : Nat), (valL ((l.drop 4).take 1) : Nat), (valL ((l.drop 5).take 7) : Nat), l.drop 12⟩) := by show _ = _; rw [e1]; rfl
    have hfk : (l.drop 12).length ≤ 9223372036854775807 := by have := HL.out; rw [List.length_drop]; omega
    clear e1
    obtain ⟨w0, hw0⟩ : ∃ w0, w0 = w.alloc (.cells #[.int .i64 0, .int .i64 0, .int .i64 0, .string ⟨#[]⟩] 47) := ⟨_, rfl⟩
    have HC0 := Lib.hid (show Cel w0 w.heap.size 47 (lcs zeroL) by rw [hw0]; exact Cel.born _ _ _)
    have HB0 := Lib.hid (show Below w.heap.size w w0 by rw [hw0]; exact (Below.refl _ _).alloc (Nat.le_refl _) _)
    have HS0 := Lib.hid (show w0.heap.size = w.heap.size + 1 by rw [hw0]; simp)
    have hg0 : w.heap.size < w0.heap.size := by have := HS0.out; omega
    have HX := Lib.hid hbs
    clear hbs
    go_enter Try.func21, Try.ntmps21
    go_wp2_with fail
    rw [← hw0]
    clear hw0
    refine (numbersOf_any A n c w0).mono ?_
    rintro e w1 ⟨rfl, hc1, hd1, hb1⟩
    have HX1 := Lib.hid (HX.out.below (HB0.out.trans (hb1.mono HB0.out.size)))
    have hn1 := next_any w0.heap.size A n c l w0.heap.size (w0.heap.size + 1) 0 4 w1 HX1.out hc1 hd1 (by omega) (by omega) (by omega) (by omega) (by omega)
    have HN1 := Lib.hid hn1
    have HB1 := Lib.hid hb1
    clear hc1 hd1 hb1 hn1
    generalize valL ((l.drop 0).take 4) = V0 at HN1 HE
    go_wp2_with fail
    refine HN1.out.mono ?_
    rintro e w2 ⟨rfl, hc1, hd1, hb2⟩
    have HB2 := Lib.hid (HB1.out.trans hb2)
    have HX2 := Lib.hid (HX.out.below (HB0.out.trans (HB2.out.mono HB0.out.size)))
    have hn2 := next_any w0.heap.size A n c l w0.heap.size (w0.heap.size + 1) 4 1 w2 HX2.out hc1 hd1 (by omega) (by omega) (by omega) (by omega) (by omega)
    have HN2 := Lib.hid hn2
    clear hc1 hd1 hb2 hn2 HN1 HB1 HX1
    generalize valL ((l.drop 4).take 1) = V1 at HN2 HE
    go_wp2_with fail
    refine HN2.out.mono ?_
    rintro e w3 ⟨rfl, hc1, hd1, hb3⟩
    have HB3 := Lib.hid (HB2.out.trans hb3)
    have HX3 := Lib.hid (HX.out.below (HB0.out.trans (HB3.out.mono HB0.out.size)))
    have hn3 := next_any w0.heap.size A n c l w0.heap.size (w0.heap.size + 1) 5 7 w3 HX3.out hc1 hd1 (by omega) (by omega) (by omega) (by omega) (by omega)
    have HN3 := Lib.hid hn3
    clear hc1 hd1 hb3 hn3 HN2 HB2 HX2
    generalize valL ((l.drop 5).take 7) = V2 at HN3 HE
    go_wp2_with fail
    refine HN3.out.mono ?_
    rintro e w4 ⟨rfl, hc1, hd1, hb4⟩
    have HB4 := Lib.hid (HB3.out.trans hb4)
    have HX4 := Lib.hid (HX.out.below (HB0.out.trans (HB4.out.mono HB0.out.size)))
    clear hc1 hd1 hb4 HN3 HB3 HX3
    obtain ⟨A', hA', hrun⟩ := byP.cut_l HX4.out 12 12 rfl (by omega)
    have hcv : (convert 35 9 (.slice A' (n - 12) (c - 12))).run Try.prog w4 = .ok (.string (ba (l.drop 12))) w4 := byP.str hA'
    clear hA'
    generalize l.drop 12 = K at HE hfk hcv
    have hRI := right_any ⟨V0, V1, V2, K⟩ (w4.alloc (.cells (lcs ⟨V0, V1, V2, K⟩) 47)) hfk
    obtain ⟨w5, hw5⟩ : ∃ w5, w5 = w4.alloc (.cells (lcs ⟨V0, V1, V2, K⟩) 47) := ⟨_, rfl⟩
    have HC5 := Lib.hid (show Cel w5 w4.heap.size 47 (lcs ⟨V0, V1, V2, K⟩) by rw [hw5]; exact Cel.born _ _ _)
    have HB5 := Lib.hid (show Below w4.heap.size w4 w5 by rw [hw5]; exact (Below.refl _ _).alloc (Nat.le_refl _) _)
    rw [← hw5] at hRI
    have HRI := Lib.hid hRI
    have hs4 := HB4.out.size
    have HB05 := Lib.hid (HB4.out.trans (HB5.out.mono hs4))
    have HR5 := Lib.hid (HC0.out.below HB05.out hg0)
    clear hRI
    go_wp2_with fail
    rw [← hw5]
    clear hw5 hcv hrun
    refine HRI.out.mono ?_
    rintro e w6 ⟨rfl, hb6⟩
    have hc6 := HC5.out.below hb6 HC5.out.lt
    have hr6 := HR5.out.below hb6 HR5.out.lt
    have HB6 := Lib.hid (HB0.out.trans ((HB05.out.trans (hb6.mono HB05.out.size)).mono HB0.out.size))
    obtain ⟨p0, p1, p2, p3⟩ := cel4 hc6
    obtain ⟨f0, f1, f2, f3⟩ := celFr4 hr6
    obtain ⟨z0, z1, z2, z3⟩ := cel4 hr6
    have HR6 := Lib.hid hr6
    clear hr6 hc6 hb6
    cases hr : rightR ⟨V0, V1, V2, K⟩ with
    | true =>
      have H : Hid (readR l = (⟨V0, V1, V2, K⟩, 0)) := by show _ = _; rw [HH.out, HE.out, if_pos (of_decide_eq_true hr)]
      clear hr
      obtain ⟨w7, hw7⟩ : ∃ w7, w7 = (((w6.setCell ⟨w.heap.size, 0, none⟩ (.int .i64 (V0 : Int))).setCell ⟨w.heap.size, 1, none⟩ (.int .i64 (V1 : Int))).setCell ⟨w.heap.size, 2, none⟩ (.int .i64 (V2 : Int))).setCell ⟨w.heap.size, 3, none⟩ (.string (ba K)) := ⟨_, rfl⟩
      have HC7 := Lib.hid (show Cel w7 w.heap.size 47 (lcs ⟨V0, V1, V2, K⟩) by rw [hw7]; exact celPut4 (l := ⟨V0, V1, V2, K⟩) HR6.out)
      have HB7 := Lib.hid (show Below w.heap.size w w7 by rw [hw7]; exact belowPut4 HB6.out (Nat.le_refl _) ⟨V0, V1, V2, K⟩)
      go_wp2
      rw [← hw7]
      clear hw7
      (try simp only [Exit.inBlock, Exit.then])
      refine bodyPost_ret (ret_lease2 rfl _ _ w.heap.size ⟨V0, V1, V2, K⟩ rfl HC7.out) rfl ?_
      exact ⟨by rw [H.out]; rfl, HB7.out⟩
    | false =>
      have H : Hid (readR l = (zeroL, 2)) := by show _ = _; rw [HH.out, if_neg (by rw [HE.out]; exact of_decide_eq_false hr)]
      clear hr
      obtain ⟨w7, hw7⟩ : ∃ w7, w7 = (((w6.setCell ⟨w.heap.size, 0, none⟩ (.int .i64 0)).setCell ⟨w.heap.size, 1, none⟩ (.int .i64 0)).setCell ⟨w.heap.size, 2, none⟩ (.int .i64 0)).setCell ⟨w.heap.size, 3, none⟩ (.string ⟨#[]⟩) := ⟨_, rfl⟩
      have HC7 := Lib.hid (show Cel w7 w.heap.size 47 (lcs zeroL) by rw [hw7]; exact celPut4 (l := zeroL) HR6.out)
      have HB7 := Lib.hid (show Below w.heap.size w w7 by rw [hw7]; exact belowPut4 HB6.out (Nat.le_refl _) zeroL)
      go_wp2
      rw [← hw7]
      clear hw7
      (try simp only [Exit.inBlock, Exit.then])
      refine bodyPost_ret (ret_lease2 rfl _ _ w.heap.size zeroL rfl HC7.out) rfl ?_
      exact ⟨by rw [H.out]; rfl, HB7.out⟩
end Go.Proofs.Ytoifdjpflannlaa.Ew
