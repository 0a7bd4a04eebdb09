/- The statement MsgAny of boarderlaw04, walked: true, and nothing that was there has turned. Condition: what msg's package-level variables hold (En.ok). -/
import Derived.Test.YtipnoihmhcfigaaDoorMwLaws2
set_option maxRecDepth 8000
namespace Go.Proofs.YtipnoihmhcfigaaDoor.Mw
open Go.RowKit Tl Ms Co By

set_option maxHeartbeats 4000000 in
theorem msgAny_walk (E : En) (A0 : Option Addr) (n0 c0 : Nat) (l : List UInt8) (w : World) (hE : E.ok w) (h : Bs w A0 n0 c0 l) : Calls Tryd.prog 7 #[.slice A0 n0 c0] w (isTrue w) := by
  have hmx0 := h.max
  have hcp0 := h.cap
  have HE := Lib.hid hE
  clear hE
  by_cases hbig : (5000 : Int) < (n0 : Int)
  · go_enter Tryd.func7, Tryd.ntmps7
    go_wp2_with fail
    refine (knows_yes E _ HE.out).mono ?_
    rintro e w2 ⟨rfl, hb2⟩
    go_wp2
    go_ret
    exact ⟨rfl, hb2⟩
  have hba : Below w.heap.size w (w.alloc (Obj.cells #[] 5)) := (Below.refl _ _).alloc (Nat.le_refl _) _
  have hl0 := Own.lit0 5 w
  go_enter Tryd.func7, Tryd.ntmps7
  go_wp2_with (first | fail | (at_builtin; refine wpList_app byP rfl (.tmp 14) (.tmp 15) rfl rfl hl0 rfl (h.below hba) (by omega) (by simp) ?_; intro A1 c1 w1 hown1 hb1 _ _))
  simp only [Nat.zero_add, List.nil_append] at hown1
  have hbw1 := hba.trans hb1
  have HE1 := Lib.hid (HE.out.below hbw1)
  have hbs1 := hown1.bs
  clear hown1 hl0
  refine (read_any E A1 n0 c1 l _ HE1.out hbs1).mono ?_
  rintro e w2 ⟨x, rfl, hx, hxm, hb2⟩
  have hbw2 := hbw1.trans (hb2.mono hbw1.size)
  have hb2a : Below w2.heap.size w2 (w2.alloc (.cells x.cells 25)) := (Below.refl _ _).alloc (Nat.le_refl _) _
  have hcel := Cel.born w2 25 x.cells
  have hbw3 := hbw2.trans (hb2a.mono hbw2.size)
  have HE3 := Lib.hid (HE.out.below hbw3)
  have H3 := Lib.hid (hx.below hb2a)
  have HXM := Lib.hid hxm
  have hcx := hx.ch.cap
  have hmxx := hx.ch.max
  have hco := hx.os.cap
  have hmo := hx.os.max
  obtain ⟨R, HR⟩ : ∃ R, Hid (readM l = R) := ⟨_, rfl⟩
  rw [HR.out] at HXM ⊢
  obtain ⟨m, er⟩ := R
  simp only at HXM ⊢
  by_cases h0 : er = 0
  rotate_left
  · have hz : x.mm = zeroM := by
      have := read_badM (b := l) (by rw [HR.out]; exact h0)
      rw [HR.out] at this
      rw [HXM.out]
      exact this
    have hn0 : x.n = 0 := by
      have e := hx.ch.len
      have e2 : x.ch = [] := congrArg M.ch hz
      rw [e2] at e
      exact e.symm
    have hm0 : x.m = 0 := by
      have e := hx.os.len
      have e2 : osP x.ps = [] := congrArg M.os hz
      rw [← os_len, e2] at e
      exact e.symm
    have hb : (er != 0) = true := by simpa using h0
    have hn0i : ((x.n : Int) == 0) = true := by rw [hn0]; rfl
    have hm0i : ((x.m : Int) == 0) = true := by rw [hm0]; rfl
    clear h0 hz hx hxm hn0 hm0
    go_wp2_with fail
    refine (knows_yes E _ HE3.out).mono ?_
    rintro e w4 ⟨rfl, hb4⟩
    go_wp2
    go_ret
    exact ⟨rfl, hbw3.trans (hb4.mono hbw3.size)⟩
  subst h0
  have hrm : RightM x.mm := by
    have := (read_rightM (b := l) (by rw [HR.out])).1
    rw [HR.out] at this
    rw [HXM.out]
    exact this
  have HRM := Lib.hid hrm
  have HRB : Hid (rightM x.mm = true) := (rightM_iff _).2 hrm
  clear hrm hx hxm hbs1
  go_wp2_with fail
  generalize w2.alloc (.cells x.cells 25) = w3 at *
  generalize w2.heap.size = bx at *
  refine (write_any E x w3 HE3.out H3.out).mono ?_
  rintro e w4 ⟨hb4, hJ⟩
  have hbw4 := hbw3.trans (hb4.mono hbw3.size)
  have hcel4 := hcel.below hb4 hcel.lt
  have H4 := Lib.hid (H3.out.below hb4)
  rcases hJ with ⟨hr, _⟩ | ⟨_, _, rfl⟩ | ⟨_, hl, A, n, c, rfl, hown⟩
  · exact absurd (hr.symm.trans HRB.out) (by decide)
  · obtain ⟨r0, r1, r2, r3, r4, r5, r6, r7, r8, r9, r10, r11, r12, _⟩ := cels13 hcel4
    go_wp2_with fail
    refine (right_any x w4 H4.out).mono ?_
    rw [HRB.out]
    rintro e w5 ⟨rfl, hb5⟩
    have hcel5 := hcel4.below hb5 hcel4.lt
    clear r0 r1 r2 r3 r4 r5 r6 r7 r8 r9 r10 r11 r12
    obtain ⟨r0, r1, r2, r3, r4, r5, r6, r7, r8, r9, r10, r11, r12, _⟩ := cels13 hcel5
    go_wp2_with fail
    refine (as_msg x w5).mono ?_
    rintro e w6 ⟨rfl, hb6⟩
    go_wp2_with fail
    refine (refRight_msg x w6 ((H4.out.below hb5).below hb6)).mono ?_
    rw [HRB.out]
    rintro e w7 ⟨rfl, hb7⟩
    have hbw7 := ((hbw4.trans (hb5.mono hbw4.size)).trans (hb6.mono (hbw4.trans (hb5.mono hbw4.size)).size)).trans (hb7.mono ((hbw4.trans (hb5.mono hbw4.size)).trans (hb6.mono (hbw4.trans (hb5.mono hbw4.size)).size)).size)
    clear r0 r1 r2 r3 r4 r5 r6 r7 r8 r9 r10 r11 r12
    go_wp2_with fail
    refine (knows_yes E _ (HE.out.below hbw7)).mono ?_
    rintro e w8 ⟨rfl, hb8⟩
    go_wp2
    go_ret
    exact ⟨rfl, hbw7.trans (hb8.mono hbw7.size)⟩
  · have hbs4 := hown.bs
    have HBK := Lib.hid (read_backM HRM.out (bytes_le hl))
    clear hown hl
    obtain ⟨r0, r1, r2, r3, r4, r5, r6, r7, r8, r9, r10, r11, r12, _⟩ := cels13 hcel4
    go_wp2_with fail
    refine (right_any x w4 H4.out).mono ?_
    rw [HRB.out]
    rintro e w5 ⟨rfl, hb5⟩
    have hbw5 := hbw4.trans (hb5.mono hbw4.size)
    have hcel5 := hcel4.below hb5 hcel4.lt
    clear r0 r1 r2 r3 r4 r5 r6 r7 r8 r9 r10 r11 r12
    obtain ⟨r0, r1, r2, r3, r4, r5, r6, r7, r8, r9, r10, r11, r12, _⟩ := cels13 hcel5
    go_wp2_with fail
    refine (as_msg x w5).mono ?_
    rintro e w6 ⟨rfl, hb6⟩
    have hbw6 := hbw5.trans (hb6.mono hbw5.size)
    have hcel6 := hcel5.below hb6 hcel5.lt
    go_wp2_with fail
    refine (refRight_msg x w6 ((H4.out.below hb5).below hb6)).mono ?_
    rw [HRB.out]
    rintro e w8 ⟨rfl, hb8⟩
    have hbw8 := hbw6.trans (hb8.mono hbw6.size)
    have hcel8 := hcel6.below hb8 hcel6.lt
    have H8 := Lib.hid (((H4.out.below hb5).below hb6).below hb8)
    clear r0 r1 r2 r3 r4 r5 r6 r7 r8 r9 r10 r11 r12
    go_wp2_with fail
    refine (read_any E A n c (bytesM x.mm) _ (HE.out.below hbw8) (((hbs4.below hb5).below hb6).below hb8)).mono ?_
    rw [HBK.out]
    rintro e w9 ⟨y, rfl, hy, hym, hb9⟩
    have hbw9 := hbw8.trans (hb9.mono hbw8.size)
    have hb97 : Below w9.heap.size w9 (w9.alloc (.cells y.cells 25)) := (Below.refl _ _).alloc (Nat.le_refl _) _
    have HXY : Hid (x.mm = y.mm) := hym.symm
    have HY7 := Lib.hid (hy.below hb97)
    have hbw7 := Lib.hid (hbw9.trans (hb97.mono hbw9.size))
    have HX7 := Lib.hid ((H8.out.below hb9).below hb97)
    have HE7 := Lib.hid (HE.out.below hbw7.out)
    have hcY := Cel.born w9 25 y.cells
    have hcX := (hcel8.below hb9 hcel8.lt).below hb97 (by have := hcel8.lt; have := hb9.size; omega)
    go_wp2_with fail
    generalize w9.alloc (.cells y.cells 25) = w7 at *
    generalize w9.heap.size = gy at *
    have K : Hid (∀ W, Below w7.heap.size w7 W → Below w7.heap.size w7 W ∧ W.cell? ⟨bx, 0, none⟩ = some (.int .i64 x.op) ∧ W.cell? ⟨bx, 1, none⟩ = some (.int .i64 x.htype) ∧ W.cell? ⟨bx, 2, none⟩ = some (.int .i64 x.hlen) ∧ W.cell? ⟨bx, 3, none⟩ = some (.int .i64 x.hops) ∧ W.cell? ⟨bx, 4, none⟩ = some (.int .i64 x.xid) ∧ W.cell? ⟨bx, 5, none⟩ = some (.int .i64 x.secs) ∧ W.cell? ⟨bx, 6, none⟩ = some (.int .i64 x.flags) ∧ W.cell? ⟨bx, 7, none⟩ = some (.int .i64 x.ci) ∧ W.cell? ⟨bx, 8, none⟩ = some (.int .i64 x.yi) ∧ W.cell? ⟨bx, 9, none⟩ = some (.int .i64 x.si) ∧ W.cell? ⟨bx, 10, none⟩ = some (.int .i64 x.gi) ∧ W.cell? ⟨bx, 11, none⟩ = some (.slice x.A x.n x.c) ∧ W.cell? ⟨bx, 12, none⟩ = some (.slice x.B x.m x.d) ∧ W.cell? ⟨gy, 0, none⟩ = some (.int .i64 y.op) ∧ W.cell? ⟨gy, 1, none⟩ = some (.int .i64 y.htype) ∧ W.cell? ⟨gy, 2, none⟩ = some (.int .i64 y.hlen) ∧ W.cell? ⟨gy, 3, none⟩ = some (.int .i64 y.hops) ∧ W.cell? ⟨gy, 4, none⟩ = some (.int .i64 y.xid) ∧ W.cell? ⟨gy, 5, none⟩ = some (.int .i64 y.secs) ∧ W.cell? ⟨gy, 6, none⟩ = some (.int .i64 y.flags) ∧ W.cell? ⟨gy, 7, none⟩ = some (.int .i64 y.ci) ∧ W.cell? ⟨gy, 8, none⟩ = some (.int .i64 y.yi) ∧ W.cell? ⟨gy, 9, none⟩ = some (.int .i64 y.si) ∧ W.cell? ⟨gy, 10, none⟩ = some (.int .i64 y.gi) ∧ W.cell? ⟨gy, 11, none⟩ = some (.slice y.A y.n y.c) ∧ W.cell? ⟨gy, 12, none⟩ = some (.slice y.B y.m y.d)) := fun W hW => by
      have k1 := hcX.below hW hcX.lt
      have k2 := hcY.below hW hcY.lt
      refine ⟨hW, ?_, ?_, ?_, ?_, ?_, ?_, ?_, ?_, ?_, ?_, ?_, ?_, ?_, ?_, ?_, ?_, ?_, ?_, ?_, ?_, ?_, ?_, ?_, ?_, ?_, ?_⟩
      all_goals first | (rw [k1.cell]; rfl) | (rw [k2.cell]; rfl)
    clear hcX hcY
    go_region_held3 (fun W => Below w7.heap.size w7 W ∧ W.cell? ⟨bx, 0, none⟩ = some (.int .i64 x.op) ∧ W.cell? ⟨bx, 1, none⟩ = some (.int .i64 x.htype) ∧ W.cell? ⟨bx, 2, none⟩ = some (.int .i64 x.hlen) ∧ W.cell? ⟨bx, 3, none⟩ = some (.int .i64 x.hops) ∧ W.cell? ⟨bx, 4, none⟩ = some (.int .i64 x.xid) ∧ W.cell? ⟨bx, 5, none⟩ = some (.int .i64 x.secs) ∧ W.cell? ⟨bx, 6, none⟩ = some (.int .i64 x.flags) ∧ W.cell? ⟨bx, 7, none⟩ = some (.int .i64 x.ci) ∧ W.cell? ⟨bx, 8, none⟩ = some (.int .i64 x.yi) ∧ W.cell? ⟨bx, 9, none⟩ = some (.int .i64 x.si) ∧ W.cell? ⟨bx, 10, none⟩ = some (.int .i64 x.gi) ∧ W.cell? ⟨bx, 11, none⟩ = some (.slice x.A x.n x.c) ∧ W.cell? ⟨bx, 12, none⟩ = some (.slice x.B x.m x.d) ∧ W.cell? ⟨gy, 0, none⟩ = some (.int .i64 y.op) ∧ W.cell? ⟨gy, 1, none⟩ = some (.int .i64 y.htype) ∧ W.cell? ⟨gy, 2, none⟩ = some (.int .i64 y.hlen) ∧ W.cell? ⟨gy, 3, none⟩ = some (.int .i64 y.hops) ∧ W.cell? ⟨gy, 4, none⟩ = some (.int .i64 y.xid) ∧ W.cell? ⟨gy, 5, none⟩ = some (.int .i64 y.secs) ∧ W.cell? ⟨gy, 6, none⟩ = some (.int .i64 y.flags) ∧ W.cell? ⟨gy, 7, none⟩ = some (.int .i64 y.ci) ∧ W.cell? ⟨gy, 8, none⟩ = some (.int .i64 y.yi) ∧ W.cell? ⟨gy, 9, none⟩ = some (.int .i64 y.si) ∧ W.cell? ⟨gy, 10, none⟩ = some (.int .i64 y.gi) ∧ W.cell? ⟨gy, 11, none⟩ = some (.slice y.A y.n y.c) ∧ W.cell? ⟨gy, 12, none⟩ = some (.slice y.B y.m y.d))
      (first
        | exact K.out _ (Below.refl _ _).drew
        | exact K.out _ hA.out
        | exact K.out _ hB.out
        | exact K.out _ hC.out
        | exact K.out _ hD.out)
      (first
        | (go_at_call 13
           with_reducible refine (as_msg x w7.drew).mono ?_
           rintro e wA ⟨rfl, hbA⟩
           have hA : Hid (Below w7.heap.size w7 wA) := below_undrew hbA
           clear hbA)
        | (go_at_call 13
           with_reducible refine (as_msg y wA).mono ?_
           rintro e wB ⟨rfl, hbB⟩
           have hB : Hid (Below w7.heap.size w7 wB) := hA.out.trans (hbB.mono hA.out.size)
           clear hbB)
        | (go_at_call 18
           with_reducible refine (same_yes x y wB (HX7.out.below hB.out) (HY7.out.below hB.out) HXY.out).mono ?_
           rintro e wC ⟨rfl, hbC⟩
           have hC : Hid (Below w7.heap.size w7 wC) := hB.out.trans (hbC.mono hB.out.size)
           clear hbC)
        | (go_at_call 10
           with_reducible refine (knows_yes E wC (HE7.out.below hC.out)).mono ?_
           rintro e wD ⟨rfl, hbD⟩
           have hD : Hid (Below w7.heap.size w7 wD) := hC.out.trans (hbD.mono hC.out.size)
           clear hbD))
    all_goals (
      go_wp2
      go_ret
      exact ⟨rfl, hbw7.out.trans (hD.out.mono hbw7.out.size)⟩)

end Go.Proofs.YtipnoihmhcfigaaDoor.Mw
