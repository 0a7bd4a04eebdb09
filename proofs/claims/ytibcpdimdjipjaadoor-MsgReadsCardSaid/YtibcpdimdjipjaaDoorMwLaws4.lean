/- The statement MsgReads of boarderlaw04, walked: true, and nothing that was there has turned. Condition: what msg's package-level variables hold (En.ok). -/
import Derived.Test.YtibcpdimdjipjaaDoorMwRef4
import Derived.Test.YtibcpdimdjipjaaDoorMwKnows
import Derived.Test.YtibcpdimdjipjaaDoorMwRef1
set_option maxRecDepth 8000
namespace Go.Proofs.YtibcpdimdjipjaaDoor.Mw
open Go.RowKit Tl Ms Co By

set_option maxHeartbeats 4000000 in
theorem msgReads_walk (E : En) (A0 : Option Addr) (n0 c0 : Nat) (l : List UInt8) (w : World) (hE : E.ok w) (h : Bs w A0 n0 c0 l) : Calls Tryd.prog 4 #[.slice A0 n0 c0] w (isTrue w) := by
  have hmx0 := h.max
  have hcp0 := h.cap
  have HE := Lib.hid hE
  clear hE
  by_cases hbig : (5000 : Int) < (n0 : Int)
  · go_enter Tryd.func4, Tryd.ntmps4
    go_wp2_with fail
    refine (knows_yes E _ HE.out).mono ?_
    rintro e w2 ⟨rfl, hb2⟩
    go_wp2
    go_ret
    exact ⟨rfl, hb2⟩
  have hba : Below w.heap.size w (w.alloc (Obj.cells #[] 5)) := (Below.refl _ _).alloc (Nat.le_refl _) _
  have hl0 := Own.lit0 5 w
  go_enter Tryd.func4, Tryd.ntmps4
  go_wp2_with (first | fail | (at_builtin; refine wpList_app byP rfl (.tmp 12) (.tmp 13) rfl rfl hl0 rfl (h.below hba) (by omega) (by simp) ?_; intro A1 c1 w1 hown1 hb1 _ _))
  simp only [Nat.zero_add, List.nil_append] at hown1
  have hbw1 := hba.trans hb1
  have HE1 := Lib.hid (HE.out.below hbw1)
  have hbs1 := hown1.bs
  clear hown1 hl0
  refine (read_any E A1 n0 c1 l _ HE1.out hbs1).mono ?_
  rintro e w2 ⟨x, rfl, hx, hxm, hb2⟩
  have hbw2 := hbw1.trans (hb2.mono hbw1.size)
  have hb2a : Below w2.heap.size w2 (w2.alloc (.cells x.cells 25)) := (Below.refl _ _).alloc (Nat.le_refl _) _
  have hcel := Cel.born w2 25 x.cells
  have hbw3 := hbw2.trans (hb2a.mono hbw2.size)
  have H3 := Lib.hid (hx.below hb2a)
  have HXM := Lib.hid hxm
  have h3 := h.below hbw3
  obtain ⟨R, HR⟩ : ∃ R, Hid (readM l = R) := ⟨_, rfl⟩
  rw [HR.out] at HXM ⊢
  clear hx hxm hbs1
  go_wp2_with fail
  generalize w2.alloc (.cells x.cells 25) = w3 at *
  generalize w2.heap.size = bx at *
  refine (refReadM_any A0 n0 c0 l w3 h3 (by omega)).mono ?_
  rw [HR.out]
  rintro e w4 ⟨y, rfl, hy, hym, hb4⟩
  have hbw4 := hbw3.trans (hb4.mono hbw3.size)
  have hb47 : Below w4.heap.size w4 (w4.alloc (.cells y.cells 32)) := (Below.refl _ _).alloc (Nat.le_refl _) _
  have HXY : Hid (x.mm = y.mm) := HXM.out.trans hym.symm
  have HY7 := Lib.hid (hy.below hb47)
  have hbw7 := Lib.hid (hbw4.trans (hb47.mono hbw4.size))
  have HX7 := Lib.hid ((H3.out.below hb4).below hb47)
  have HE7 := Lib.hid (HE.out.below hbw7.out)
  have hcY := Cel.born w4 32 y.cells
  have hcX := (hcel.below hb4 hcel.lt).below hb47 (by have := hcel.lt; have := hb4.size; omega)
  clear hy hym hcel h3
  go_wp2_with fail
  generalize w4.alloc (.cells y.cells 32) = w7 at *
  generalize w4.heap.size = gy at *
  have K : Hid (∀ W, Below w7.heap.size w7 W → Below w7.heap.size w7 W ∧ W.cell? ⟨bx, 0, none⟩ = some (.int .i64 x.op) ∧ W.cell? ⟨bx, 1, none⟩ = some (.int .i64 x.htype) ∧ W.cell? ⟨bx, 2, none⟩ = some (.int .i64 x.hlen) ∧ W.cell? ⟨bx, 3, none⟩ = some (.int .i64 x.hops) ∧ W.cell? ⟨bx, 4, none⟩ = some (.int .i64 x.xid) ∧ W.cell? ⟨bx, 5, none⟩ = some (.int .i64 x.secs) ∧ W.cell? ⟨bx, 6, none⟩ = some (.int .i64 x.flags) ∧ W.cell? ⟨bx, 7, none⟩ = some (.int .i64 x.ci) ∧ W.cell? ⟨bx, 8, none⟩ = some (.int .i64 x.yi) ∧ W.cell? ⟨bx, 9, none⟩ = some (.int .i64 x.si) ∧ W.cell? ⟨bx, 10, none⟩ = some (.int .i64 x.gi) ∧ W.cell? ⟨bx, 11, none⟩ = some (.slice x.A x.n x.c) ∧ W.cell? ⟨bx, 12, none⟩ = some (.slice x.B x.m x.d) ∧ W.cell? ⟨gy, 0, none⟩ = some (.int .i64 y.op) ∧ W.cell? ⟨gy, 1, none⟩ = some (.int .i64 y.htype) ∧ W.cell? ⟨gy, 2, none⟩ = some (.int .i64 y.hlen) ∧ W.cell? ⟨gy, 3, none⟩ = some (.int .i64 y.hops) ∧ W.cell? ⟨gy, 4, none⟩ = some (.int .i64 y.xid) ∧ W.cell? ⟨gy, 5, none⟩ = some (.int .i64 y.secs) ∧ W.cell? ⟨gy, 6, none⟩ = some (.int .i64 y.flags) ∧ W.cell? ⟨gy, 7, none⟩ = some (.int .i64 y.ci) ∧ W.cell? ⟨gy, 8, none⟩ = some (.int .i64 y.yi) ∧ W.cell? ⟨gy, 9, none⟩ = some (.int .i64 y.si) ∧ W.cell? ⟨gy, 10, none⟩ = some (.int .i64 y.gi) ∧ W.cell? ⟨gy, 11, none⟩ = some (.slice y.A y.n y.c) ∧ W.cell? ⟨gy, 12, none⟩ = some (.slice y.B y.m y.d)) := fun W hW => by
    have k1 := hcX.below hW hcX.lt
    have k2 := hcY.below hW hcY.lt
    refine ⟨hW, ?_, ?_, ?_, ?_, ?_, ?_, ?_, ?_, ?_, ?_, ?_, ?_, ?_, ?_, ?_, ?_, ?_, ?_, ?_, ?_, ?_, ?_, ?_, ?_, ?_, ?_⟩
    all_goals first | (rw [k1.cell]; rfl) | (rw [k2.cell]; rfl)
  clear hcX hcY
  go_region_held3 (fun W => Below w7.heap.size w7 W ∧ W.cell? ⟨bx, 0, none⟩ = some (.int .i64 x.op) ∧ W.cell? ⟨bx, 1, none⟩ = some (.int .i64 x.htype) ∧ W.cell? ⟨bx, 2, none⟩ = some (.int .i64 x.hlen) ∧ W.cell? ⟨bx, 3, none⟩ = some (.int .i64 x.hops) ∧ W.cell? ⟨bx, 4, none⟩ = some (.int .i64 x.xid) ∧ W.cell? ⟨bx, 5, none⟩ = some (.int .i64 x.secs) ∧ W.cell? ⟨bx, 6, none⟩ = some (.int .i64 x.flags) ∧ W.cell? ⟨bx, 7, none⟩ = some (.int .i64 x.ci) ∧ W.cell? ⟨bx, 8, none⟩ = some (.int .i64 x.yi) ∧ W.cell? ⟨bx, 9, none⟩ = some (.int .i64 x.si) ∧ W.cell? ⟨bx, 10, none⟩ = some (.int .i64 x.gi) ∧ W.cell? ⟨bx, 11, none⟩ = some (.slice x.A x.n x.c) ∧ W.cell? ⟨bx, 12, none⟩ = some (.slice x.B x.m x.d) ∧ W.cell? ⟨gy, 0, none⟩ = some (.int .i64 y.op) ∧ W.cell? ⟨gy, 1, none⟩ = some (.int .i64 y.htype) ∧ W.cell? ⟨gy, 2, none⟩ = some (.int .i64 y.hlen) ∧ W.cell? ⟨gy, 3, none⟩ = some (.int .i64 y.hops) ∧ W.cell? ⟨gy, 4, none⟩ = some (.int .i64 y.xid) ∧ W.cell? ⟨gy, 5, none⟩ = some (.int .i64 y.secs) ∧ W.cell? ⟨gy, 6, none⟩ = some (.int .i64 y.flags) ∧ W.cell? ⟨gy, 7, none⟩ = some (.int .i64 y.ci) ∧ W.cell? ⟨gy, 8, none⟩ = some (.int .i64 y.yi) ∧ W.cell? ⟨gy, 9, none⟩ = some (.int .i64 y.si) ∧ W.cell? ⟨gy, 10, none⟩ = some (.int .i64 y.gi) ∧ W.cell? ⟨gy, 11, none⟩ = some (.slice y.A y.n y.c) ∧ W.cell? ⟨gy, 12, none⟩ = some (.slice y.B y.m y.d))
    (first
      | exact K.out _ (Below.refl _ _).drew
      | exact K.out _ hA.out
      | exact K.out _ hC.out
      | exact K.out _ hD.out)
    (first
      | (go_at_call 10
         with_reducible refine (as_msg x w7.drew).mono ?_
         rintro e wA ⟨rfl, hbA⟩
         have hA : Hid (Below w7.heap.size w7 wA) := below_undrew hbA
         clear hbA)
      | (go_at_call 14
         with_reducible refine (same_yes x y wA (HX7.out.below hA.out) (HY7.out.below hA.out) HXY.out).mono ?_
         rintro e wC ⟨rfl, hbC⟩
         have hC : Hid (Below w7.heap.size w7 wC) := hA.out.trans (hbC.mono hA.out.size)
         clear hbC)
      | (go_at_call 7
         with_reducible refine (knows_yes E wC (HE7.out.below hC.out)).mono ?_
         rintro e wD ⟨rfl, hbD⟩
         have hD : Hid (Below w7.heap.size w7 wD) := hC.out.trans (hbD.mono hC.out.size)
         clear hbD))
  all_goals (
    go_wp2
    go_ret
    exact ⟨rfl, hbw7.out.trans (hD.out.mono hbw7.out.size)⟩)
end Go.Proofs.YtibcpdimdjipjaaDoor.Mw
