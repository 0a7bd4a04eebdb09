/- The statements MsgRights and MsgBack of boarderlaw04, walked: true, and nothing that was there has turned. Condition: what msg's package-level variables hold (En.ok). -/
import Derived.Test.YtipnoihmhcfigaaDoorMwKnows
set_option maxRecDepth 8000
namespace Go.Proofs.YtipnoihmhcfigaaDoor.Mw
open Go.RowKit Tl Ms Co By

set_option maxHeartbeats 2000000 in
theorem msgRights_walk (E : En) (x : Mv) (w : World) (hE : E.ok w) (h : x.ok w) : Calls Tryd.prog 3 #[x.v] w (isTrue w) := by
  have hb0 : Below w.heap.size w (w.alloc (.cells x.cells 25)) := (Below.refl _ _).alloc (Nat.le_refl _) _
  have HE := Lib.hid hE
  have H0 := Lib.hid h
  clear hE h
  go_enter Tryd.func3, Tryd.ntmps3
  go_wp2_with fail
  refine (great_msg x _ (H0.out.below hb0)).mono ?_
  rintro e w1 ⟨rfl, hb1⟩
  have hcel := box_at (x := x) (by simp) hb1
  have hbw1 := hb0.trans (hb1.mono hb0.size)
  have HE1 := Lib.hid (HE.out.below hbw1)
  have H1 := Lib.hid (H0.out.below hbw1)
  cases q : greatM x.mm
  rotate_left
  · go_wp2_with fail
    refine (knows_yes E _ HE1.out).mono ?_
    rintro e w2 ⟨rfl, hb2⟩
    go_wp2
    go_ret
    exact ⟨rfl, hbw1.trans (hb2.mono hbw1.size)⟩
  have K : Hid (∀ W, Below w1.heap.size w1 W → Below w1.heap.size w1 W ∧ W.cell? ⟨w.heap.size, 0, none⟩ = some (.int .i64 x.op) ∧ W.cell? ⟨w.heap.size, 1, none⟩ = some (.int .i64 x.htype) ∧ W.cell? ⟨w.heap.size, 2, none⟩ = some (.int .i64 x.hlen) ∧ W.cell? ⟨w.heap.size, 3, none⟩ = some (.int .i64 x.hops) ∧ W.cell? ⟨w.heap.size, 4, none⟩ = some (.int .i64 x.xid) ∧ W.cell? ⟨w.heap.size, 5, none⟩ = some (.int .i64 x.secs) ∧ W.cell? ⟨w.heap.size, 6, none⟩ = some (.int .i64 x.flags) ∧ W.cell? ⟨w.heap.size, 7, none⟩ = some (.int .i64 x.ci) ∧ W.cell? ⟨w.heap.size, 8, none⟩ = some (.int .i64 x.yi) ∧ W.cell? ⟨w.heap.size, 9, none⟩ = some (.int .i64 x.si) ∧ W.cell? ⟨w.heap.size, 10, none⟩ = some (.int .i64 x.gi) ∧ W.cell? ⟨w.heap.size, 11, none⟩ = some (.slice x.A x.n x.c) ∧ W.cell? ⟨w.heap.size, 12, none⟩ = some (.slice x.B x.m x.d)) := fun W hW => by
    have k1 := hcel.below hW hcel.lt
    refine ⟨hW, ?_, ?_, ?_, ?_, ?_, ?_, ?_, ?_, ?_, ?_, ?_, ?_, ?_⟩
    all_goals (rw [k1.cell]; rfl)
  clear hcel hb1
  go_wp2_with fail
  go_region_held3 (fun W => Below w1.heap.size w1 W ∧ W.cell? ⟨w.heap.size, 0, none⟩ = some (.int .i64 x.op) ∧ W.cell? ⟨w.heap.size, 1, none⟩ = some (.int .i64 x.htype) ∧ W.cell? ⟨w.heap.size, 2, none⟩ = some (.int .i64 x.hlen) ∧ W.cell? ⟨w.heap.size, 3, none⟩ = some (.int .i64 x.hops) ∧ W.cell? ⟨w.heap.size, 4, none⟩ = some (.int .i64 x.xid) ∧ W.cell? ⟨w.heap.size, 5, none⟩ = some (.int .i64 x.secs) ∧ W.cell? ⟨w.heap.size, 6, none⟩ = some (.int .i64 x.flags) ∧ W.cell? ⟨w.heap.size, 7, none⟩ = some (.int .i64 x.ci) ∧ W.cell? ⟨w.heap.size, 8, none⟩ = some (.int .i64 x.yi) ∧ W.cell? ⟨w.heap.size, 9, none⟩ = some (.int .i64 x.si) ∧ W.cell? ⟨w.heap.size, 10, none⟩ = some (.int .i64 x.gi) ∧ W.cell? ⟨w.heap.size, 11, none⟩ = some (.slice x.A x.n x.c) ∧ W.cell? ⟨w.heap.size, 12, none⟩ = some (.slice x.B x.m x.d))
    (first
      | exact K.out _ (Below.refl _ _).drew
      | exact K.out _ hA.out
      | exact K.out _ hB.out
      | exact K.out _ hC.out
      | exact K.out _ hD.out)
    (first
      | (go_at_call 11
         with_reducible refine (right_any x w1.drew (H1.out.below (Below.refl _ _).drew)).mono ?_
         rintro e wA ⟨rfl, hbA⟩
         have hA : Hid (Below w1.heap.size w1 wA) := below_undrew hbA
         clear hbA)
      | (go_at_call 13
         with_reducible refine (as_msg x wA).mono ?_
         rintro e wB ⟨rfl, hbB⟩
         have hB : Hid (Below w1.heap.size w1 wB) := hA.out.trans (hbB.mono hA.out.size)
         clear hbB)
      | (go_at_call 12
         with_reducible refine (refRight_msg x wB (H1.out.below hB.out)).mono ?_
         rintro e wC ⟨rfl, hbC⟩
         have hC : Hid (Below w1.heap.size w1 wC) := hB.out.trans (hbC.mono hB.out.size)
         have hq : (rightM x.mm == rightM x.mm) = true := by simp
         clear hbC)
      | (go_at_call 10
         with_reducible refine (knows_yes E wC (HE1.out.below hC.out)).mono ?_
         rintro e wD ⟨rfl, hbD⟩
         have hD : Hid (Below w1.heap.size w1 wD) := hC.out.trans (hbD.mono hC.out.size)
         clear hbD))
  all_goals (
    go_wp2
    go_ret
    exact ⟨rfl, hbw1.trans (hD.out.mono hbw1.size)⟩)
end Go.Proofs.YtipnoihmhcfigaaDoor.Mw
