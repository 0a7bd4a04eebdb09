/- The statements MsgBack and MsgAny of boarderlaw04, walked: true, and nothing that was there has turned. Condition: what msg's package-level variables hold (En.ok). -/
import Derived.Test.YtipnoihmhcfigaaDoorMwLaws
set_option maxRecDepth 8000
namespace Go.Proofs.YtipnoihmhcfigaaDoor.Mw
open Go.RowKit Tl Ms Co By

theorem bytes_le {m : M} (h : ¬ 1500 < (bodyM m).length) : (bytesM m).length ≤ 1500 := by
  unfold bytesM padL
  rw [List.length_append, List.length_replicate]
  omega
set_option maxHeartbeats 4000000 in
theorem msgBack_walk (E : En) (x : Mv) (w : World) (hE : E.ok w) (h : x.ok w) : Calls Tryd.prog 6 #[x.v] w (isTrue w) := by
  have hb0 : Below w.heap.size w (w.alloc (.cells x.cells 25)) := (Below.refl _ _).alloc (Nat.le_refl _) _
  have HE := Lib.hid hE
  have H0 := Lib.hid h
  clear hE h
  go_enter Tryd.func6, Tryd.ntmps6
  go_wp2_with fail
  refine (great_msg x _ (H0.out.below hb0)).mono ?_
  rintro e w1 ⟨rfl, hb1⟩
  have hcel := box_at (x := x) (by simp) hb1
  have hbw1 := hb0.trans (hb1.mono hb0.size)
  have HE1 := Lib.hid (HE.out.below hbw1)
  have H1 := Lib.hid (H0.out.below hbw1)
  cases q : greatM x.mm
  rotate_left
  · go_wp2_with fail
    refine (knows_yes E _ HE1.out).mono ?_
    rintro e w2 ⟨rfl, hb2⟩
    go_wp2
    go_ret
    exact ⟨rfl, hbw1.trans (hb2.mono hbw1.size)⟩
  obtain ⟨r0, r1, r2, r3, r4, r5, r6, r7, r8, r9, r10, r11, r12, _⟩ := cels13 hcel
  go_wp2_with fail
  refine (write_any E x w1 HE1.out H1.out).mono ?_
  clear r0 r1 r2 r3 r4 r5 r6 r7 r8 r9 r10 r11 r12
  rintro e w2 ⟨hb2, hJ⟩
  have hbw2 := hbw1.trans (hb2.mono hbw1.size)
  have HE2 := Lib.hid (HE.out.below hbw2)
  have hcel2 := hcel.below hb2 hcel.lt
  rcases hJ with ⟨_, rfl⟩ | ⟨_, _, rfl⟩ | ⟨hr, hl, A, n, c, rfl, hown⟩
  · go_wp2_with fail
    refine (knows_yes E _ HE2.out).mono ?_
    rintro e w3 ⟨rfl, hb3⟩
    go_wp2
    go_ret
    exact ⟨rfl, hbw2.trans (hb3.mono hbw2.size)⟩
  · go_wp2_with fail
    refine (knows_yes E _ HE2.out).mono ?_
    rintro e w3 ⟨rfl, hb3⟩
    go_wp2
    go_ret
    exact ⟨rfl, hbw2.trans (hb3.mono hbw2.size)⟩
  have hbs := hown.bs
  have hn : (300 : Int) ≤ (n : Int) := by have := bytes_ge x.mm; rw [hbs.len] at this; omega
  have hmx := hbs.max
  have hcp := hbs.cap
  have HBK := Lib.hid (read_backM ((rightM_iff _).1 hr) (bytes_le hl))
  clear hown hr hl
  go_wp2_with fail
  refine (read_any E A n c (bytesM x.mm) _ HE2.out hbs).mono ?_
  rw [HBK.out]
  rintro e w3 ⟨y, rfl, hy, hym, hb3⟩
  have hbw3 := hbw2.trans (hb3.mono hbw2.size)
  have hb37 : Below w3.heap.size w3 (w3.alloc (.cells y.cells 25)) := (Below.refl _ _).alloc (Nat.le_refl _) _
  have HXY : Hid (x.mm = y.mm) := hym.symm
  have HY7 := Lib.hid (hy.below hb37)
  have hbw7 := Lib.hid (hbw3.trans (hb37.mono hbw3.size))
  have HX7 := Lib.hid (H0.out.below hbw7.out)
  have HE7 := Lib.hid (HE.out.below hbw7.out)
  have hcY := Cel.born w3 25 y.cells
  have hcX := (hcel2.below hb3 hcel2.lt).below hb37 (by have := hcel2.lt; have := hb3.size; omega)
  go_wp2_with fail
  generalize w3.alloc (.cells y.cells 25) = w7 at *
  generalize w3.heap.size = gy at *
  obtain ⟨bx, hbx⟩ : ∃ b, Hid (w.heap.size = b) := ⟨_, rfl⟩
  rw [hbx.out] at hcX ⊢
  have K : Hid (∀ W, Below w7.heap.size w7 W → Below w7.heap.size w7 W ∧ W.cell? ⟨bx, 0, none⟩ = some (.int .i64 x.op) ∧ W.cell? ⟨bx, 1, none⟩ = some (.int .i64 x.htype) ∧ W.cell? ⟨bx, 2, none⟩ = some (.int .i64 x.hlen) ∧ W.cell? ⟨bx, 3, none⟩ = some (.int .i64 x.hops) ∧ W.cell? ⟨bx, 4, none⟩ = some (.int .i64 x.xid) ∧ W.cell? ⟨bx, 5, none⟩ = some (.int .i64 x.secs) ∧ W.cell? ⟨bx, 6, none⟩ = some (.int .i64 x.flags) ∧ W.cell? ⟨bx, 7, none⟩ = some (.int .i64 x.ci) ∧ W.cell? ⟨bx, 8, none⟩ = some (.int .i64 x.yi) ∧ W.cell? ⟨bx, 9, none⟩ = some (.int .i64 x.si) ∧ W.cell? ⟨bx, 10, none⟩ = some (.int .i64 x.gi) ∧ W.cell? ⟨bx, 11, none⟩ = some (.slice x.A x.n x.c) ∧ W.cell? ⟨bx, 12, none⟩ = some (.slice x.B x.m x.d) ∧ W.cell? ⟨gy, 0, none⟩ = some (.int .i64 y.op) ∧ W.cell? ⟨gy, 1, none⟩ = some (.int .i64 y.htype) ∧ W.cell? ⟨gy, 2, none⟩ = some (.int .i64 y.hlen) ∧ W.cell? ⟨gy, 3, none⟩ = some (.int .i64 y.hops) ∧ W.cell? ⟨gy, 4, none⟩ = some (.int .i64 y.xid) ∧ W.cell? ⟨gy, 5, none⟩ = some (.int .i64 y.secs) ∧ W.cell? ⟨gy, 6, none⟩ = some (.int .i64 y.flags) ∧ W.cell? ⟨gy, 7, none⟩ = some (.int .i64 y.ci) ∧ W.cell? ⟨gy, 8, none⟩ = some (.int .i64 y.yi) ∧ W.cell? ⟨gy, 9, none⟩ = some (.int .i64 y.si) ∧ W.cell? ⟨gy, 10, none⟩ = some (.int .i64 y.gi) ∧ W.cell? ⟨gy, 11, none⟩ = some (.slice y.A y.n y.c) ∧ W.cell? ⟨gy, 12, none⟩ = some (.slice y.B y.m y.d)) := fun W hW => by
    have k1 := hcX.below hW hcX.lt
    have k2 := hcY.below hW hcY.lt
    refine ⟨hW, ?_, ?_, ?_, ?_, ?_, ?_, ?_, ?_, ?_, ?_, ?_, ?_, ?_, ?_, ?_, ?_, ?_, ?_, ?_, ?_, ?_, ?_, ?_, ?_, ?_, ?_⟩
    all_goals first | (rw [k1.cell]; rfl) | (rw [k2.cell]; rfl)
  clear hcX hcY
  go_region_held3 (fun W => Below w7.heap.size w7 W ∧ W.cell? ⟨bx, 0, none⟩ = some (.int .i64 x.op) ∧ W.cell? ⟨bx, 1, none⟩ = some (.int .i64 x.htype) ∧ W.cell? ⟨bx, 2, none⟩ = some (.int .i64 x.hlen) ∧ W.cell? ⟨bx, 3, none⟩ = some (.int .i64 x.hops) ∧ W.cell? ⟨bx, 4, none⟩ = some (.int .i64 x.xid) ∧ W.cell? ⟨bx, 5, none⟩ = some (.int .i64 x.secs) ∧ W.cell? ⟨bx, 6, none⟩ = some (.int .i64 x.flags) ∧ W.cell? ⟨bx, 7, none⟩ = some (.int .i64 x.ci) ∧ W.cell? ⟨bx, 8, none⟩ = some (.int .i64 x.yi) ∧ W.cell? ⟨bx, 9, none⟩ = some (.int .i64 x.si) ∧ W.cell? ⟨bx, 10, none⟩ = some (.int .i64 x.gi) ∧ W.cell? ⟨bx, 11, none⟩ = some (.slice x.A x.n x.c) ∧ W.cell? ⟨bx, 12, none⟩ = some (.slice x.B x.m x.d) ∧ W.cell? ⟨gy, 0, none⟩ = some (.int .i64 y.op) ∧ W.cell? ⟨gy, 1, none⟩ = some (.int .i64 y.htype) ∧ W.cell? ⟨gy, 2, none⟩ = some (.int .i64 y.hlen) ∧ W.cell? ⟨gy, 3, none⟩ = some (.int .i64 y.hops) ∧ W.cell? ⟨gy, 4, none⟩ = some (.int .i64 y.xid) ∧ W.cell? ⟨gy, 5, none⟩ = some (.int .i64 y.secs) ∧ W.cell? ⟨gy, 6, none⟩ = some (.int .i64 y.flags) ∧ W.cell? ⟨gy, 7, none⟩ = some (.int .i64 y.ci) ∧ W.cell? ⟨gy, 8, none⟩ = some (.int .i64 y.yi) ∧ W.cell? ⟨gy, 9, none⟩ = some (.int .i64 y.si) ∧ W.cell? ⟨gy, 10, none⟩ = some (.int .i64 y.gi) ∧ W.cell? ⟨gy, 11, none⟩ = some (.slice y.A y.n y.c) ∧ W.cell? ⟨gy, 12, none⟩ = some (.slice y.B y.m y.d))
    (first
      | exact K.out _ (Below.refl _ _).drew
      | exact K.out _ hA.out
      | exact K.out _ hB.out
      | exact K.out _ hC.out
      | exact K.out _ hD.out)
    (first
      | (go_at_call 13
         with_reducible refine (as_msg x w7.drew).mono ?_
         rintro e wA ⟨rfl, hbA⟩
         have hA : Hid (Below w7.heap.size w7 wA) := below_undrew hbA
         clear hbA)
      | (go_at_call 13
         with_reducible refine (as_msg y wA).mono ?_
         rintro e wB ⟨rfl, hbB⟩
         have hB : Hid (Below w7.heap.size w7 wB) := hA.out.trans (hbB.mono hA.out.size)
         clear hbB)
      | (go_at_call 18
         with_reducible refine (same_yes x y wB (HX7.out.below hB.out) (HY7.out.below hB.out) HXY.out).mono ?_
         rintro e wC ⟨rfl, hbC⟩
         have hC : Hid (Below w7.heap.size w7 wC) := hB.out.trans (hbC.mono hB.out.size)
         clear hbC)
      | (go_at_call 10
         with_reducible refine (knows_yes E wC (HE7.out.below hC.out)).mono ?_
         rintro e wD ⟨rfl, hbD⟩
         have hD : Hid (Below w7.heap.size w7 wD) := hC.out.trans (hbD.mono hC.out.size)
         clear hbD))
  all_goals (
    go_wp2
    go_ret
    exact ⟨rfl, hbw7.out.trans (hD.out.mono hbw7.out.size)⟩)

end Go.Proofs.YtipnoihmhcfigaaDoor.Mw
