/- The walk of TableSays: it returns true, and what was in memory stays. For all leases whose keys fit. -/
import Derived.Test.YtniocdbapkkdhaaBwLaws
import Derived.Deep.RegionHeld3
set_option maxRecDepth 8000
namespace Go.Proofs.Ytniocdbapkkdhaa
open Go.RowKit Co By Ky Rc Ew Jw La Tb Lw Bw
open Dw (ba ba_size ba_data ba_list alloc_more)

set_option maxHeartbeats 8000000 in
theorem tableSays_walk (A : Option Addr) (n c : Nat) (ls : List L) (x : L) (y : Int) (k : List UInt8) (now : Int) (w : World) (h : RdLs w.heap.size w A n c ls) (hfk : ∀ a ∈ ls, Fk a) (_ : Fk x) (hkl : k.length ≤ 9223372036854775807) :
    Calls Try.prog 5 #[.slice A n c, lv x, .int .i64 y, .string (ba k), .int .i64 now] w (isTrue w) := by
  obtain ⟨w0, hw0⟩ : ∃ w0, w0 = w.alloc (.cells (lcs x) 26) := ⟨_, rfl⟩
  have hb0 : Below w.heap.size w w0 := by rw [hw0]; exact alloc_more _ _
  have hc0 : Cel w0 w.heap.size 26 (lcs x) := by rw [hw0]; exact Cel.born _ _ _
  have HG := Lib.hid (Bw.greatT_any A n c w.heap.size ls w0 (h.below hb0) hfk)
  have hbs := ba_size x.key
  have hbk := ba_size k
  have B0 := Lib.hid hb0
  obtain ⟨c0, c1, c2, c3⟩ := cel4L hc0
  have HC0 := Lib.hid hc0
  cases hg : greatL ls with
  | true =>
    rw [hg] at HG
    clear hg h hfk hb0 hc0
    go_enter Try.func5, Try.ntmps5
    go_wp2_with fail
    rw [← hw0]
    clear hw0
    refine HG.out.mono ?_
    rintro e w1 ⟨rfl, rfl⟩
    go_wp2_with fail
    refine (Bw.knows_yes _).mono ?_
    rintro e wz ⟨rfl, hbz⟩
    go_wp2
    go_ret
    exact ⟨rfl, B0.out.trans (hbz.mono B0.out.size)⟩
  | false =>
    rw [hg] at HG
    by_cases hbig : 1000 < k.length
    · have hvz : ((ba k).size : Int) > 1000 := by rw [hbk]; omega
      clear hg h hfk hbig hb0 hc0
      go_enter Try.func5, Try.ntmps5
      go_wp2_with fail
      rw [← hw0]
      clear hw0
      refine HG.out.mono ?_
      rintro e w1 ⟨rfl, rfl⟩
      go_wp2_with fail
      refine (Bw.knows_yes _).mono ?_
      rintro e wz ⟨rfl, hbz⟩
      go_wp2
      go_ret
      exact ⟨rfl, B0.out.trans (hbz.mono B0.out.size)⟩
    have hvz : ¬ ((ba k).size : Int) > 1000 := by rw [hbk]; omega
    by_cases hbig2 : 1000 < x.key.length
    · have hvz2 : ((ba x.key).size : Int) > 1000 := by rw [hbs]; omega
      clear hg h hfk hbig hbig2 hb0 hc0
      go_enter Try.func5, Try.ntmps5
      go_wp2_with fail
      rw [← hw0]
      clear hw0
      refine HG.out.mono ?_
      rintro e w1 ⟨rfl, rfl⟩
      go_wp2_with fail
      refine (Bw.knows_yes _).mono ?_
      rintro e wz ⟨rfl, hbz⟩
      go_wp2
      go_ret
      exact ⟨rfl, B0.out.trans (hbz.mono B0.out.size)⟩
    have hvz2 : ¬ ((ba x.key).size : Int) > 1000 := by rw [hbs]; omega
    have H1 := Lib.hid (fun W => Bw.holds_any x now W)
    have H2 := Lib.hid (fun W => Bw.refHolds_any x now W)
    have H3 := Lib.hid (fun W => Bw.rests_any x now W)
    have H4 := Lib.hid (fun W => Bw.refRests_any x now W)
    have H5 := Lib.hid (fun W (hW : Below w0.heap.size w0 W) => Bw.free_any A n c w.heap.size ls y k now W (h.below (B0.out.trans (hW.mono B0.out.size))) (Nat.le_trans B0.out.size hW.size) hfk)
    have H6 := Lib.hid (fun W (hW : Below w0.heap.size w0 W) => Bw.refFree_any A n c w.heap.size ls y k now W (h.below (B0.out.trans (hW.mono B0.out.size))) (Nat.le_trans B0.out.size hW.size) hfk)
    have H7 := Lib.hid (fun W (hW : Below w0.heap.size w0 W) => Bw.sweep_any A n c w.heap.size ls now W (h.below (B0.out.trans (hW.mono B0.out.size))) (Nat.le_trans B0.out.size hW.size) hfk)
    have H8 := Lib.hid (fun W (hW : Below w0.heap.size w0 W) => Bw.refSweep_any A n c w.heap.size ls now W (h.below (B0.out.trans (hW.mono B0.out.size))) (Nat.le_trans B0.out.size hW.size) hfk)
    have H10 := Lib.hid (fun W => Bw.knows_yes W)
    generalize holdsT x now = b1 at H1 H2
    generalize restsT x now = b2 at H3 H4
    generalize freeT ls y k now = b3 at H5 H6
    generalize sweepT ls now = os at H7 H8
    have K : Hid (∀ W, Below w0.heap.size w0 W → (W.cell? ⟨w.heap.size, 0, none⟩ = some (.int .i64 x.addr) ∧ W.cell? ⟨w.heap.size, 1, none⟩ = some (.int .i64 x.state) ∧ W.cell? ⟨w.heap.size, 2, none⟩ = some (.int .i64 x.till) ∧ W.cell? ⟨w.heap.size, 3, none⟩ = some (.string (ba x.key)))) := fun W hW => cel4L (HC0.out.below hW HC0.out.lt)
    clear hg h hfk hbig hbig2 hb0 hc0 hkl
    go_enter Try.func5, Try.ntmps5
    go_wp2_with fail
    rw [← hw0]
    clear hw0
    refine HG.out.mono ?_
    rintro e w1 ⟨rfl, rfl⟩
    clear c0 c1 c2 c3
    obtain ⟨c0, c1, c2, c3⟩ := K.out _ (Below.refl _ _)
    go_wp2_with fail
    go_region_held3 (fun W => (W.cell? ⟨w.heap.size, 0, none⟩ = some (.int .i64 x.addr) ∧ W.cell? ⟨w.heap.size, 1, none⟩ = some (.int .i64 x.state) ∧ W.cell? ⟨w.heap.size, 2, none⟩ = some (.int .i64 x.till) ∧ W.cell? ⟨w.heap.size, 3, none⟩ = some (.string (ba x.key))))
      (first
        | exact K.out _ (Below.refl _ _)
        | exact K.out _ (Below.refl _ _).drew
        | exact K.out _ hbx10 | exact K.out _ hbx9 | exact K.out _ hbx8 | exact K.out _ hbx7 | exact K.out _ hbx6 | exact K.out _ hbx5 | exact K.out _ hbx4 | exact K.out _ hbx3 | exact K.out _ hbx2 | exact K.out _ hbx1)
      (first
        | (go_simp; go_at_call 20; (with_reducible refine (H1.out _).mono ?_); rintro ee wu1 ⟨rfl, hbu1⟩; have hbx1 : Below w0.heap.size w0 wu1 := below_undrew hbu1)
        | (go_simp; go_at_call 21; (with_reducible refine (H2.out _).mono ?_); rintro ee wu2 ⟨rfl, hbu2⟩; have hbx2 : Below w0.heap.size w0 wu2 := hbx1.trans (hbu2.mono hbx1.size))
        | (go_simp; go_at_call 22; (with_reducible refine (H3.out _).mono ?_); rintro ee wu3 ⟨rfl, hbu3⟩; have hbx3 : Below w0.heap.size w0 wu3 := hbx2.trans (hbu3.mono hbx2.size))
        | (go_simp; go_at_call 23; (with_reducible refine (H4.out _).mono ?_); rintro ee wu4 ⟨rfl, hbu4⟩; have hbx4 : Below w0.heap.size w0 wu4 := hbx3.trans (hbu4.mono hbx3.size))
        | (go_simp; go_at_call 24; (with_reducible refine (H5.out _ hbx4).mono ?_); rintro ee wu5 ⟨rfl, hbu5⟩; have hbx5 : Below w0.heap.size w0 wu5 := hbx4.trans (hbu5.mono hbx4.size))
        | (go_simp; go_at_call 25; (with_reducible refine (H6.out _ hbx5).mono ?_); rintro ee wu6 ⟨rfl, hbu6⟩; have hbx6 : Below w0.heap.size w0 wu6 := hbx5.trans (hbu6.mono hbx5.size))
        | (go_simp; go_at_call 26; (with_reducible refine (H7.out _ hbx6).mono ?_); rintro ee wu7 ⟨A7, n7, c7, rfl, ho7, hbu7⟩; have hbx7 : Below w0.heap.size w0 wu7 := hbx6.trans (hbu7.mono hbx6.size); have HO7 := Lib.hid ho7; clear ho7)
        | (go_simp; go_at_call 27; (with_reducible refine (H8.out _ hbx7).mono ?_); rintro ee wu8 ⟨A8, n8, c8, rfl, ho8, hbu8⟩; have hbx8 : Below w0.heap.size w0 wu8 := hbx7.trans (hbu8.mono hbx7.size); have H9 := Lib.hid (sameLeases_yes A7 n7 c7 A8 n8 c8 os wu8 (HO7.out.below hbu8).rd ho8.rd); clear ho8)
        | (go_simp; go_at_call 15; (with_reducible refine (H9.out).mono ?_); rintro ee wu9 ⟨rfl, hbu9⟩; have hbx9 : Below w0.heap.size w0 wu9 := hbx8.trans (hbu9.mono hbx8.size))
        | (go_simp; go_at_call 10; (with_reducible refine (H10.out _).mono ?_); rintro ee wu10 ⟨rfl, hbu10⟩; have hbx10 : Below w0.heap.size w0 wu10 := hbx9.trans (hbu10.mono hbx9.size)))
    all_goals (
      go_wp2
      go_ret
      exact ⟨rfl, B0.out.trans (hbx10.mono B0.out.size)⟩)
end Go.Proofs.Ytniocdbapkkdhaa
