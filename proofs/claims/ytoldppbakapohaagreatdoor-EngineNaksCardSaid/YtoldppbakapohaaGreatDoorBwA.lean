/- What table's Right and the document's Right come to, and the table that a call is about. For all leases whose keys fit. -/
import Derived.Test.YtoldppbakapohaaGreatDoorMathA
import Derived.Test.YtoldppbakapohaaGreatDoorEwA
import Derived.BigQuiet
import Derived.Deep.QuietTactic
import Derived.Deep.RegionHeld3
section
set_option maxRecDepth 8000
namespace Go.Proofs.YtoldppbakapohaaGreatDoor.Bw
open Go.RowKit Co By Ky Rc Ew Jw La Tb Lw
open Dw (ba ba_size ba_data ba_list alloc_more)

theorem cel4L {w : World} {g : Nat} {l : L} (h : Cel w g 35 (lcs l)) : w.cell? ⟨g, 0, none⟩ = some (.int .i64 l.addr) ∧ w.cell? ⟨g, 1, none⟩ = some (.int .i64 l.state) ∧ w.cell? ⟨g, 2, none⟩ = some (.int .i64 l.till) ∧ w.cell? ⟨g, 3, none⟩ = some (.string (ba l.key)) :=
  ⟨by rw [h.cell]; rfl, by rw [h.cell]; rfl, by rw [h.cell]; rfl, by rw [h.cell]; rfl⟩
set_option maxHeartbeats 4000000 in
theorem right_any (A : Option Addr) (n c U : Nat) (l : List L) (w : World) (h : RdLs U w A n c l) (hU : U ≤ w.heap.size) (hk : ∀ a ∈ l, Fk a) :
    Calls Tryz.prog 76 #[.slice A n c] w (isB (rightT l) w) := by
  have hm := h.max
  have hc := h.cap
  have HL := Lib.hid h.len
  have HUU := Lib.hid hU
  by_cases hbig : 64 < n
  · have HT : Hid (rightT l = false) := right_long (by rw [HL.out]; exact hbig)
    clear h hk hU
    go_enter Tryz.func76, Tryz.ntmps76
    go_wp2
    go_ret
    exact ⟨ret_bool HT.out.symm, Below.refl _ _⟩
  have hsm : n ≤ 64 := by omega
  have HX := Lib.hid h
  have HF := Lib.hid hk
  clear h hk hbig hU
  go_enter Tryz.func76, Tryz.ntmps76
  go_wp2
  go_loopw [10] (fun v wr => ∃ k : Nat, v = .int .i64 k ∧ k ≤ n ∧ Hid (OkP l k) ∧ Hid (Below w.heap.size w wr)) (fun v _ => n - (intOf v).toNat)
  case atStart => exact ⟨0, rfl, by omega, okP_zero l, Below.refl _ _⟩
  case round =>
    obtain ⟨k, rfl, hk2, HE, HB⟩ := hrel
    by_cases hlt : k < n
    · obtain ⟨b, o, a, rfl, hbU, HA, c0, c1, c2, c3⟩ := atL (HX.out.below (HB.out.mono HUU.out)) hlt
      have hkz : (k : Int) < (n : Int) := by omega
      obtain ⟨w1, hw1⟩ : ∃ w1, w1 = wr.alloc (.cells (lcs a) 35) := ⟨_, rfl⟩
      have hb1 : Below wr.heap.size wr w1 := by rw [hw1]; exact alloc_more _ _
      have hsz := HB.out.size
      have HB1 := Lib.hid (HB.out.trans (hb1.mono hsz))
      have HC1 := Lib.hid (show Cel w1 wr.heap.size 35 (lcs a) by rw [hw1]; exact Cel.born _ _ _)
      have HR := Lib.hid (fun W => Ew.right_any a W (HF.out a (List.mem_of_getElem? HA.out)))
      have K : Hid (∀ W, Below w1.heap.size w1 W → W.cell? ⟨wr.heap.size, 0, none⟩ = some (.int .i64 a.addr) ∧ W.cell? ⟨wr.heap.size, 1, none⟩ = some (.int .i64 a.state) ∧ W.cell? ⟨wr.heap.size, 2, none⟩ = some (.int .i64 a.till) ∧ W.cell? ⟨wr.heap.size, 3, none⟩ = some (.string (ba a.key))) := fun W hW => cel4L (HC1.out.below hW HC1.out.lt)
      cases hr : rightR a with
      | false =>
        rw [hr] at HR
        have HT : Hid (rightT l = false) := right_bad HA.out (of_decide_eq_false hr)
        clear hr HA HE hb1
        go_wp2_with fail
        rw [← hw1]
        clear hw1
        obtain ⟨d0, d1, d2, d3⟩ := K.out _ (Below.refl _ _).drew
        refine wp_region_any (by kernel_rfl) ?_
        change wpAny _ _ _ _ _ _ _ (World.drew _)
        refine wpAny_ready (rs := [0]) (by kernel_rfl) (by simp) ?_
        refine AllReady.cons rfl (fun K2 hK2 => ?_) AllReady.nil
        go_simp
        refine hK2 _ _ ?_
        clear hK2 K2
        refine wpAny_ready (rs := [1]) (by kernel_rfl) (by simp) ?_
        refine AllReady.cons rfl (fun K2 hK2 => ?_) AllReady.nil
        go_simp
        go_at_call 62
        refine (HR.out _).mono ?_
        rintro ee wu ⟨rfl, hbu⟩
        have hbu9 : Below w1.heap.size w1 wu := below_undrew hbu
        refine hK2 _ _ ?_
        clear hK2 K2
        refine wpAny_take (i := 2) (v := .bool true) rfl (by kernel_rfl) (by kernel_rfl) (by kernel_rfl) (fun _ _ _ h => h) (.inl ⟨by rfl, fun w => by go_simp⟩) ?_
        simp only [Act.put, gTo, gZe, gSu, sTo, sZe, sSu]
        refine wpAny_take (i := 3) (v := .bool true) rfl (by kernel_rfl) (by kernel_rfl) (by kernel_rfl) (fun _ _ _ h => h) (.inl ⟨by rfl, fun w => by go_simp⟩) ?_
        simp only [Act.put, gTo, gZe, gSu, sTo, sZe, sSu]
        refine wpAny_take (i := 4) (v := undef) rfl (by kernel_rfl) (by kernel_rfl) (by kernel_rfl) (fun _ _ _ h => h) (.inr ⟨by rfl, rfl⟩) ?_
        simp only [Act.put, gTo, gZe, gSu, sTo, sZe, sSu]
        refine wpAny_take (i := 5) (v := undef) rfl (by kernel_rfl) (by kernel_rfl) (by kernel_rfl) (fun _ _ _ h => h) (.inr ⟨by rfl, rfl⟩) ?_
        simp only [Act.put, gTo, gZe, gSu, sTo, sZe, sSu]
        refine wpAny_take (i := 6) (v := undef) rfl (by kernel_rfl) (by kernel_rfl) (by kernel_rfl) (fun _ _ _ h => h) (.inr ⟨by rfl, rfl⟩) ?_
        simp only [Act.put, gTo, gZe, gSu, sTo, sZe, sSu]
        refine wpAny_take (i := 7) (v := undef) rfl (by kernel_rfl) (by kernel_rfl) (by kernel_rfl) (fun _ _ _ h => h) (.inr ⟨by rfl, rfl⟩) ?_
        simp only [Act.put, gTo, gZe, gSu, sTo, sZe, sSu]
        refine wpAny_take (i := 8) (v := undef) rfl (by kernel_rfl) (by kernel_rfl) (by kernel_rfl) (fun _ _ _ h => h) (.inr ⟨by rfl, rfl⟩) ?_
        simp only [Act.put, gTo, gZe, gSu, sTo, sZe, sSu]
        refine wpAny_take (i := 9) (v := undef) rfl (by kernel_rfl) (by kernel_rfl) (by kernel_rfl) (fun _ _ _ h => h) (.inr ⟨by rfl, rfl⟩) ?_
        simp only [Act.put, gTo, gZe, gSu, sTo, sZe, sSu]
        refine wpAny_take (i := 10) (v := undef) rfl (by kernel_rfl) (by kernel_rfl) (by kernel_rfl) (fun _ _ _ h => h) (.inr ⟨by rfl, rfl⟩) ?_
        simp only [Act.put, gTo, gZe, gSu, sTo, sZe, sSu]
        refine wpAny_take (i := 11) (v := undef) rfl (by kernel_rfl) (by kernel_rfl) (by kernel_rfl) (fun _ _ _ h => h) (.inr ⟨by rfl, rfl⟩) ?_
        simp only [Act.put, gTo, gZe, gSu, sTo, sZe, sSu]
        refine wpAny_take (i := 12) (v := undef) rfl (by kernel_rfl) (by kernel_rfl) (by kernel_rfl) (fun _ _ _ h => h) (.inr ⟨by rfl, rfl⟩) ?_
        simp only [Act.put, gTo, gZe, gSu, sTo, sZe, sSu]
        refine wpAny_take (i := 13) (v := undef) rfl (by kernel_rfl) (by kernel_rfl) (by kernel_rfl) (fun _ _ _ h => h) (.inr ⟨by rfl, rfl⟩) ?_
        simp only [Act.put, gTo, gZe, gSu, sTo, sZe, sSu]
        refine wpAny_take (i := 14) (v := undef) rfl (by kernel_rfl) (by kernel_rfl) (by kernel_rfl) (fun _ _ _ h => h) (.inr ⟨by rfl, rfl⟩) ?_
        simp only [Act.put, gTo, gZe, gSu, sTo, sZe, sSu]
        refine wpAny_take (i := 15) (v := undef) rfl (by kernel_rfl) (by kernel_rfl) (by kernel_rfl) (fun _ _ _ h => h) (.inr ⟨by rfl, rfl⟩) ?_
        simp only [Act.put, gTo, gZe, gSu, sTo, sZe, sSu]
        refine wpAny_take (i := 16) (v := undef) rfl (by kernel_rfl) (by kernel_rfl) (by kernel_rfl) (fun _ _ _ h => h) (.inr ⟨by rfl, rfl⟩) ?_
        simp only [Act.put, gTo, gZe, gSu, sTo, sZe, sSu]
        refine wpAny_take (i := 17) (v := .bool true) rfl (by kernel_rfl) (by kernel_rfl) (by kernel_rfl) (fun _ _ _ h => h) (.inl ⟨by rfl, fun w => by go_simp⟩) ?_
        simp only [Act.put, gTo, gZe, gSu, sTo, sZe, sSu]
        refine wpAny_done (by kernel_rfl) ?_ _
        all_goals (
          go_wp2
          go_ret
          exact ⟨ret_bool HT.out.symm, HB1.out.trans (hbu9.mono HB1.out.size)⟩)
      | true =>
        rw [hr] at HR
        have HRR := Lib.hid (of_decide_eq_true hr)
        clear hr
        rcases Nat.eq_zero_or_pos k with hk0 | hkp
        · have HT : Hid (OkP l (k + 1)) := okP_step HE.out HA.out HRR.out (fun j b hj => by omega)
          have hgz : decide (0 < k) = false := decide_eq_false (by omega)
          have hgy : ¬ (k : Int) > 0 := by omega
          clear HA HE hb1 hk0
          go_wp2_with fail
          rw [← hw1]
          clear hw1
          obtain ⟨d0, d1, d2, d3⟩ := K.out _ (Below.refl _ _).drew
          refine wp_region_any (by kernel_rfl) ?_
          change wpAny _ _ _ _ _ _ _ (World.drew _)
          refine wpAny_ready (rs := [0]) (by kernel_rfl) (by simp) ?_
          refine AllReady.cons rfl (fun K2 hK2 => ?_) AllReady.nil
          go_simp
          refine hK2 _ _ ?_
          clear hK2 K2
          refine wpAny_ready (rs := [1]) (by kernel_rfl) (by simp) ?_
          refine AllReady.cons rfl (fun K2 hK2 => ?_) AllReady.nil
          go_simp
          go_at_call 62
          refine (HR.out _).mono ?_
          rintro ee wu ⟨rfl, hbu⟩
          have hbu9 : Below w1.heap.size w1 wu := below_undrew hbu
          refine hK2 _ _ ?_
          clear hK2 K2
          refine wpAny_take (i := 2) (v := .bool false) rfl (by kernel_rfl) (by kernel_rfl) (by kernel_rfl) (fun _ _ _ h => h) (.inl ⟨by rfl, fun w => by go_simp⟩) ?_
          simp only [Act.put, gTo, gZe, gSu, sTo, sZe, sSu]
          refine wpAny_take (i := 3) (v := .bool false) rfl (by kernel_rfl) (by kernel_rfl) (by kernel_rfl) (fun _ _ _ h => h) (.inl ⟨by rfl, fun w => by go_simp⟩) ?_
          simp only [Act.put, gTo, gZe, gSu, sTo, sZe, sSu]
          refine wpAny_take (i := 4) (v := .int .i64 k) rfl (by kernel_rfl) (by kernel_rfl) (by kernel_rfl) (fun _ _ _ h => h) (.inl ⟨by rfl, fun w => by go_simp⟩) ?_
          simp only [Act.put, gTo, gZe, gSu, sTo, sZe, sSu]
          refine wpAny_take (i := 5) (v := .bool false) rfl (by kernel_rfl) (by kernel_rfl) (by kernel_rfl) (fun _ _ _ h => h) (.inl ⟨by rfl, fun w => by go_simp⟩) ?_
          simp only [Act.put, gTo, gZe, gSu, sTo, sZe, sSu]
          refine wpAny_take (i := 6) (v := .bool false) rfl (by kernel_rfl) (by kernel_rfl) (by kernel_rfl) (fun _ _ _ h => h) (.inl ⟨by rfl, fun w => by go_simp⟩) ?_
          simp only [Act.put, gTo, gZe, gSu, sTo, sZe, sSu]
          refine wpAny_take (i := 7) (v := undef) rfl (by kernel_rfl) (by kernel_rfl) (by kernel_rfl) (fun _ _ _ h => h) (.inr ⟨by rfl, rfl⟩) ?_
          simp only [Act.put, gTo, gZe, gSu, sTo, sZe, sSu]
          refine wpAny_take (i := 8) (v := undef) rfl (by kernel_rfl) (by kernel_rfl) (by kernel_rfl) (fun _ _ _ h => h) (.inr ⟨by rfl, rfl⟩) ?_
          simp only [Act.put, gTo, gZe, gSu, sTo, sZe, sSu]
          refine wpAny_take (i := 9) (v := undef) rfl (by kernel_rfl) (by kernel_rfl) (by kernel_rfl) (fun _ _ _ h => h) (.inr ⟨by rfl, rfl⟩) ?_
          simp only [Act.put, gTo, gZe, gSu, sTo, sZe, sSu]
          refine wpAny_take (i := 10) (v := undef) rfl (by kernel_rfl) (by kernel_rfl) (by kernel_rfl) (fun _ _ _ h => h) (.inr ⟨by rfl, rfl⟩) ?_
          simp only [Act.put, gTo, gZe, gSu, sTo, sZe, sSu]
          refine wpAny_take (i := 11) (v := undef) rfl (by kernel_rfl) (by kernel_rfl) (by kernel_rfl) (fun _ _ _ h => h) (.inr ⟨by rfl, rfl⟩) ?_
          simp only [Act.put, gTo, gZe, gSu, sTo, sZe, sSu]
          refine wpAny_take (i := 12) (v := undef) rfl (by kernel_rfl) (by kernel_rfl) (by kernel_rfl) (fun _ _ _ h => h) (.inr ⟨by rfl, rfl⟩) ?_
          simp only [Act.put, gTo, gZe, gSu, sTo, sZe, sSu]
          refine wpAny_take (i := 13) (v := undef) rfl (by kernel_rfl) (by kernel_rfl) (by kernel_rfl) (fun _ _ _ h => h) (.inr ⟨by rfl, rfl⟩) ?_
          simp only [Act.put, gTo, gZe, gSu, sTo, sZe, sSu]
          refine wpAny_take (i := 14) (v := undef) rfl (by kernel_rfl) (by kernel_rfl) (by kernel_rfl) (fun _ _ _ h => h) (.inr ⟨by rfl, rfl⟩) ?_
          simp only [Act.put, gTo, gZe, gSu, sTo, sZe, sSu]
          refine wpAny_take (i := 15) (v := undef) rfl (by kernel_rfl) (by kernel_rfl) (by kernel_rfl) (fun _ _ _ h => h) (.inr ⟨by rfl, rfl⟩) ?_
          simp only [Act.put, gTo, gZe, gSu, sTo, sZe, sSu]
          refine wpAny_take (i := 16) (v := .bool false) rfl (by kernel_rfl) (by kernel_rfl) (by kernel_rfl) (fun _ _ _ h => h) (.inl ⟨by rfl, fun w => by go_simp⟩) ?_
          simp only [Act.put, gTo, gZe, gSu, sTo, sZe, sSu]
          refine wpAny_take (i := 17) (v := .bool false) rfl (by kernel_rfl) (by kernel_rfl) (by kernel_rfl) (fun _ _ _ h => h) (.inl ⟨by rfl, fun w => by go_simp⟩) ?_
          simp only [Act.put, gTo, gZe, gSu, sTo, sZe, sSu]
          refine wpAny_done (by kernel_rfl) ?_ _
          go_wp2
          go_roundw
          case rel => exact ⟨k + 1, by go_num, by omega, HT.out, HB1.out.trans (hbu9.mono HB1.out.size)⟩
          case measure => simp [intOf]; omega
        · obtain ⟨j, rfl⟩ : ∃ j, k = j + 1 := ⟨k - 1, by omega⟩
          obtain ⟨b', o', p, e', hbU', HP, p0, _, _, _⟩ := atL (HX.out.below (HB.out.mono HUU.out)) (k := j) (by omega)
          cases e'
          have hpc : w1.cell? ⟨b, o + j * 4, none⟩ = some (.int .i64 p.addr) := (hb1.cell (p := ⟨b, o + j * 4, none⟩) (by have := HUU.out; show b < _; omega)).trans p0
          have HPC : Hid (∀ W, Below w1.heap.size w1 W → W.cell? ⟨b, o + j * 4, none⟩ = some (.int .i64 p.addr)) := fun W hW => (hW.cell (p := ⟨b, o + j * 4, none⟩) (by have := HUU.out; have := hb1.size; show b < _; omega)).trans hpc
          have KK : Hid (∀ W, Below w1.heap.size w1 W → W.cell? ⟨wr.heap.size, 0, none⟩ = some (.int .i64 a.addr) ∧ W.cell? ⟨wr.heap.size, 1, none⟩ = some (.int .i64 a.state) ∧ W.cell? ⟨wr.heap.size, 2, none⟩ = some (.int .i64 a.till) ∧ W.cell? ⟨wr.heap.size, 3, none⟩ = some (.string (ba a.key)) ∧ W.cell? ⟨b, o + j * 4, none⟩ = some (.int .i64 p.addr)) := fun W hW => by
            obtain ⟨q0, q1, q2, q3⟩ := K.out W hW
            exact ⟨q0, q1, q2, q3, HPC.out W hW⟩
          have hgz : decide (0 < j + 1) = true := decide_eq_true (by omega)
          have hgy : ((j + 1 : Nat) : Int) > 0 := by omega
          have hjn : (j : Int) < (n : Int) := by omega
          have hjm : (j : Int) ≤ 9223372036854775807 := by omega
          have hj0 : (0 : Int) ≤ (j : Int) := by omega
          have hwj : IntKind.i64.wrap (((j + 1 : Nat) : Int) - 1) = (j : Int) := by rw [IntKind.wrap_i64]; omega
          have hwi : IntKind.i64.wrap ((j : Int) + 1 - 1) = (j : Int) := by rw [IntKind.wrap_i64]; omega
          have hwh : IntKind.i64.wrap (j : Int) = (j : Int) := by rw [IntKind.wrap_i64]; omega
          by_cases hv : p.addr < a.addr
          · have HT : Hid (OkP l (j + 1 + 1)) := okP_step HE.out HA.out HRR.out (fun i b hi hb => by
              obtain rfl : i = j := by omega
              obtain rfl : b = p := by have := hb.symm.trans HP.out; injection this
              exact hv)
            have hvz : ¬ (p.addr ≥ a.addr) := by omega
            clear hv HA HE hb1 HP p0 hpc
            go_wp2_with fail
            rw [← hw1]
            clear hw1
            go_region_held3 (fun W => W.cell? ⟨wr.heap.size, 0, none⟩ = some (.int .i64 a.addr) ∧ W.cell? ⟨wr.heap.size, 1, none⟩ = some (.int .i64 a.state) ∧ W.cell? ⟨wr.heap.size, 2, none⟩ = some (.int .i64 a.till) ∧ W.cell? ⟨wr.heap.size, 3, none⟩ = some (.string (ba a.key)) ∧ W.cell? ⟨b, o + j * 4, none⟩ = some (.int .i64 p.addr))
              (first
                | exact KK.out _ (Below.refl _ _)
                | exact KK.out _ (Below.refl _ _).drew
                | exact KK.out _ hbu9)
              ((go_simp; go_at_call 62; (with_reducible refine (HR.out _).mono ?_); rintro ee wu ⟨rfl, hbu⟩; have hbu9 : Below w1.heap.size w1 wu := below_undrew hbu))
            all_goals (
              go_wp2
              go_roundw
              case rel => exact ⟨j + 1 + 1, by go_num, by omega, HT.out, HB1.out.trans (hbu9.mono HB1.out.size)⟩
              case measure => simp [intOf]; omega)
          · have HT : Hid (rightT l = false) := right_turn HP.out HA.out hv
            have hvz : p.addr ≥ a.addr := by omega
            clear hv HA HE hb1 HP p0 hpc
            go_wp2_with fail
            rw [← hw1]
            clear hw1
            go_region_held3 (fun W => W.cell? ⟨wr.heap.size, 0, none⟩ = some (.int .i64 a.addr) ∧ W.cell? ⟨wr.heap.size, 1, none⟩ = some (.int .i64 a.state) ∧ W.cell? ⟨wr.heap.size, 2, none⟩ = some (.int .i64 a.till) ∧ W.cell? ⟨wr.heap.size, 3, none⟩ = some (.string (ba a.key)) ∧ W.cell? ⟨b, o + j * 4, none⟩ = some (.int .i64 p.addr))
              (first
                | exact KK.out _ (Below.refl _ _)
                | exact KK.out _ (Below.refl _ _).drew
                | exact KK.out _ hbu9)
              ((go_simp; go_at_call 62; (with_reducible refine (HR.out _).mono ?_); rintro ee wu ⟨rfl, hbu⟩; have hbu9 : Below w1.heap.size w1 wu := below_undrew hbu))
            all_goals (
              go_wp2
              go_ret
              exact ⟨ret_bool HT.out.symm, HB1.out.trans (hbu9.mono HB1.out.size)⟩)
    · obtain rfl : k = n := by omega
      have HT : Hid (rightT l = true) := okP_end (by rw [HL.out]; exact HE.out) (by rw [HL.out]; exact hsm)
      have hkz : ¬ (k : Int) < (k : Int) := by omega
      clear hlt HE
      go_wp2
      go_ret
      exact ⟨ret_bool HT.out.symm, HB.out⟩
end Go.Proofs.YtoldppbakapohaaGreatDoor.Bw
end
/- What the document's Right of layer 12 comes to, and the tables that a call is about. For all leases whose keys fit. -/
section
set_option maxRecDepth 8000
namespace Go.Proofs.YtoldppbakapohaaGreatDoor.Bw
open Go.RowKit Co By Ky Rc Ew Jw La Tb Lw
open Dw (ba ba_size ba_data ba_list alloc_more)

set_option maxHeartbeats 4000000 in
theorem refRight_any (A : Option Addr) (n c U : Nat) (l : List L) (w : World) (h : RdLs U w A n c l) (hU : U ≤ w.heap.size) (hk : ∀ a ∈ l, Fk a) :
    Calls Tryz.prog 24 #[.slice A n c] w (isB (rightT l) w) := by
  have hm := h.max
  have hc := h.cap
  have HL := Lib.hid h.len
  have HUU := Lib.hid hU
  by_cases hbig : 64 < n
  · have HT : Hid (rightT l = false) := right_long (by rw [HL.out]; exact hbig)
    clear h hk hU
    go_enter Tryz.func24, Tryz.ntmps24
    go_wp2
    go_ret
    exact ⟨ret_bool HT.out.symm, Below.refl _ _⟩
  have hsm : n ≤ 64 := by omega
  have HX := Lib.hid h
  have HF := Lib.hid hk
  clear h hk hbig hU
  go_enter Tryz.func24, Tryz.ntmps24
  go_wp2
  go_loopw [3] (fun v wr => ∃ k : Nat, v = .int .i64 k ∧ k ≤ n ∧ Hid (OkN l k) ∧ Hid (Below w.heap.size w wr)) (fun v _ => n - (intOf v).toNat)
  case atStart => exact ⟨0, rfl, by omega, okN_zero l, Below.refl _ _⟩
  case round =>
    obtain ⟨k, rfl, hk2, HE, HB⟩ := hrel
    by_cases hlt : k < n
    · obtain ⟨b, o, a, rfl, hbU, HA, c0, c1, c2, c3⟩ := atL (HX.out.below (HB.out.mono HUU.out)) hlt
      have hkz : (k : Int) < (n : Int) := by omega
      have hk0 : (0 : Int) ≤ (k : Int) := by omega
      have hbw : b < wr.heap.size := by have := HB.out.size; have := HUU.out; omega
      have K : Hid (∀ W, Below wr.heap.size wr W → W.cell? ⟨b, o + k * 4, none⟩ = some (.int .i64 a.addr) ∧ W.cell? ⟨b, o + k * 4 + 1, none⟩ = some (.int .i64 a.state) ∧ W.cell? ⟨b, o + k * 4 + 2, none⟩ = some (.int .i64 a.till) ∧ W.cell? ⟨b, o + k * 4 + 3, none⟩ = some (.string (ba a.key))) := fun W hW =>
        ⟨(hW.cell (p := ⟨b, o + k * 4, none⟩) hbw).trans c0, (hW.cell (p := ⟨b, o + k * 4 + 1, none⟩) hbw).trans c1, (hW.cell (p := ⟨b, o + k * 4 + 2, none⟩) hbw).trans c2, (hW.cell (p := ⟨b, o + k * 4 + 3, none⟩) hbw).trans c3⟩
      have HR := Lib.hid (fun W => Ew.refRight_any a W (HF.out a (List.mem_of_getElem? HA.out)))
      have hsz := HB.out.size
      have hwk : IntKind.i64.wrap ((k : Int) + 1) = (k : Int) + 1 := by rw [IntKind.wrap_i64]; omega
      cases hr : rightR a with
      | false =>
        rw [hr] at HR
        have HT : Hid (rightT l = false) := right_bad HA.out (of_decide_eq_false hr)
        clear hr HA HE
        go_wp2_with fail
        obtain ⟨d0, d1, d2, d3⟩ := K.out _ (Below.refl _ _).drew
        refine wp_region_any (by kernel_rfl) ?_
        change wpAny _ _ _ _ _ _ _ (World.drew _)
        refine wpAny_take (i := 0) (v := .slice (some ⟨b, o, none⟩) n c) rfl (by kernel_rfl) (by kernel_rfl) (by kernel_rfl) (fun _ _ _ h => h) (.inl ⟨by rfl, fun w => by go_simp⟩) ?_
        simp only [Act.put, gTo, gZe, sTo, sZe, sSu]
        refine wpAny_take (i := 1) (v := .int .i64 k) rfl (by kernel_rfl) (by kernel_rfl) (by kernel_rfl) (fun _ _ _ h => h) (.inl ⟨by rfl, fun w => by go_simp⟩) ?_
        simp only [Act.put, gTo, gZe, gSu, sTo, sZe, sSu]
        refine wpAny_take (i := 2) (v := .pointer (some ⟨b, o + k * 4, none⟩)) rfl (by kernel_rfl) (by kernel_rfl) (by kernel_rfl) (fun _ _ _ h => h) (.inl ⟨by rfl, fun w => by go_simp⟩) ?_
        simp only [Act.put, gTo, gZe, gSu, sTo, sZe, sSu]
        refine wpAny_ready (rs := [3]) (by kernel_rfl) (by simp) ?_
        refine AllReady.cons rfl (fun K2 hK2 => ?_) AllReady.nil
        go_simp
        refine hK2 _ _ ?_
        clear hK2 K2
        refine wpAny_ready (rs := [4]) (by kernel_rfl) (by simp) ?_
        refine AllReady.cons rfl (fun K2 hK2 => ?_) AllReady.nil
        go_simp
        go_at_call 30
        refine (HR.out _).mono ?_
        rintro ee wu ⟨rfl, hbu⟩
        have hbu9 : Below wr.heap.size wr wu := below_undrew hbu
        refine hK2 _ _ ?_
        clear hK2 K2
        refine wpAny_take (i := 5) (v := .bool true) rfl (by kernel_rfl) (by kernel_rfl) (by kernel_rfl) (fun _ _ _ h => h) (.inl ⟨by rfl, fun w => by go_simp⟩) ?_
        simp only [Act.put, gTo, gZe, gSu, sTo, sZe, sSu]
        refine wpAny_take (i := 6) (v := .bool true) rfl (by kernel_rfl) (by kernel_rfl) (by kernel_rfl) (fun _ _ _ h => h) (.inl ⟨by rfl, fun w => by go_simp⟩) ?_
        simp only [Act.put, gTo, gZe, gSu, sTo, sZe, sSu]
        refine wpAny_take (i := 7) (v := undef) rfl (by kernel_rfl) (by kernel_rfl) (by kernel_rfl) (fun _ _ _ h => h) (.inr ⟨by rfl, rfl⟩) ?_
        simp only [Act.put, gTo, gZe, gSu, sTo, sZe, sSu]
        refine wpAny_take (i := 8) (v := undef) rfl (by kernel_rfl) (by kernel_rfl) (by kernel_rfl) (fun _ _ _ h => h) (.inr ⟨by rfl, rfl⟩) ?_
        simp only [Act.put, gTo, gZe, gSu, sTo, sZe, sSu]
        refine wpAny_take (i := 9) (v := undef) rfl (by kernel_rfl) (by kernel_rfl) (by kernel_rfl) (fun _ _ _ h => h) (.inr ⟨by rfl, rfl⟩) ?_
        simp only [Act.put, gTo, gZe, gSu, sTo, sZe, sSu]
        refine wpAny_take (i := 10) (v := undef) rfl (by kernel_rfl) (by kernel_rfl) (by kernel_rfl) (fun _ _ _ h => h) (.inr ⟨by rfl, rfl⟩) ?_
        simp only [Act.put, gTo, gZe, gSu, sTo, sZe, sSu]
        refine wpAny_take (i := 11) (v := undef) rfl (by kernel_rfl) (by kernel_rfl) (by kernel_rfl) (fun _ _ _ h => h) (.inr ⟨by rfl, rfl⟩) ?_
        simp only [Act.put, gTo, gZe, gSu, sTo, sZe, sSu]
        refine wpAny_take (i := 12) (v := undef) rfl (by kernel_rfl) (by kernel_rfl) (by kernel_rfl) (fun _ _ _ h => h) (.inr ⟨by rfl, rfl⟩) ?_
        simp only [Act.put, gTo, gZe, gSu, sTo, sZe, sSu]
        refine wpAny_take (i := 13) (v := undef) rfl (by kernel_rfl) (by kernel_rfl) (by kernel_rfl) (fun _ _ _ h => h) (.inr ⟨by rfl, rfl⟩) ?_
        simp only [Act.put, gTo, gZe, gSu, sTo, sZe, sSu]
        refine wpAny_take (i := 14) (v := undef) rfl (by kernel_rfl) (by kernel_rfl) (by kernel_rfl) (fun _ _ _ h => h) (.inr ⟨by rfl, rfl⟩) ?_
        simp only [Act.put, gTo, gZe, gSu, sTo, sZe, sSu]
        refine wpAny_take (i := 15) (v := undef) rfl (by kernel_rfl) (by kernel_rfl) (by kernel_rfl) (fun _ _ _ h => h) (.inr ⟨by rfl, rfl⟩) ?_
        simp only [Act.put, gTo, gZe, gSu, sTo, sZe, sSu]
        refine wpAny_take (i := 16) (v := undef) rfl (by kernel_rfl) (by kernel_rfl) (by kernel_rfl) (fun _ _ _ h => h) (.inr ⟨by rfl, rfl⟩) ?_
        simp only [Act.put, gTo, gZe, gSu, sTo, sZe, sSu]
        refine wpAny_take (i := 17) (v := undef) rfl (by kernel_rfl) (by kernel_rfl) (by kernel_rfl) (fun _ _ _ h => h) (.inr ⟨by rfl, rfl⟩) ?_
        simp only [Act.put, gTo, gZe, gSu, sTo, sZe, sSu]
        refine wpAny_take (i := 18) (v := undef) rfl (by kernel_rfl) (by kernel_rfl) (by kernel_rfl) (fun _ _ _ h => h) (.inr ⟨by rfl, rfl⟩) ?_
        simp only [Act.put, gTo, gZe, gSu, sTo, sZe, sSu]
        refine wpAny_take (i := 19) (v := undef) rfl (by kernel_rfl) (by kernel_rfl) (by kernel_rfl) (fun _ _ _ h => h) (.inr ⟨by rfl, rfl⟩) ?_
        simp only [Act.put, gTo, gZe, gSu, sTo, sZe, sSu]
        refine wpAny_take (i := 20) (v := undef) rfl (by kernel_rfl) (by kernel_rfl) (by kernel_rfl) (fun _ _ _ h => h) (.inr ⟨by rfl, rfl⟩) ?_
        simp only [Act.put, gTo, gZe, gSu, sTo, sZe, sSu]
        refine wpAny_take (i := 21) (v := undef) rfl (by kernel_rfl) (by kernel_rfl) (by kernel_rfl) (fun _ _ _ h => h) (.inr ⟨by rfl, rfl⟩) ?_
        simp only [Act.put, gTo, gZe, gSu, sTo, sZe, sSu]
        refine wpAny_take (i := 22) (v := undef) rfl (by kernel_rfl) (by kernel_rfl) (by kernel_rfl) (fun _ _ _ h => h) (.inr ⟨by rfl, rfl⟩) ?_
        simp only [Act.put, gTo, gZe, gSu, sTo, sZe, sSu]
        refine wpAny_take (i := 23) (v := undef) rfl (by kernel_rfl) (by kernel_rfl) (by kernel_rfl) (fun _ _ _ h => h) (.inr ⟨by rfl, rfl⟩) ?_
        simp only [Act.put, gTo, gZe, gSu, sTo, sZe, sSu]
        refine wpAny_take (i := 24) (v := undef) rfl (by kernel_rfl) (by kernel_rfl) (by kernel_rfl) (fun _ _ _ h => h) (.inr ⟨by rfl, rfl⟩) ?_
        simp only [Act.put, gTo, gZe, gSu, sTo, sZe, sSu]
        refine wpAny_take (i := 25) (v := undef) rfl (by kernel_rfl) (by kernel_rfl) (by kernel_rfl) (fun _ _ _ h => h) (.inr ⟨by rfl, rfl⟩) ?_
        simp only [Act.put, gTo, gZe, gSu, sTo, sZe, sSu]
        refine wpAny_take (i := 26) (v := .bool true) rfl (by kernel_rfl) (by kernel_rfl) (by kernel_rfl) (fun _ _ _ h => h) (.inl ⟨by rfl, fun w => by go_simp⟩) ?_
        simp only [Act.put, gTo, gZe, gSu, sTo, sZe, sSu]
        refine wpAny_done (by kernel_rfl) ?_ _
        go_wp2
        go_ret
        exact ⟨ret_bool HT.out.symm, HB.out.trans (hbu9.mono hsz)⟩
      | true =>
        rw [hr] at HR
        have HRR := Lib.hid (of_decide_eq_true hr)
        clear hr
        by_cases hlast : k + 1 < n
        · obtain ⟨b', o', q, e', _, HQ, q0, _, _, _⟩ := atL (HX.out.below (HB.out.mono HUU.out)) hlast
          cases e'
          have KK : Hid (∀ W, Below wr.heap.size wr W → W.cell? ⟨b, o + k * 4, none⟩ = some (.int .i64 a.addr) ∧ W.cell? ⟨b, o + k * 4 + 1, none⟩ = some (.int .i64 a.state) ∧ W.cell? ⟨b, o + k * 4 + 2, none⟩ = some (.int .i64 a.till) ∧ W.cell? ⟨b, o + k * 4 + 3, none⟩ = some (.string (ba a.key)) ∧ W.cell? ⟨b, o + (k + 1) * 4, none⟩ = some (.int .i64 q.addr)) := fun W hW => by
            obtain ⟨z0, z1, z2, z3⟩ := K.out W hW
            exact ⟨z0, z1, z2, z3, (hW.cell (p := ⟨b, o + (k + 1) * 4, none⟩) hbw).trans q0⟩
          have hgz : decide ((k : Int) + 1 < (n : Int)) = true := decide_eq_true (by omega)
          have hgy : (k : Int) + 1 < (n : Int) := by omega
          have hgx : (0 : Int) ≤ (k : Int) + 1 := by omega
          by_cases hv : a.addr < q.addr
          · have HT : Hid (OkN l (k + 1)) := okN_step HE.out HA.out HRR.out (fun _ => by rw [getD_of HQ.out]; exact hv)
            have hvz : ¬ (q.addr ≤ a.addr) := by omega
            clear hv HA HE HQ q0
            go_wp2_with fail
            go_region_held3 (fun W => W.cell? ⟨b, o + k * 4, none⟩ = some (.int .i64 a.addr) ∧ W.cell? ⟨b, o + k * 4 + 1, none⟩ = some (.int .i64 a.state) ∧ W.cell? ⟨b, o + k * 4 + 2, none⟩ = some (.int .i64 a.till) ∧ W.cell? ⟨b, o + k * 4 + 3, none⟩ = some (.string (ba a.key)) ∧ W.cell? ⟨b, o + (k + 1) * 4, none⟩ = some (.int .i64 q.addr))
              (first
                | exact KK.out _ (Below.refl _ _)
                | exact KK.out _ (Below.refl _ _).drew
                | exact KK.out _ hbu9)
              ((go_simp; go_at_call 30; (with_reducible refine (HR.out _).mono ?_); rintro ee wu ⟨rfl, hbu⟩; have hbu9 : Below wr.heap.size wr wu := below_undrew hbu))
            all_goals (
              go_wp2
              go_roundw
              case rel => exact ⟨k + 1, by go_num, by omega, HT.out, HB.out.trans (hbu9.mono hsz)⟩
              case measure => simp [intOf]; omega)
          · have HT : Hid (rightT l = false) := right_turn HA.out HQ.out hv
            have hvz : q.addr ≤ a.addr := by omega
            clear hv HA HE HQ q0
            go_wp2_with fail
            go_region_held3 (fun W => W.cell? ⟨b, o + k * 4, none⟩ = some (.int .i64 a.addr) ∧ W.cell? ⟨b, o + k * 4 + 1, none⟩ = some (.int .i64 a.state) ∧ W.cell? ⟨b, o + k * 4 + 2, none⟩ = some (.int .i64 a.till) ∧ W.cell? ⟨b, o + k * 4 + 3, none⟩ = some (.string (ba a.key)) ∧ W.cell? ⟨b, o + (k + 1) * 4, none⟩ = some (.int .i64 q.addr))
              (first
                | exact KK.out _ (Below.refl _ _)
                | exact KK.out _ (Below.refl _ _).drew
                | exact KK.out _ hbu9)
              ((go_simp; go_at_call 30; (with_reducible refine (HR.out _).mono ?_); rintro ee wu ⟨rfl, hbu⟩; have hbu9 : Below wr.heap.size wr wu := below_undrew hbu))
            all_goals (
              go_wp2
              go_ret
              exact ⟨ret_bool HT.out.symm, HB.out.trans (hbu9.mono hsz)⟩)
        · have HT : Hid (OkN l (k + 1)) := okN_step HE.out HA.out HRR.out (fun hh => by have := HL.out; omega)
          have hgy : ¬ ((k : Int) + 1 < (n : Int)) := by omega
          clear HA HE
          go_wp2_with fail
          obtain ⟨d0, d1, d2, d3⟩ := K.out _ (Below.refl _ _).drew
          refine wp_region_any (by kernel_rfl) ?_
          change wpAny _ _ _ _ _ _ _ (World.drew _)
          refine wpAny_take (i := 0) (v := .slice (some ⟨b, o, none⟩) n c) rfl (by kernel_rfl) (by kernel_rfl) (by kernel_rfl) (fun _ _ _ h => h) (.inl ⟨by rfl, fun w => by go_simp⟩) ?_
          simp only [Act.put, gTo, gZe, sTo, sZe, sSu]
          refine wpAny_take (i := 1) (v := .int .i64 k) rfl (by kernel_rfl) (by kernel_rfl) (by kernel_rfl) (fun _ _ _ h => h) (.inl ⟨by rfl, fun w => by go_simp⟩) ?_
          simp only [Act.put, gTo, gZe, gSu, sTo, sZe, sSu]
          refine wpAny_take (i := 2) (v := .pointer (some ⟨b, o + k * 4, none⟩)) rfl (by kernel_rfl) (by kernel_rfl) (by kernel_rfl) (fun _ _ _ h => h) (.inl ⟨by rfl, fun w => by go_simp⟩) ?_
          simp only [Act.put, gTo, gZe, gSu, sTo, sZe, sSu]
          refine wpAny_ready (rs := [3]) (by kernel_rfl) (by simp) ?_
          refine AllReady.cons rfl (fun K2 hK2 => ?_) AllReady.nil
          go_simp
          refine hK2 _ _ ?_
          clear hK2 K2
          refine wpAny_ready (rs := [4]) (by kernel_rfl) (by simp) ?_
          refine AllReady.cons rfl (fun K2 hK2 => ?_) AllReady.nil
          go_simp
          go_at_call 30
          refine (HR.out _).mono ?_
          rintro ee wu ⟨rfl, hbu⟩
          have hbu9 : Below wr.heap.size wr wu := below_undrew hbu
          refine hK2 _ _ ?_
          clear hK2 K2
          refine wpAny_take (i := 5) (v := .bool false) rfl (by kernel_rfl) (by kernel_rfl) (by kernel_rfl) (fun _ _ _ h => h) (.inl ⟨by rfl, fun w => by go_simp⟩) ?_
          simp only [Act.put, gTo, gZe, gSu, sTo, sZe, sSu]
          refine wpAny_take (i := 6) (v := .bool false) rfl (by kernel_rfl) (by kernel_rfl) (by kernel_rfl) (fun _ _ _ h => h) (.inl ⟨by rfl, fun w => by go_simp⟩) ?_
          simp only [Act.put, gTo, gZe, gSu, sTo, sZe, sSu]
          refine wpAny_take (i := 7) (v := .int .i64 k) rfl (by kernel_rfl) (by kernel_rfl) (by kernel_rfl) (fun _ _ _ h => h) (.inl ⟨by rfl, fun w => by go_simp⟩) ?_
          simp only [Act.put, gTo, gZe, gSu, sTo, sZe, sSu]
          refine wpAny_take (i := 8) (v := .int .i64 ((k : Int) + 1)) rfl (by kernel_rfl) (by kernel_rfl) (by kernel_rfl) (fun _ _ _ h => h) (.inl ⟨by rfl, fun w => by go_simp⟩) ?_
          simp only [Act.put, gTo, gZe, gSu, sTo, sZe, sSu]
          refine wpAny_take (i := 9) (v := .slice (some ⟨b, o, none⟩) n c) rfl (by kernel_rfl) (by kernel_rfl) (by kernel_rfl) (fun _ _ _ h => h) (.inl ⟨by rfl, fun w => by go_simp⟩) ?_
          simp only [Act.put, gTo, gZe, gSu, sTo, sZe, sSu]
          refine wpAny_take (i := 10) (v := .int .i64 n) rfl (by kernel_rfl) (by kernel_rfl) (by kernel_rfl) (fun _ _ _ h => h) (.inl ⟨by rfl, fun w => by go_simp⟩) ?_
          simp only [Act.put, gTo, gZe, gSu, sTo, sZe, sSu]
          refine wpAny_take (i := 11) (v := .bool false) rfl (by kernel_rfl) (by kernel_rfl) (by kernel_rfl) (fun _ _ _ h => h) (.inl ⟨by rfl, fun w => by go_simp⟩) ?_
          simp only [Act.put, gTo, gZe, gSu, sTo, sZe, sSu]
          refine wpAny_take (i := 12) (v := .bool false) rfl (by kernel_rfl) (by kernel_rfl) (by kernel_rfl) (fun _ _ _ h => h) (.inl ⟨by rfl, fun w => by go_simp⟩) ?_
          simp only [Act.put, gTo, gZe, gSu, sTo, sZe, sSu]
          refine wpAny_take (i := 13) (v := undef) rfl (by kernel_rfl) (by kernel_rfl) (by kernel_rfl) (fun _ _ _ h => h) (.inr ⟨by rfl, rfl⟩) ?_
          simp only [Act.put, gTo, gZe, gSu, sTo, sZe, sSu]
          refine wpAny_take (i := 14) (v := undef) rfl (by kernel_rfl) (by kernel_rfl) (by kernel_rfl) (fun _ _ _ h => h) (.inr ⟨by rfl, rfl⟩) ?_
          simp only [Act.put, gTo, gZe, gSu, sTo, sZe, sSu]
          refine wpAny_take (i := 15) (v := undef) rfl (by kernel_rfl) (by kernel_rfl) (by kernel_rfl) (fun _ _ _ h => h) (.inr ⟨by rfl, rfl⟩) ?_
          simp only [Act.put, gTo, gZe, gSu, sTo, sZe, sSu]
          refine wpAny_take (i := 16) (v := undef) rfl (by kernel_rfl) (by kernel_rfl) (by kernel_rfl) (fun _ _ _ h => h) (.inr ⟨by rfl, rfl⟩) ?_
          simp only [Act.put, gTo, gZe, gSu, sTo, sZe, sSu]
          refine wpAny_take (i := 17) (v := undef) rfl (by kernel_rfl) (by kernel_rfl) (by kernel_rfl) (fun _ _ _ h => h) (.inr ⟨by rfl, rfl⟩) ?_
          simp only [Act.put, gTo, gZe, gSu, sTo, sZe, sSu]
          refine wpAny_take (i := 18) (v := undef) rfl (by kernel_rfl) (by kernel_rfl) (by kernel_rfl) (fun _ _ _ h => h) (.inr ⟨by rfl, rfl⟩) ?_
          simp only [Act.put, gTo, gZe, gSu, sTo, sZe, sSu]
          refine wpAny_take (i := 19) (v := undef) rfl (by kernel_rfl) (by kernel_rfl) (by kernel_rfl) (fun _ _ _ h => h) (.inr ⟨by rfl, rfl⟩) ?_
          simp only [Act.put, gTo, gZe, gSu, sTo, sZe, sSu]
          refine wpAny_take (i := 20) (v := undef) rfl (by kernel_rfl) (by kernel_rfl) (by kernel_rfl) (fun _ _ _ h => h) (.inr ⟨by rfl, rfl⟩) ?_
          simp only [Act.put, gTo, gZe, gSu, sTo, sZe, sSu]
          refine wpAny_take (i := 21) (v := undef) rfl (by kernel_rfl) (by kernel_rfl) (by kernel_rfl) (fun _ _ _ h => h) (.inr ⟨by rfl, rfl⟩) ?_
          simp only [Act.put, gTo, gZe, gSu, sTo, sZe, sSu]
          refine wpAny_take (i := 22) (v := undef) rfl (by kernel_rfl) (by kernel_rfl) (by kernel_rfl) (fun _ _ _ h => h) (.inr ⟨by rfl, rfl⟩) ?_
          simp only [Act.put, gTo, gZe, gSu, sTo, sZe, sSu]
          refine wpAny_take (i := 23) (v := undef) rfl (by kernel_rfl) (by kernel_rfl) (by kernel_rfl) (fun _ _ _ h => h) (.inr ⟨by rfl, rfl⟩) ?_
          simp only [Act.put, gTo, gZe, gSu, sTo, sZe, sSu]
          refine wpAny_take (i := 24) (v := undef) rfl (by kernel_rfl) (by kernel_rfl) (by kernel_rfl) (fun _ _ _ h => h) (.inr ⟨by rfl, rfl⟩) ?_
          simp only [Act.put, gTo, gZe, gSu, sTo, sZe, sSu]
          refine wpAny_take (i := 25) (v := .bool false) rfl (by kernel_rfl) (by kernel_rfl) (by kernel_rfl) (fun _ _ _ h => h) (.inl ⟨by rfl, fun w => by go_simp⟩) ?_
          simp only [Act.put, gTo, gZe, gSu, sTo, sZe, sSu]
          refine wpAny_take (i := 26) (v := .bool false) rfl (by kernel_rfl) (by kernel_rfl) (by kernel_rfl) (fun _ _ _ h => h) (.inl ⟨by rfl, fun w => by go_simp⟩) ?_
          simp only [Act.put, gTo, gZe, gSu, sTo, sZe, sSu]
          refine wpAny_done (by kernel_rfl) ?_ _
          go_wp2
          go_roundw
          case rel => exact ⟨k + 1, by go_num, by omega, HT.out, HB.out.trans (hbu9.mono hsz)⟩
          case measure => simp [intOf]; omega
    · obtain rfl : k = n := by omega
      have HT : Hid (rightT l = true) := okN_end (by rw [HL.out]; exact HE.out) (by rw [HL.out]; exact hsm)
      have hkz : ¬ (k : Int) < (k : Int) := by omega
      clear hlt HE
      go_wp2
      go_ret
      exact ⟨ret_bool HT.out.symm, HB.out⟩
end Go.Proofs.YtoldppbakapohaaGreatDoor.Bw
end
/- The table that a call is about, and the place of an address in a table. For all leases whose keys fit. -/
section
set_option maxRecDepth 8000
namespace Go.Proofs.YtoldppbakapohaaGreatDoor.Bw
open Go.RowKit Co By Ky Rc Ew Jw La Tb Lw
open Dw (ba ba_size ba_data ba_list alloc_more)

/-- A slice that reads as the leases l, below U. -/
def RdR (U : Nat) (w : World) (l : List L) (e : Ending) (w' : World) : Prop := ∃ A' n' c', e = .returned (.slice A' n' c') ∧ RdLs U w' A' n' c' l ∧ Below w.heap.size w w'
theorem valid_any (A : Option Addr) (n c U : Nat) (l : List L) (w : World) (h : RdLs U w A n c l) (hU : U ≤ w.heap.size) (hk : ∀ a ∈ l, Fk a) :
    Calls Tryz.prog 63 #[.slice A n c] w (RdR U w (goodT l)) := by
  have HR := Lib.hid (Bw.right_any A n c U l w h hU hk)
  have HX := Lib.hid h
  have HUU := Lib.hid hU
  clear h hU hk
  cases hr : rightT l with
  | true =>
    rw [hr] at HR
    have HG := Lib.hid (good_yes hr)
    clear hr
    go_enter Tryz.func63, Tryz.ntmps63
    go_wp2_with fail
    refine HR.out.mono ?_
    rintro e w1 ⟨rfl, hb⟩
    go_wp2
    go_ret
    exact ⟨A, n, c, rfl, by rw [HG.out]; exact HX.out.below (hb.mono HUU.out), hb⟩
  | false =>
    rw [hr] at HR
    have HG := Lib.hid (good_no hr)
    clear hr
    go_enter Tryz.func63, Tryz.ntmps63
    go_wp2_with fail
    refine HR.out.mono ?_
    rintro e w1 ⟨rfl, hb⟩
    go_wp2
    go_ret
    exact ⟨none, 0, 0, rfl, by rw [HG.out]; exact RdG.nil _ _, hb⟩
set_option maxHeartbeats 2000000 in
theorem place_any (A : Option Addr) (n c U : Nat) (l : List L) (a : Int) (w : World) (h : RdLs U w A n c l) (hU : U ≤ w.heap.size) (hi : Inc l) (hn : n ≤ 64) :
    Calls Tryz.prog 64 #[.slice A n c, .int .i64 a] w fun e w' => e = .returned (.tuple #[.int .i64 (posT l a : Nat), .bool (hasT l a)]) ∧ Below w.heap.size w w' := by
  have hm := h.max
  have hc := h.cap
  have HL := Lib.hid h.len
  have HX := Lib.hid h
  have HUU := Lib.hid hU
  have HI := Lib.hid hi
  have HB0 : Hid (Bound l a 0 n) := by rw [← HL.out]; exact bound_start l a
  clear h hU hi
  go_enter Tryz.func64, Tryz.ntmps64
  go_wp2
  go_step3
  go_wp2
  go_step3
  go_wp2
  go_loopw [6, 7, 8] (fun v6 v7 v8 wr => ∃ lo hi : Nat, v6 = .int .i64 lo ∧ v7 = .int .i64 hi ∧ v8 = .bool false ∧ hi ≤ n ∧ Hid (Bound l a lo hi) ∧ Hid (Below w.heap.size w wr)) (fun v6 v7 _ _ => (intOf v7).toNat - (intOf v6).toNat)
  case atStart => exact ⟨0, n, rfl, rfl, rfl, Nat.le_refl _, HB0.out, Below.refl _ _⟩
  case round =>
    obtain ⟨lo, hi, rfl, rfl, rfl, hhi, HE, HB⟩ := hrel
    by_cases hlt : lo < hi
    · obtain ⟨m, hm2⟩ : ∃ m, m = (lo + hi) / 2 := ⟨_, rfl⟩
      have hml : lo ≤ m := by omega
      have hmh : m < hi := by omega
      have hmn : m < n := by omega
      obtain ⟨b, o, x, rfl, hbU, HA, c0, c1, c2, c3⟩ := atL (HX.out.below (HB.out.mono HUU.out)) hmn
      have hlz : (lo : Int) < (hi : Int) := by omega
      have hmz : (m : Int) < (n : Int) := by omega
      have hm0 : (0 : Int) ≤ (m : Int) := by omega
      have hws : IntKind.i64.wrap ((lo : Int) + (hi : Int)) = (lo : Int) + (hi : Int) := by rw [IntKind.wrap_i64]; omega
      have hwq : ((lo : Int) + (hi : Int)) / 2 = (m : Int) := by omega
      have hwm : IntKind.i64.wrap (m : Int) = (m : Int) := by rw [IntKind.wrap_i64]; omega
      have hwn : IntKind.i64.wrap ((m : Int) + 1) = (m : Int) + 1 := by rw [IntKind.wrap_i64]; omega
      have hba : Below wr.heap.size wr (wr.alloc (.cells (lcs x) 35)) := alloc_more _ _
      have HB1 := Lib.hid (HB.out.trans (hba.mono HB.out.size))
      clear hba hm2
      rcases (show x.addr < a ∨ x.addr = a ∨ a < x.addr by omega) with hv | hv | hv
      · have HT := Lib.hid (bound_up HI.out HE.out HA.out hv)
        clear HE HA
        go_wp2
        go_roundw
        case rel => exact ⟨m + 1, hi, by go_num, rfl, rfl, hhi, HT.out, HB1.out⟩
        case measure => simp [intOf]; omega
      · obtain ⟨h1, h2⟩ := bound_hit HI.out HA.out hv
        have H1 := Lib.hid h1
        have H2 := Lib.hid h2
        obtain rfl : a = x.addr := hv.symm
        clear HE HA h1 h2
        go_wp2
        go_ret2
        exact ⟨by rw [H1.out, H2.out]; rfl, HB1.out⟩
      · have HT := Lib.hid (bound_down HI.out HE.out HA.out hv)
        have hv1 : ¬ x.addr < a := by omega
        clear HE HA
        go_wp2
        go_roundw
        case rel => exact ⟨lo, m, rfl, by rw [hwq], rfl, by omega, HT.out, HB1.out⟩
        case measure => simp [intOf]; omega
    · obtain ⟨h1, h2⟩ := bound_end HI.out HE.out hlt
      have H1 := Lib.hid h1
      have H2 := Lib.hid h2
      have hlz : ¬ (lo : Int) < (hi : Int) := by omega
      clear HE h1 h2
      go_wp2
      go_ret2
      exact ⟨by rw [H1.out, H2.out]; rfl, HB.out⟩
end Go.Proofs.YtoldppbakapohaaGreatDoor.Bw
end
/- What Get and the document's Get come to. For all leases whose keys fit. -/
section
set_option maxRecDepth 8000
namespace Go.Proofs.YtoldppbakapohaaGreatDoor.Bw
open Go.RowKit Co By Ky Rc Ew Jw La Tb Lw
open Dw (ba ba_size ba_data ba_list alloc_more)

/-- What a call that answers a lease and whether it is there answers. -/
def GtR (w : World) (p : L × Bool) (e : Ending) (w' : World) : Prop := e = .returned (.tuple #[lv p.1, .bool p.2]) ∧ Below w.heap.size w w'
theorem get_has {l : List L} {a : Int} {x : L} (h : firstT (goodT l) a = some x) : getT l a = (x, true) := by unfold getT; rw [h]; rfl
theorem get_hasn {l : List L} {a : Int} (h : firstT (goodT l) a = none) : getT l a = (zeroL, false) := by unfold getT; rw [h]; rfl
set_option maxHeartbeats 2000000 in
theorem get_any (A : Option Addr) (n c U : Nat) (l : List L) (a : Int) (w : World) (h : RdLs U w A n c l) (hU : U ≤ w.heap.size) (hk : ∀ a ∈ l, Fk a) :
    Calls Tryz.prog 144 #[.slice A n c, .int .i64 a] w (GtR w (getT l a)) := by
  obtain ⟨w0, hw0⟩ : ∃ w0, w0 = w.alloc (.cells #[.int .i64 0, .int .i64 0, .int .i64 0, .string ⟨#[]⟩] 35) := ⟨_, rfl⟩
  have HC0 := Lib.hid (show Cel w0 w.heap.size 35 (lcs zeroL) by rw [hw0]; exact Cel.born _ _ _)
  have HB0 := Lib.hid (show Below w.heap.size w w0 by rw [hw0]; exact (Below.refl _ _).alloc (Nat.le_refl _) _)
  have hU0 : U ≤ w0.heap.size := by have := HB0.out.size; omega
  have HV := Lib.hid (valid_any A n c U l w0 (h.below (HB0.out.mono hU)) hU0 hk)
  have HU0 := Lib.hid hU0
  clear h hU hk hU0
  go_enter Tryz.func144, Tryz.ntmps144
  go_wp2_with fail
  rw [← hw0]
  clear hw0
  refine HV.out.mono ?_
  rintro e w1 ⟨A1, n1, c1, rfl, hr1, hb1⟩
  have hn1 : n1 ≤ 64 := by have := good_len l; have := hr1.len; omega
  have HP := Lib.hid (place_any A1 n1 c1 U (goodT l) a w1 hr1 (by have := hb1.size; have := HU0.out; omega) (good_right l).2.2 hn1)
  have HR1 := Lib.hid hr1
  have HB1 := Lib.hid (HB0.out.trans (hb1.mono HB0.out.size))
  have HC1 := Lib.hid (HC0.out.below hb1 HC0.out.lt)
  have HU1 : Hid (U ≤ w1.heap.size) := by have := hb1.size; have := HU0.out; show _ ≤ _; omega
  clear hr1 hb1 HV HC0 HB0 HU0
  rcases has_get (t := goodT l) (a := a) with ⟨hh, x, hx, hxa, hf⟩ | ⟨hh, hf⟩ | hbad
  · rw [hh] at HP
    have HG := Lib.hid (get_has hf)
    obtain ⟨p, hp⟩ : ∃ p, p = posT (goodT l) a := ⟨_, rfl⟩
    rw [← hp] at HP hx
    have HPX := Lib.hid hx
    have hpn : p < n1 := by obtain ⟨k, _⟩ := List.getElem?_eq_some_iff.1 hx; have := HR1.out.len; omega
    clear hh hf hp hx hxa
    go_wp2_with fail
    refine HP.out.mono ?_
    rintro e w2 ⟨rfl, hb2⟩
    obtain ⟨b, o, x', rfl, hbU, HA, c0, c1, c2, c3⟩ := atL (HR1.out.below (hb2.mono HU1.out)) hpn
    obtain rfl : x' = x := by have := HA.out.symm.trans HPX.out; injection this
    have hc2 := HC1.out.below hb2 HC1.out.lt
    obtain ⟨f0, f1, f2, f3⟩ := celFr4 hc2
    obtain ⟨z0, z1, z2, z3⟩ := cel4L hc2
    have HC2 := Lib.hid hc2
    have HB2 := Lib.hid (HB1.out.trans (hb2.mono HB1.out.size))
    have hpz : (p : Int) < (n1 : Int) := by omega
    have hp0 : (0 : Int) ≤ (p : Int) := by omega
    obtain ⟨w7, hw7⟩ : ∃ w7, w7 = (((w2.setCell ⟨w.heap.size, 0, none⟩ (.int .i64 x'.addr)).setCell ⟨w.heap.size, 1, none⟩ (.int .i64 x'.state)).setCell ⟨w.heap.size, 2, none⟩ (.int .i64 x'.till)).setCell ⟨w.heap.size, 3, none⟩ (.string (ba x'.key)) := ⟨_, rfl⟩
    have HC7 := Lib.hid (show Cel w7 w.heap.size 35 (lcs x') by rw [hw7]; exact celPut4 (l := x') HC2.out)
    have HB7 := Lib.hid (show Below w.heap.size w w7 by rw [hw7]; exact belowPut4 HB2.out (Nat.le_refl _) x')
    clear hc2 hb2 HA HPX HR1 HB1 HC1 HP
    go_wp2
    rw [← hw7]
    clear hw7
    (try simp only [Exit.inBlock, Exit.then])
    refine bodyPost_ret (ret_lease2 rfl _ _ w.heap.size x' rfl HC7.out) rfl ?_
    exact ⟨by rw [HG.out]; rfl, HB7.out⟩
  · rw [hh] at HP
    have HG := Lib.hid (get_hasn hf)
    clear hh hf
    go_wp2_with fail
    refine HP.out.mono ?_
    rintro e w2 ⟨rfl, hb2⟩
    have hc2 := HC1.out.below hb2 HC1.out.lt
    obtain ⟨f0, f1, f2, f3⟩ := celFr4 hc2
    obtain ⟨z0, z1, z2, z3⟩ := cel4L hc2
    have HC2 := Lib.hid hc2
    have HB2 := Lib.hid (HB1.out.trans (hb2.mono HB1.out.size))
    obtain ⟨w7, hw7⟩ : ∃ w7, w7 = (((w2.setCell ⟨w.heap.size, 0, none⟩ (.int .i64 0)).setCell ⟨w.heap.size, 1, none⟩ (.int .i64 0)).setCell ⟨w.heap.size, 2, none⟩ (.int .i64 0)).setCell ⟨w.heap.size, 3, none⟩ (.string ⟨#[]⟩) := ⟨_, rfl⟩
    have HC7 := Lib.hid (show Cel w7 w.heap.size 35 (lcs zeroL) by rw [hw7]; exact celPut4 (l := zeroL) HC2.out)
    have HB7 := Lib.hid (show Below w.heap.size w w7 by rw [hw7]; exact belowPut4 HB2.out (Nat.le_refl _) zeroL)
    clear hc2 hb2 HR1 HB1 HC1 HP
    go_wp2
    rw [← hw7]
    clear hw7
    (try simp only [Exit.inBlock, Exit.then])
    refine bodyPost_ret (ret_lease2 rfl _ _ w.heap.size zeroL rfl HC7.out) rfl ?_
    exact ⟨by rw [HG.out]; rfl, HB7.out⟩
  · exact absurd (good_right l).2.2 hbad
end Go.Proofs.YtoldppbakapohaaGreatDoor.Bw
end
/- What Holds, Rests, Free and the document's own come to. For all leases whose keys fit. -/
section
set_option maxRecDepth 8000
namespace Go.Proofs.YtoldppbakapohaaGreatDoor.Bw
open Go.RowKit Co By Ky Rc Ew Jw La Tb Lw
open Dw (ba ba_size ba_data ba_list alloc_more)

theorem holds_any (l : L) (now : Int) (w : World) : Calls Tryz.prog 116 #[lv l, .int .i64 now] w (isB (holdsT l now) w) := by
  have hb : ∀ x, Below w.heap.size w (w.alloc x) := fun x => (Below.refl _ _).alloc (Nat.le_refl _) _
  by_cases hs : l.state = 1
  · have hsz : (l.state == 1) = true := by simpa using hs
    by_cases ht : now < l.till
    · have H : Hid (holdsT l now = true) := by show _ = _; unfold holdsT; rw [decide_eq_true hs, decide_eq_true ht]; rfl
      have htz : decide (now < l.till) = true := decide_eq_true ht
      clear hs
      go_enter Tryz.func116, Tryz.ntmps116
      go_wp2
      go_ret
      exact ⟨ret_bool H.out.symm, hb _⟩
    · have H : Hid (holdsT l now = false) := by show _ = _; unfold holdsT; rw [decide_eq_true hs, decide_eq_false ht]; rfl
      have htz : decide (now < l.till) = false := decide_eq_false ht
      clear hs ht
      go_enter Tryz.func116, Tryz.ntmps116
      go_wp2
      go_ret
      exact ⟨ret_bool H.out.symm, hb _⟩
  · have hsz : (l.state == 1) = false := by simpa using hs
    have H : Hid (holdsT l now = false) := by show _ = _; unfold holdsT; rw [decide_eq_false hs]; rfl
    clear hs
    go_enter Tryz.func116, Tryz.ntmps116
    go_wp2
    go_ret
    exact ⟨ret_bool H.out.symm, hb _⟩
theorem rests_any (l : L) (now : Int) (w : World) : Calls Tryz.prog 31 #[lv l, .int .i64 now] w (isB (restsT l now) w) := by
  have hb : ∀ x, Below w.heap.size w (w.alloc x) := fun x => (Below.refl _ _).alloc (Nat.le_refl _) _
  by_cases hs : l.state = 3
  · have hsz : (l.state == 3) = true := by simpa using hs
    by_cases ht : now < l.till
    · have H : Hid (restsT l now = true) := by show _ = _; unfold restsT; rw [decide_eq_true hs, decide_eq_true ht]; rfl
      have htz : decide (now < l.till) = true := decide_eq_true ht
      clear hs
      go_enter Tryz.func31, Tryz.ntmps31
      go_wp2
      go_ret
      exact ⟨ret_bool H.out.symm, hb _⟩
    · have H : Hid (restsT l now = false) := by show _ = _; unfold restsT; rw [decide_eq_true hs, decide_eq_false ht]; rfl
      have htz : decide (now < l.till) = false := decide_eq_false ht
      clear hs ht
      go_enter Tryz.func31, Tryz.ntmps31
      go_wp2
      go_ret
      exact ⟨ret_bool H.out.symm, hb _⟩
  · have hsz : (l.state == 3) = false := by simpa using hs
    have H : Hid (restsT l now = false) := by show _ = _; unfold restsT; rw [decide_eq_false hs]; rfl
    clear hs
    go_enter Tryz.func31, Tryz.ntmps31
    go_wp2
    go_ret
    exact ⟨ret_bool H.out.symm, hb _⟩
theorem free_some {l : List L} {a : Int} {x : L} (h : firstT (goodT l) a = some x) (k : List UInt8) (now : Int) : freeT l a k now = freeO (some x) k now := by unfold freeT; rw [h]
theorem free_none {l : List L} {a : Int} (h : firstT (goodT l) a = none) (k : List UInt8) (now : Int) : freeT l a k now = true := by unfold freeT; rw [h]; rfl
theorem freeO_eq (x : L) (k : List UInt8) (now : Int) : freeO (some x) k now = (!restsT x now && (decide (x.key = k) || !holdsT x now)) := by
  show (!(restsT x now || (holdsT x now && !decide (x.key = k)))) = _
  generalize restsT x now = r
  generalize holdsT x now = q
  generalize decide (x.key = k) = d
  cases r <;> cases q <;> cases d <;> rfl
theorem beq_key {a b : List UInt8} (h : a = b) : ((ba a).toList == (ba b).toList) = true := by rw [h]; exact beq_self_eq_true _
theorem bne_key {a b : List UInt8} (h : a ≠ b) : ((ba a).toList == (ba b).toList) = false := by rw [ba_list, ba_list]; exact beq_eq_false_iff_ne.2 h
set_option maxHeartbeats 2000000 in
theorem free_any (A : Option Addr) (n c U : Nat) (l : List L) (a : Int) (k : List UInt8) (now : Int) (w : World) (h : RdLs U w A n c l) (hU : U ≤ w.heap.size) (hk : ∀ a ∈ l, Fk a) :
    Calls Tryz.prog 121 #[.slice A n c, .int .i64 a, .string (ba k), .int .i64 now] w (isB (freeT l a k now) w) := by
  have HG := Lib.hid (get_any A n c U l a w h hU hk)
  clear h hU hk
  cases hf : firstT (goodT l) a with
  | none =>
    rw [get_hasn hf] at HG
    have H := Lib.hid (free_none hf k now)
    clear hf
    go_enter Tryz.func121, Tryz.ntmps121
    go_wp2_with fail
    refine HG.out.mono ?_
    rintro e w1 ⟨rfl, hb1⟩
    go_wp2
    go_ret
    exact ⟨ret_bool H.out.symm, hb1.trans (alloc_more _ _ |>.mono hb1.size)⟩
  | some x =>
    rw [get_has hf] at HG
    have H := Lib.hid ((free_some hf k now).trans (freeO_eq x k now))
    clear hf
    go_enter Tryz.func121, Tryz.ntmps121
    go_wp2_with fail
    refine HG.out.mono ?_
    rintro e w1 ⟨rfl, hb1⟩
    obtain ⟨w2, hw2⟩ : ∃ w2, w2 = w1.alloc (.cells (lcs x) 35) := ⟨_, rfl⟩
    have hc2 : Cel w2 w1.heap.size 35 (lcs x) := by rw [hw2]; exact Cel.born _ _ _
    have HB2 := Lib.hid (show Below w.heap.size w w2 by rw [hw2]; exact hb1.trans (alloc_more _ _ |>.mono hb1.size))
    obtain ⟨z0, z1, z2, z3⟩ := cel4L hc2
    have HC2 := Lib.hid hc2
    have HRS := Lib.hid (rests_any x now w2)
    clear hc2 hb1 HG
    cases hr : restsT x now with
    | true =>
      rw [hr] at HRS H
      have hun : undef = Value.tuple #[] := rfl
      clear hr
      go_wp2_with fail
      rw [← hw2]
      clear hw2
      refine HRS.out.mono ?_
      rintro e w3 ⟨rfl, hb3⟩
      go_wp2
      go_ret
      exact ⟨ret_bool H.out.symm, HB2.out.trans (hb3.mono HB2.out.size)⟩
    | false =>
      rw [hr] at HRS H
      clear hr
      by_cases hkey : x.key = k
      · have hkz := beq_key hkey
        have hd : decide (x.key = k) = true := decide_eq_true hkey
        rw [hd] at H
        have hun : undef = Value.tuple #[] := rfl
        clear hkey hd
        go_wp2_with fail
        rw [← hw2]
        clear hw2
        refine HRS.out.mono ?_
        rintro e w3 ⟨rfl, hb3⟩
        obtain ⟨y0, y1, y2, y3⟩ := cel4L (HC2.out.below hb3 HC2.out.lt)
        go_wp2
        go_ret
        exact ⟨ret_bool H.out.symm, HB2.out.trans (hb3.mono HB2.out.size)⟩
      · have hkz := bne_key hkey
        have hd : decide (x.key = k) = false := decide_eq_false hkey
        rw [hd] at H
        clear hkey hd
        go_wp2_with fail
        rw [← hw2]
        clear hw2
        refine HRS.out.mono ?_
        rintro e w3 ⟨rfl, hb3⟩
        obtain ⟨y0, y1, y2, y3⟩ := cel4L (HC2.out.below hb3 HC2.out.lt)
        have HHO := Lib.hid (holds_any x now w3)
        have HB3 := Lib.hid (HB2.out.trans (hb3.mono HB2.out.size))
        clear hb3
        go_wp2_with fail
        refine HHO.out.mono ?_
        rintro e w4 ⟨rfl, hb4⟩
        go_wp2
        go_ret
        exact ⟨ret_bool (by rw [H.out]; simp), HB3.out.trans (hb4.mono HB3.out.size)⟩
end Go.Proofs.YtoldppbakapohaaGreatDoor.Bw
end
