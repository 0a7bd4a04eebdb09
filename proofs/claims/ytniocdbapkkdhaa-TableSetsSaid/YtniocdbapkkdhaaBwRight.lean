/- What table's Right and the document's Right come to, and the table that a call is about. For all leases whose keys fit. -/
import Derived.Test.YtniocdbapkkdhaaBwMath
import Derived.Test.YtniocdbapkkdhaaLlOwn
import Derived.Test.YtniocdbapkkdhaaJlSame
import Derived.BigQuiet
import Derived.Deep.QuietTactic
import Derived.Deep.RegionHeld3
set_option maxRecDepth 8000
namespace Go.Proofs.Ytniocdbapkkdhaa.Bw
open Go.RowKit Co By Ky Rc Ew Jw La Tb Lw
open Dw (ba ba_size ba_data ba_list alloc_more)

theorem cel4L {w : World} {g : Nat} {l : L} (h : Cel w g 26 (lcs l)) : w.cell? ⟨g, 0, none⟩ = some (.int .i64 l.addr) ∧ w.cell? ⟨g, 1, none⟩ = some (.int .i64 l.state) ∧ w.cell? ⟨g, 2, none⟩ = some (.int .i64 l.till) ∧ w.cell? ⟨g, 3, none⟩ = some (.string (ba l.key)) :=
  ⟨by rw [h.cell]; rfl, by rw [h.cell]; rfl, by rw [h.cell]; rfl, by rw [h.cell]; rfl⟩
set_option maxHeartbeats 4000000 in
theorem right_any (A : Option Addr) (n c U : Nat) (l : List L) (w : World) (h : RdLs U w A n c l) (hU : U ≤ w.heap.size) (hk : ∀ a ∈ l, Fk a) :
    Calls Try.prog 13 #[.slice A n c] w (isB (rightT l) w) := by
  have hm := h.max
  have hc := h.cap
  have HL := Lib.hid h.len
  have HUU := Lib.hid hU
  by_cases hbig : 64 < n
  · have HT : Hid (rightT l = false) := right_long (by rw [HL.out]; exact hbig)
    clear h hk hU
    go_enter Try.func13, Try.ntmps13
    go_wp2
    go_ret
    exact ⟨ret_bool HT.out.symm, Below.refl _ _⟩
  have hsm : n ≤ 64 := by omega
  have HX := Lib.hid h
  have HF := Lib.hid hk
  clear h hk hbig hU
  go_enter Try.func13, Try.ntmps13
  go_wp2
  go_loopw [10] (fun v wr => ∃ k : Nat, v = .int .i64 k ∧ k ≤ n ∧ Hid (OkP l k) ∧ Hid (Below w.heap.size w wr)) (fun v _ => n - (intOf v).toNat)
  case atStart => exact ⟨0, rfl, by omega, okP_zero l, Below.refl _ _⟩
  case round =>
    obtain ⟨k, rfl, hk2, HE, HB⟩ := hrel
    by_cases hlt : k < n
    · obtain ⟨b, o, a, rfl, hbU, HA, c0, c1, c2, c3⟩ := atL (HX.out.below (HB.out.mono HUU.out)) hlt
      have hkz : (k : Int) < (n : Int) := by omega
      obtain ⟨w1, hw1⟩ : ∃ w1, w1 = wr.alloc (.cells (lcs a) 26) := ⟨_, rfl⟩
      have hb1 : Below wr.heap.size wr w1 := by rw [hw1]; exact alloc_more _ _
      have hsz := HB.out.size
      have HB1 := Lib.hid (HB.out.trans (hb1.mono hsz))
      have HC1 := Lib.hid (show Cel w1 wr.heap.size 26 (lcs a) by rw [hw1]; exact Cel.born _ _ _)
      have HR := Lib.hid (fun W => Ew.right_any a W (HF.out a (List.mem_of_getElem? HA.out)))
      have K : Hid (∀ W, Below w1.heap.size w1 W → W.cell? ⟨wr.heap.size, 0, none⟩ = some (.int .i64 a.addr) ∧ W.cell? ⟨wr.heap.size, 1, none⟩ = some (.int .i64 a.state) ∧ W.cell? ⟨wr.heap.size, 2, none⟩ = some (.int .i64 a.till) ∧ W.cell? ⟨wr.heap.size, 3, none⟩ = some (.string (ba a.key))) := fun W hW => cel4L (HC1.out.below hW HC1.out.lt)
      cases hr : rightR a with
      | false =>
        rw [hr] at HR
        have HT : Hid (rightT l = false) := right_bad HA.out (of_decide_eq_false hr)
        clear hr HA HE hb1
        go_wp2_with fail
        rw [← hw1]
        clear hw1
        obtain ⟨d0, d1, d2, d3⟩ := K.out _ (Below.refl _ _).drew
        refine wp_region_any (by kernel_rfl) ?_
        change wpAny _ _ _ _ _ _ _ (World.drew _)
        refine wpAny_ready (rs := [0]) (by kernel_rfl) (by simp) ?_
        refine AllReady.cons rfl (fun K2 hK2 => ?_) AllReady.nil
        go_simp
        refine hK2 _ _ ?_
        clear hK2 K2
        refine wpAny_ready (rs := [1]) (by kernel_rfl) (by simp) ?_
        refine AllReady.cons rfl (fun K2 hK2 => ?_) AllReady.nil
        go_simp
        go_at_call 33
        refine (HR.out _).mono ?_
        rintro ee wu ⟨rfl, hbu⟩
        have hbu9 : Below w1.heap.size w1 wu := below_undrew hbu
        refine hK2 _ _ ?_
        clear hK2 K2
        refine wpAny_take (i := 2) (v := .bool true) rfl (by kernel_rfl) (by kernel_rfl) (by kernel_rfl) (fun _ _ _ h => h) (.inl ⟨by rfl, fun w => by go_simp⟩) ?_
        simp only [Act.put, List.getElem_toArray, List.getElem_cons_zero, List.getElem_cons_succ, List.setIfInBounds_toArray, List.set_cons_zero, List.set_cons_succ]
        refine wpAny_take (i := 3) (v := .bool true) rfl (by kernel_rfl) (by kernel_rfl) (by kernel_rfl) (fun _ _ _ h => h) (.inl ⟨by rfl, fun w => by go_simp⟩) ?_
        simp only [Act.put, List.getElem_toArray, List.getElem_cons_zero, List.getElem_cons_succ, List.setIfInBounds_toArray, List.set_cons_zero, List.set_cons_succ]
        refine wpAny_take (i := 4) (v := undef) rfl (by kernel_rfl) (by kernel_rfl) (by kernel_rfl) (fun _ _ _ h => h) (.inr ⟨by rfl, rfl⟩) ?_
        simp only [Act.put, List.getElem_toArray, List.getElem_cons_zero, List.getElem_cons_succ, List.setIfInBounds_toArray, List.set_cons_zero, List.set_cons_succ]
        refine wpAny_take (i := 5) (v := undef) rfl (by kernel_rfl) (by kernel_rfl) (by kernel_rfl) (fun _ _ _ h => h) (.inr ⟨by rfl, rfl⟩) ?_
        simp only [Act.put, List.getElem_toArray, List.getElem_cons_zero, List.getElem_cons_succ, List.setIfInBounds_toArray, List.set_cons_zero, List.set_cons_succ]
        refine wpAny_take (i := 6) (v := undef) rfl (by kernel_rfl) (by kernel_rfl) (by kernel_rfl) (fun _ _ _ h => h) (.inr ⟨by rfl, rfl⟩) ?_
        simp only [Act.put, List.getElem_toArray, List.getElem_cons_zero, List.getElem_cons_succ, List.setIfInBounds_toArray, List.set_cons_zero, List.set_cons_succ]
        refine wpAny_take (i := 7) (v := undef) rfl (by kernel_rfl) (by kernel_rfl) (by kernel_rfl) (fun _ _ _ h => h) (.inr ⟨by rfl, rfl⟩) ?_
        simp only [Act.put, List.getElem_toArray, List.getElem_cons_zero, List.getElem_cons_succ, List.setIfInBounds_toArray, List.set_cons_zero, List.set_cons_succ]
        refine wpAny_take (i := 8) (v := undef) rfl (by kernel_rfl) (by kernel_rfl) (by kernel_rfl) (fun _ _ _ h => h) (.inr ⟨by rfl, rfl⟩) ?_
        simp only [Act.put, List.getElem_toArray, List.getElem_cons_zero, List.getElem_cons_succ, List.setIfInBounds_toArray, List.set_cons_zero, List.set_cons_succ]
        refine wpAny_take (i := 9) (v := undef) rfl (by kernel_rfl) (by kernel_rfl) (by kernel_rfl) (fun _ _ _ h => h) (.inr ⟨by rfl, rfl⟩) ?_
        simp only [Act.put, List.getElem_toArray, List.getElem_cons_zero, List.getElem_cons_succ, List.setIfInBounds_toArray, List.set_cons_zero, List.set_cons_succ]
        refine wpAny_take (i := 10) (v := undef) rfl (by kernel_rfl) (by kernel_rfl) (by kernel_rfl) (fun _ _ _ h => h) (.inr ⟨by rfl, rfl⟩) ?_
        simp only [Act.put, List.getElem_toArray, List.getElem_cons_zero, List.getElem_cons_succ, List.setIfInBounds_toArray, List.set_cons_zero, List.set_cons_succ]
        refine wpAny_take (i := 11) (v := undef) rfl (by kernel_rfl) (by kernel_rfl) (by kernel_rfl) (fun _ _ _ h => h) (.inr ⟨by rfl, rfl⟩) ?_
        simp only [Act.put, List.getElem_toArray, List.getElem_cons_zero, List.getElem_cons_succ, List.setIfInBounds_toArray, List.set_cons_zero, List.set_cons_succ]
        refine wpAny_take (i := 12) (v := undef) rfl (by kernel_rfl) (by kernel_rfl) (by kernel_rfl) (fun _ _ _ h => h) (.inr ⟨by rfl, rfl⟩) ?_
        simp only [Act.put, List.getElem_toArray, List.getElem_cons_zero, List.getElem_cons_succ, List.setIfInBounds_toArray, List.set_cons_zero, List.set_cons_succ]
        refine wpAny_take (i := 13) (v := undef) rfl (by kernel_rfl) (by kernel_rfl) (by kernel_rfl) (fun _ _ _ h => h) (.inr ⟨by rfl, rfl⟩) ?_
        simp only [Act.put, List.getElem_toArray, List.getElem_cons_zero, List.getElem_cons_succ, List.setIfInBounds_toArray, List.set_cons_zero, List.set_cons_succ]
        refine wpAny_take (i := 14) (v := undef) rfl (by kernel_rfl) (by kernel_rfl) (by kernel_rfl) (fun _ _ _ h => h) (.inr ⟨by rfl, rfl⟩) ?_
        simp only [Act.put, List.getElem_toArray, List.getElem_cons_zero, List.getElem_cons_succ, List.setIfInBounds_toArray, List.set_cons_zero, List.set_cons_succ]
        refine wpAny_take (i := 15) (v := undef) rfl (by kernel_rfl) (by kernel_rfl) (by kernel_rfl) (fun _ _ _ h => h) (.inr ⟨by rfl, rfl⟩) ?_
        simp only [Act.put, List.getElem_toArray, List.getElem_cons_zero, List.getElem_cons_succ, List.setIfInBounds_toArray, List.set_cons_zero, List.set_cons_succ]
        refine wpAny_take (i := 16) (v := undef) rfl (by kernel_rfl) (by kernel_rfl) (by kernel_rfl) (fun _ _ _ h => h) (.inr ⟨by rfl, rfl⟩) ?_
        simp only [Act.put, List.getElem_toArray, List.getElem_cons_zero, List.getElem_cons_succ, List.setIfInBounds_toArray, List.set_cons_zero, List.set_cons_succ]
        refine wpAny_take (i := 17) (v := .bool true) rfl (by kernel_rfl) (by kernel_rfl) (by kernel_rfl) (fun _ _ _ h => h) (.inl ⟨by rfl, fun w => by go_simp⟩) ?_
        simp only [Act.put, List.getElem_toArray, List.getElem_cons_zero, List.getElem_cons_succ, List.setIfInBounds_toArray, List.set_cons_zero, List.set_cons_succ]
        refine wpAny_done (by kernel_rfl) ?_ _
        all_goals (
          go_wp2
          go_ret
          exact ⟨ret_bool HT.out.symm, HB1.out.trans (hbu9.mono HB1.out.size)⟩)
      | true =>
        rw [hr] at HR
        have HRR := Lib.hid (of_decide_eq_true hr)
        clear hr
        rcases Nat.eq_zero_or_pos k with hk0 | hkp
        · have HT : Hid (OkP l (k + 1)) := okP_step HE.out HA.out HRR.out (fun j b hj => by omega)
          have hgz : decide (0 < k) = false := decide_eq_false (by omega)
          have hgy : ¬ (k : Int) > 0 := by omega
          clear HA HE hb1 hk0
          go_wp2_with fail
          rw [← hw1]
          clear hw1
          obtain ⟨d0, d1, d2, d3⟩ := K.out _ (Below.refl _ _).drew
          refine wp_region_any (by kernel_rfl) ?_
          change wpAny _ _ _ _ _ _ _ (World.drew _)
          refine wpAny_ready (rs := [0]) (by kernel_rfl) (by simp) ?_
          refine AllReady.cons rfl (fun K2 hK2 => ?_) AllReady.nil
          go_simp
          refine hK2 _ _ ?_
          clear hK2 K2
          refine wpAny_ready (rs := [1]) (by kernel_rfl) (by simp) ?_
          refine AllReady.cons rfl (fun K2 hK2 => ?_) AllReady.nil
          go_simp
          go_at_call 33
          refine (HR.out _).mono ?_
          rintro ee wu ⟨rfl, hbu⟩
          have hbu9 : Below w1.heap.size w1 wu := below_undrew hbu
          refine hK2 _ _ ?_
          clear hK2 K2
          refine wpAny_take (i := 2) (v := .bool false) rfl (by kernel_rfl) (by kernel_rfl) (by kernel_rfl) (fun _ _ _ h => h) (.inl ⟨by rfl, fun w => by go_simp⟩) ?_
          simp only [Act.put, List.getElem_toArray, List.getElem_cons_zero, List.getElem_cons_succ, List.setIfInBounds_toArray, List.set_cons_zero, List.set_cons_succ]
          refine wpAny_take (i := 3) (v := .bool false) rfl (by kernel_rfl) (by kernel_rfl) (by kernel_rfl) (fun _ _ _ h => h) (.inl ⟨by rfl, fun w => by go_simp⟩) ?_
          simp only [Act.put, List.getElem_toArray, List.getElem_cons_zero, List.getElem_cons_succ, List.setIfInBounds_toArray, List.set_cons_zero, List.set_cons_succ]
          refine wpAny_take (i := 4) (v := .int .i64 k) rfl (by kernel_rfl) (by kernel_rfl) (by kernel_rfl) (fun _ _ _ h => h) (.inl ⟨by rfl, fun w => by go_simp⟩) ?_
          simp only [Act.put, List.getElem_toArray, List.getElem_cons_zero, List.getElem_cons_succ, List.setIfInBounds_toArray, List.set_cons_zero, List.set_cons_succ]
          refine wpAny_take (i := 5) (v := .bool false) rfl (by kernel_rfl) (by kernel_rfl) (by kernel_rfl) (fun _ _ _ h => h) (.inl ⟨by rfl, fun w => by go_simp⟩) ?_
          simp only [Act.put, List.getElem_toArray, List.getElem_cons_zero, List.getElem_cons_succ, List.setIfInBounds_toArray, List.set_cons_zero, List.set_cons_succ]
          refine wpAny_take (i := 6) (v := .bool false) rfl (by kernel_rfl) (by kernel_rfl) (by kernel_rfl) (fun _ _ _ h => h) (.inl ⟨by rfl, fun w => by go_simp⟩) ?_
          simp only [Act.put, List.getElem_toArray, List.getElem_cons_zero, List.getElem_cons_succ, List.setIfInBounds_toArray, List.set_cons_zero, List.set_cons_succ]
          refine wpAny_take (i := 7) (v := undef) rfl (by kernel_rfl) (by kernel_rfl) (by kernel_rfl) (fun _ _ _ h => h) (.inr ⟨by rfl, rfl⟩) ?_
          simp only [Act.put, List.getElem_toArray, List.getElem_cons_zero, List.getElem_cons_succ, List.setIfInBounds_toArray, List.set_cons_zero, List.set_cons_succ]
          refine wpAny_take (i := 8) (v := undef) rfl (by kernel_rfl) (by kernel_rfl) (by kernel_rfl) (fun _ _ _ h => h) (.inr ⟨by rfl, rfl⟩) ?_
          simp only [Act.put, List.getElem_toArray, List.getElem_cons_zero, List.getElem_cons_succ, List.setIfInBounds_toArray, List.set_cons_zero, List.set_cons_succ]
          refine wpAny_take (i := 9) (v := undef) rfl (by kernel_rfl) (by kernel_rfl) (by kernel_rfl) (fun _ _ _ h => h) (.inr ⟨by rfl, rfl⟩) ?_
          simp only [Act.put, List.getElem_toArray, List.getElem_cons_zero, List.getElem_cons_succ, List.setIfInBounds_toArray, List.set_cons_zero, List.set_cons_succ]
          refine wpAny_take (i := 10) (v := undef) rfl (by kernel_rfl) (by kernel_rfl) (by kernel_rfl) (fun _ _ _ h => h) (.inr ⟨by rfl, rfl⟩) ?_
          simp only [Act.put, List.getElem_toArray, List.getElem_cons_zero, List.getElem_cons_succ, List.setIfInBounds_toArray, List.set_cons_zero, List.set_cons_succ]
          refine wpAny_take (i := 11) (v := undef) rfl (by kernel_rfl) (by kernel_rfl) (by kernel_rfl) (fun _ _ _ h => h) (.inr ⟨by rfl, rfl⟩) ?_
          simp only [Act.put, List.getElem_toArray, List.getElem_cons_zero, List.getElem_cons_succ, List.setIfInBounds_toArray, List.set_cons_zero, List.set_cons_succ]
          refine wpAny_take (i := 12) (v := undef) rfl (by kernel_rfl) (by kernel_rfl) (by kernel_rfl) (fun _ _ _ h => h) (.inr ⟨by rfl, rfl⟩) ?_
          simp only [Act.put, List.getElem_toArray, List.getElem_cons_zero, List.getElem_cons_succ, List.setIfInBounds_toArray, List.set_cons_zero, List.set_cons_succ]
          refine wpAny_take (i := 13) (v := undef) rfl (by kernel_rfl) (by kernel_rfl) (by kernel_rfl) (fun _ _ _ h => h) (.inr ⟨by rfl, rfl⟩) ?_
          simp only [Act.put, List.getElem_toArray, List.getElem_cons_zero, List.getElem_cons_succ, List.setIfInBounds_toArray, List.set_cons_zero, List.set_cons_succ]
          refine wpAny_take (i := 14) (v := undef) rfl (by kernel_rfl) (by kernel_rfl) (by kernel_rfl) (fun _ _ _ h => h) (.inr ⟨by rfl, rfl⟩) ?_
          simp only [Act.put, List.getElem_toArray, List.getElem_cons_zero, List.getElem_cons_succ, List.setIfInBounds_toArray, List.set_cons_zero, List.set_cons_succ]
          refine wpAny_take (i := 15) (v := undef) rfl (by kernel_rfl) (by kernel_rfl) (by kernel_rfl) (fun _ _ _ h => h) (.inr ⟨by rfl, rfl⟩) ?_
          simp only [Act.put, List.getElem_toArray, List.getElem_cons_zero, List.getElem_cons_succ, List.setIfInBounds_toArray, List.set_cons_zero, List.set_cons_succ]
          refine wpAny_take (i := 16) (v := .bool false) rfl (by kernel_rfl) (by kernel_rfl) (by kernel_rfl) (fun _ _ _ h => h) (.inl ⟨by rfl, fun w => by go_simp⟩) ?_
          simp only [Act.put, List.getElem_toArray, List.getElem_cons_zero, List.getElem_cons_succ, List.setIfInBounds_toArray, List.set_cons_zero, List.set_cons_succ]
          refine wpAny_take (i := 17) (v := .bool false) rfl (by kernel_rfl) (by kernel_rfl) (by kernel_rfl) (fun _ _ _ h => h) (.inl ⟨by rfl, fun w => by go_simp⟩) ?_
          simp only [Act.put, List.getElem_toArray, List.getElem_cons_zero, List.getElem_cons_succ, List.setIfInBounds_toArray, List.set_cons_zero, List.set_cons_succ]
          refine wpAny_done (by kernel_rfl) ?_ _
          go_wp2
          go_roundw
          case rel => exact ⟨k + 1, by go_num, by omega, HT.out, HB1.out.trans (hbu9.mono HB1.out.size)⟩
          case measure => simp [intOf]; omega
        · obtain ⟨j, rfl⟩ : ∃ j, k = j + 1 := ⟨k - 1, by omega⟩
          obtain ⟨b', o', p, e', hbU', HP, p0, _, _, _⟩ := atL (HX.out.below (HB.out.mono HUU.out)) (k := j) (by omega)
          cases e'
          have hpc : w1.cell? ⟨b, o + j * 4, none⟩ = some (.int .i64 p.addr) := (hb1.cell (p := ⟨b, o + j * 4, none⟩) (by have := HUU.out; show b < _; omega)).trans p0
          have HPC : Hid (∀ W, Below w1.heap.size w1 W → W.cell? ⟨b, o + j * 4, none⟩ = some (.int .i64 p.addr)) := fun W hW => (hW.cell (p := ⟨b, o + j * 4, none⟩) (by have := HUU.out; have := hb1.size; show b < _; omega)).trans hpc
          have KK : Hid (∀ W, Below w1.heap.size w1 W → W.cell? ⟨wr.heap.size, 0, none⟩ = some (.int .i64 a.addr) ∧ W.cell? ⟨wr.heap.size, 1, none⟩ = some (.int .i64 a.state) ∧ W.cell? ⟨wr.heap.size, 2, none⟩ = some (.int .i64 a.till) ∧ W.cell? ⟨wr.heap.size, 3, none⟩ = some (.string (ba a.key)) ∧ W.cell? ⟨b, o + j * 4, none⟩ = some (.int .i64 p.addr)) := fun W hW => by
            obtain ⟨q0, q1, q2, q3⟩ := K.out W hW
            exact ⟨q0, q1, q2, q3, HPC.out W hW⟩
          have hgz : decide (0 < j + 1) = true := decide_eq_true (by omega)
          have hgy : ((j + 1 : Nat) : Int) > 0 := by omega
          have hjn : (j : Int) < (n : Int) := by omega
          have hjm : (j : Int) ≤ 9223372036854775807 := by omega
          have hj0 : (0 : Int) ≤ (j : Int) := by omega
          have hwj : IntKind.i64.wrap (((j + 1 : Nat) : Int) - 1) = (j : Int) := by rw [IntKind.wrap_i64]; omega
          have hwi : IntKind.i64.wrap ((j : Int) + 1 - 1) = (j : Int) := by rw [IntKind.wrap_i64]; omega
          have hwh : IntKind.i64.wrap (j : Int) = (j : Int) := by rw [IntKind.wrap_i64]; omega
          by_cases hv : p.addr < a.addr
          · have HT : Hid (OkP l (j + 1 + 1)) := okP_step HE.out HA.out HRR.out (fun i b hi hb => by
              obtain rfl : i = j := by omega
              obtain rfl : b = p := by have := hb.symm.trans HP.out; injection this
              exact hv)
            have hvz : ¬ (p.addr ≥ a.addr) := by omega
            clear hv HA HE hb1 HP p0 hpc
            go_wp2_with fail
            rw [← hw1]
            clear hw1
            go_region_held3 (fun W => W.cell? ⟨wr.heap.size, 0, none⟩ = some (.int .i64 a.addr) ∧ W.cell? ⟨wr.heap.size, 1, none⟩ = some (.int .i64 a.state) ∧ W.cell? ⟨wr.heap.size, 2, none⟩ = some (.int .i64 a.till) ∧ W.cell? ⟨wr.heap.size, 3, none⟩ = some (.string (ba a.key)) ∧ W.cell? ⟨b, o + j * 4, none⟩ = some (.int .i64 p.addr))
              (first
                | exact KK.out _ (Below.refl _ _)
                | exact KK.out _ (Below.refl _ _).drew
                | exact KK.out _ hbu9)
              ((go_simp; go_at_call 33; (with_reducible refine (HR.out _).mono ?_); rintro ee wu ⟨rfl, hbu⟩; have hbu9 : Below w1.heap.size w1 wu := below_undrew hbu))
            all_goals (
              go_wp2
              go_roundw
              case rel => exact ⟨j + 1 + 1, by go_num, by omega, HT.out, HB1.out.trans (hbu9.mono HB1.out.size)⟩
              case measure => simp [intOf]; omega)
          · have HT : Hid (rightT l = false) := right_turn HP.out HA.out hv
            have hvz : p.addr ≥ a.addr := by omega
            clear hv HA HE hb1 HP p0 hpc
            go_wp2_with fail
            rw [← hw1]
            clear hw1
            go_region_held3 (fun W => W.cell? ⟨wr.heap.size, 0, none⟩ = some (.int .i64 a.addr) ∧ W.cell? ⟨wr.heap.size, 1, none⟩ = some (.int .i64 a.state) ∧ W.cell? ⟨wr.heap.size, 2, none⟩ = some (.int .i64 a.till) ∧ W.cell? ⟨wr.heap.size, 3, none⟩ = some (.string (ba a.key)) ∧ W.cell? ⟨b, o + j * 4, none⟩ = some (.int .i64 p.addr))
              (first
                | exact KK.out _ (Below.refl _ _)
                | exact KK.out _ (Below.refl _ _).drew
                | exact KK.out _ hbu9)
              ((go_simp; go_at_call 33; (with_reducible refine (HR.out _).mono ?_); rintro ee wu ⟨rfl, hbu⟩; have hbu9 : Below w1.heap.size w1 wu := below_undrew hbu))
            all_goals (
              go_wp2
              go_ret
              exact ⟨ret_bool HT.out.symm, HB1.out.trans (hbu9.mono HB1.out.size)⟩)
    · obtain rfl : k = n := by omega
      have HT : Hid (rightT l = true) := okP_end (by rw [HL.out]; exact HE.out) (by rw [HL.out]; exact hsm)
      have hkz : ¬ (k : Int) < (k : Int) := by omega
      clear hlt HE
      go_wp2
      go_ret
      exact ⟨ret_bool HT.out.symm, HB.out⟩
end Go.Proofs.Ytniocdbapkkdhaa.Bw
