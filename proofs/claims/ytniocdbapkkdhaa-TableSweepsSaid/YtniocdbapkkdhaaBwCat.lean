/- What slices.Grow of nil and slices.Concat at leases come to. Conditions: for Concat, 1000 leases together at most. -/
import Derived.Test.YtniocdbapkkdhaaLlOwn
import Derived.Lib.AppendZeros
import Derived.Lib.SliceRun
set_option maxRecDepth 8000
namespace Go.Proofs.Ytniocdbapkkdhaa.Bw
open Go.RowKit Co By Ky Rc Ew Jw Lw
open Dw (ba ba_size ba_data ba_list alloc_more)

/-- A call that answers a slice whose array is its own. -/
def RCL (w : World) (n : Nat) (l : List L) (e : Ending) (w' : World) : Prop := ∃ A c, e = .returned (.slice A n c) ∧ OwnLs w.heap.size w' A n c l ∧ Below w.heap.size w w'
theorem growL_nil (n : Nat) (w : World) (hn : n ≤ 1000) :
    Calls Try.prog 44 #[.slice none 0 0, .int .i64 (n : Int)] w (RCL w 0 []) := by
  by_cases h0 : n = 0
  · subst h0
    go_enter Try.func44, Try.ntmps44
    go_wp2
    go_ret
    exact ⟨none, 0, rfl, OwnG.nil _ _ _, Below.refl _ _⟩
  · have hpos : 0 < n := by omega
    obtain ⟨i0, hi0, hz0, hz1, hz2⟩ := info_parts lesP.hi
    have hrun := fun ty => Lib.run_append_nil_zeros (P := Try.prog) w 22 3 ty 26 i0 _ .i64 .i64 Try.underlying22 Try.underlying3 hi0 hz0 n hpos (by rw [hz1]; decide) (by omega) (by rw [hz2]; omega)
    have hge := grownCap_ge w n 0 26
    have hcm := grownCap_le_maxLen w n 0 26 (by unfold maxLen; omega)
    generalize grownCap w n 0 26 = G at hrun hge hcm
    generalize hcs : (Builtin.zeroCells (Value.agg #[.int .i64 0, .int .i64 0, .int .i64 0, .string ⟨#[]⟩]).cells n ++ Builtin.zeroCells (Value.agg #[.int .i64 0, .int .i64 0, .int .i64 0, .string ⟨#[]⟩]).cells (G - n)) = cs at hrun
    have hsz : cs.size = G * 4 := by
      rw [← hcs, Array.size_append, size_zeroCells, size_zeroCells]
      show n * 4 + (G - n) * 4 = G * 4
      omega
    have HR := Lib.hid hrun
    have HS := Lib.hid hsz
    have HM := Lib.hid hcm
    have hcm2 : G ≤ 9223372036854775807 := by unfold maxLen at hcm; omega
    clear hrun hsz hcm hcs hi0 hz0 hz1 hz2 h0
    go_enter Try.func44, Try.ntmps44
    go_wp2_with (at_builtin; refine Lib.wpList_append_run _ rfl (.tmp 20) (.tmp 21) _ _ rfl _ _ rfl rfl _ _ (HR.out _) ?_)
    go_ret
    exact ⟨some ⟨w.heap.size, 0, none⟩, G, rfl, ⟨(World.ownsRow_made w cs G (Nat.le_refl _) HM.out HS.out).drew, rfl⟩, ((Below.refl _ _).alloc (Nat.le_refl _) _).drew⟩

/-- A part of a list of leases. -/
structure PartL where
  A : Option Addr
  c : Nat
  l : List L
def PartsL (w : World) (b o : Nat) (qs : List PartL) : Prop :=
  ∀ i (h : i < qs.length), w.cell? ⟨b, o + i, none⟩ = some (.slice qs[i].A qs[i].l.length qs[i].c) ∧ RdLs w.heap.size w qs[i].A qs[i].l.length qs[i].c qs[i].l
theorem PartsL.below {w w' : World} {b o : Nat} {qs : List PartL} (h : PartsL w b o qs) (hb : Below w.heap.size w w') : PartsL w' b o qs := fun i hi =>
  ⟨(hb.cell (World.block_lt_of_cell? w _ (h i hi).1)).trans (h i hi).1, ((h i hi).2.below hb).mono hb.size⟩
def totP (qs : List PartL) : Nat := (qs.map fun p => p.l.length).sum
def catP (qs : List PartL) : List L := qs.flatMap (·.l)
theorem totP_next {qs : List PartL} {k : Nat} (h : k < qs.length) : totP (qs.take (k + 1)) = totP (qs.take k) + (qs[k]).l.length := by
  unfold totP
  rw [List.take_succ_eq_append_getElem h]
  simp only [List.map_append, List.sum_append, List.map_cons, List.map_nil, List.sum_cons, List.sum_nil, Nat.add_zero]
theorem catP_next {qs : List PartL} {k : Nat} (h : k < qs.length) : catP (qs.take (k + 1)) = catP (qs.take k) ++ (qs[k]).l := by
  unfold catP
  rw [List.take_succ_eq_append_getElem h, List.flatMap_append]
  simp only [List.flatMap_cons, List.flatMap_nil, List.append_nil]
theorem totP_le (qs : List PartL) (k : Nat) : totP (qs.take k) ≤ totP qs := by
  have h : totP (qs.take k) + totP (qs.drop k) = totP qs := by
    unfold totP
    rw [← List.sum_append, ← List.map_append, List.take_append_drop]
  omega
set_option maxHeartbeats 1000000 in
theorem concatL_any (b o N c : Nat) (qs : List PartL) (w : World) (h : PartsL w b o qs) (hN : qs.length = N) (hc : c ≤ 9223372036854775807) (hNc : N ≤ c) (ht : totP qs ≤ 1000) :
    Calls Try.prog 36 #[.slice (some ⟨b, o, none⟩) N c] w (RCL w (totP qs) (catP qs)) := by
  have HN := Lib.hid hN
  clear hN
  go_enter Try.func36, Try.ntmps36
  go_wp2
  go_loop [3, 11] (fun v i => ∃ k : Nat, k ≤ N ∧ i = .int .i64 k ∧ v = .int .i64 (totP (qs.take k) : Nat)) (fun _ i => N - (intOf i).toNat)
  case atStart => exact ⟨0, by omega, rfl, rfl⟩
  case round =>
    obtain ⟨k, hk, rfl, rfl⟩ := hrel
    have hle := totP_le qs k
    by_cases hlt : k < N
    · have hkl : k < qs.length := by have := HN.out; omega
      have hcell := (h k hkl).1
      have H := Lib.hid (totP_next hkl)
      have hle2 := totP_le qs (k + 1)
      rw [totP_next hkl] at hle2
      generalize qs[k].l.length = m at hcell H hle2
      generalize qs[k].A = A' at hcell
      generalize qs[k].c = c' at hcell
      generalize totP (qs.take k) = x at H hle hle2
      clear hkl
      go_wp2
      go_round
      case rel => exact ⟨k + 1, by omega, by go_num, by rw [H.out]; go_num⟩
      case measure => simp [intOf]; omega
    · obtain rfl : k = N := by omega
      have H := Lib.hid (show qs.take k = qs from List.take_of_length_le (by have := HN.out; omega))
      rw [H.out]
      go_wp2_with fail
      refine (growL_nil _ _ ht).mono ?_
      rintro e w1 ⟨A1, c1, rfl, hown0, hb1⟩
      go_wp2
      go_loopw [6, 27] (fun v i wr => ∃ (j : Nat) (A2 : Option Addr) (c2 : Nat), j ≤ k ∧ i = .int .i64 j ∧ v = .slice A2 (totP (qs.take j)) c2 ∧ OwnLs w.heap.size wr A2 (totP (qs.take j)) c2 (catP (qs.take j)) ∧ Below w.heap.size w wr) (fun _ i _ => k - (intOf i).toNat)
      case atStart => exact ⟨0, A1, c1, by omega, rfl, rfl, hown0, hb1⟩
      case round =>
        obtain ⟨j, A2, c2, hj, rfl, rfl, hown, hb⟩ := hrel
        have hle3 := totP_le qs j
        by_cases hlt2 : j < k
        · have hkl : j < qs.length := by have := HN.out; omega
          have hP := h.below hb
          have hcell := (hP j hkl).1
          have hbs := (hP j hkl).2
          have H1 := Lib.hid (totP_next hkl)
          have H2 := Lib.hid (catP_next hkl)
          have hle2 := totP_le qs (j + 1)
          rw [totP_next hkl] at hle2
          generalize qs[j] = p at hcell H1 H2 hle2 hbs
          clear hP
          clear hkl
          generalize totP (qs.take j) = x at H1 hle3 hle2 hown
          generalize catP (qs.take j) = y at H2 hown
          go_wp2_with (at_builtin; refine wpList_appG lesP (by decide) (by decide) (by kernel_rfl) rfl (.tmp 31) (.tmp 32) rfl rfl hown rfl hbs (by omega) (by have := hb.size; omega) ?_; intro A3 c3 w3 happ)
          go_roundw
          case rel => exact ⟨j + 1, A3, c3, by omega, by go_num, by rw [H1.out], by rw [H1.out, H2.out]; exact happ.1, hb.trans happ.2.1⟩
          case measure => simp [intOf]; omega
        · obtain rfl : j = k := by omega
          go_wp2
          go_ret
          rw [H.out] at hown
          exact ⟨A2, c2, by rw [H.out]; rfl, hown, hb⟩
end Go.Proofs.Ytniocdbapkkdhaa.Bw
