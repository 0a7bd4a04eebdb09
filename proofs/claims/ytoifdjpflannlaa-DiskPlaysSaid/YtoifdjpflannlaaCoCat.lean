/- What bytes.Clone, slices.Grow of nil and slices.Concat at []byte come to. Conditions: all bytes together at most 2^47. -/
import Derived.Test.YtoifdjpflannlaaCoLeaf
import Derived.Lib.AppendZeros
import Derived.Lib.SliceRun
namespace Go.Proofs.Ytoifdjpflannlaa.Cw
open Go.RowKit Co By

set_option maxHeartbeats 400000 in
theorem clone_any (A : Option Addr) (n c : Nat) (l : List UInt8) (w : World) (h : Bs w A n c l) (hn : n ≤ 140737488355328) :
    Calls Try.prog 59 #[.slice A n c] w (RB 5 w n l fun x => x) := by
  have q : ∀ (w : World) (a : Option Addr) (n c n' c' : Nat), (binOp .eql 35 (.slice a n c) (.slice none n' c')).run Try.prog w = .ok (.bool a.isNone) w := fun w a n c n' c' => Lib.run_eql_slice_nil w _ _ a n c n' c' Try.underlying35
  have hl := Lib.hid h.len
  cases A with
  | none =>
    have h0 : n = 0 := by
      rcases Nat.eq_zero_or_pos n with h0 | h0
      · exact h0
      · obtain ⟨b, o, e, _⟩ := h.at_ h0
        cases e
    subst h0
    obtain rfl : l = [] := List.length_eq_zero_iff.1 hl.out
    clear hl
    go_enter Try.func59, Try.ntmps59
    go_wp2
    go_ret
    exact ⟨none, 0, rfl, Own.nil _ _ _, Below.refl _ _⟩
  | some a =>
    go_enter Try.func59, Try.ntmps59
    go_wp2_with (at_builtin; refine wpList_app byP rfl (.tmp 5) (.tmp 6) rfl rfl (Own.lit0 5 w) rfl (h.alloc _) (by omega) (by simp) ?_; intro A' c' w2 hown2 hb2 _ _)
    go_ret
    exact ⟨A', c', by simp, by simpa using hown2, ((Below.refl _ _).alloc (Nat.le_refl _) _).trans hb2⟩

theorem grow_nil (n : Nat) (w : World) (hn : n ≤ 140737488355328) :
    Calls Try.prog 74 #[.slice none 0 0, .int .i64 (n : Int)] w (RB 5 w 0 [] fun x => x) := by
  by_cases h0 : n = 0
  · subst h0
    go_enter Try.func74, Try.ntmps74
    go_wp2
    go_ret
    exact ⟨none, 0, rfl, Own.nil _ _ _, Below.refl _ _⟩
  · have hpos : 0 < n := by omega
    obtain ⟨i0, hi0, hz0, hz1, hz2⟩ := info_parts byP.hi
    have hrun := fun ty => Lib.run_append_nil_zeros (P := Try.prog) w 35 3 ty 5 i0 _ .i64 .i64 Try.underlying35 Try.underlying3 hi0 hz0 n hpos (by omega) (by omega) (by rw [hz2]; omega)
    have hge := grownCap_ge w n 0 5
    have hcm := grownCap_le_maxLen w n 0 5 (by unfold maxLen; omega)
    generalize grownCap w n 0 5 = G at hrun hge hcm
    generalize hcs : (Builtin.zeroCells (Value.int IntKind.u8 0).cells n ++ Builtin.zeroCells (Value.int IntKind.u8 0).cells (G - n)) = cs at hrun
    have hsz : cs.size = G := by
      rw [← hcs, Array.size_append, size_zeroCells, size_zeroCells]
      show n * 1 + (G - n) * 1 = G
      omega
    have HR := Lib.hid hrun
    have HS := Lib.hid hsz
    have HM := Lib.hid hcm
    have hcm2 : G ≤ 9223372036854775807 := by unfold maxLen at hcm; omega
    clear hrun hsz hcm hcs hi0 hz0 hz1 hz2 h0
    go_enter Try.func74, Try.ntmps74
    go_wp2_with (at_builtin; refine Lib.wpList_append_run _ rfl (.tmp 20) (.tmp 21) _ _ rfl _ _ rfl rfl _ _ (HR.out _) ?_)
    go_ret
    exact ⟨some ⟨w.heap.size, 0, none⟩, G, rfl, (World.ownsRow_made w cs G (Nat.le_refl _) HM.out (by rw [HS.out, Nat.mul_one])).drew, ((Below.refl _ _).alloc (Nat.le_refl _) _).drew⟩

/-- A part of a list of bytes. -/
structure Part where
  A : Option Addr
  c : Nat
  l : List UInt8
def PartsAt (w : World) (b o : Nat) (ps : List Part) : Prop :=
  ∀ i (h : i < ps.length), w.cell? ⟨b, o + i, none⟩ = some (.slice ps[i].A ps[i].l.length ps[i].c) ∧ Bs w ps[i].A ps[i].l.length ps[i].c ps[i].l
theorem PartsAt.below {w w' : World} {b o : Nat} {ps : List Part} (h : PartsAt w b o ps) (hb : Below w.heap.size w w') : PartsAt w' b o ps := fun i hi =>
  ⟨(hb.cell (World.block_lt_of_cell? w _ (h i hi).1)).trans (h i hi).1, (h i hi).2.below hb⟩
def totL (ps : List Part) : Nat := (ps.map fun p => p.l.length).sum
def catL (ps : List Part) : List UInt8 := ps.flatMap (·.l)
theorem tot_next {ps : List Part} {k : Nat} (h : k < ps.length) : totL (ps.take (k + 1)) = totL (ps.take k) + (ps[k]).l.length := by
  unfold totL
  rw [List.take_succ_eq_append_getElem h]
  simp only [List.map_append, List.sum_append, List.map_cons, List.map_nil, List.sum_cons, List.sum_nil, Nat.add_zero]
theorem cat_next {ps : List Part} {k : Nat} (h : k < ps.length) : catL (ps.take (k + 1)) = catL (ps.take k) ++ (ps[k]).l := by
  unfold catL
  rw [List.take_succ_eq_append_getElem h, List.flatMap_append]
  simp only [List.flatMap_cons, List.flatMap_nil, List.append_nil]
theorem tot_le (ps : List Part) (k : Nat) : totL (ps.take k) ≤ totL ps := by
  have h : totL (ps.take k) + totL (ps.drop k) = totL ps := by
    unfold totL
    rw [← List.sum_append, ← List.map_append, List.take_append_drop]
  omega
theorem cat_len (ps : List Part) : (catL ps).length = totL ps := by
  unfold catL totL
  rw [List.length_flatMap]

set_option maxHeartbeats 1000000 in
theorem concat_any (b o N c : Nat) (ps : List Part) (w : World) (h : PartsAt w b o ps) (hN : ps.length = N) (hc : c ≤ 9223372036854775807) (hNc : N ≤ c) (ht : totL ps ≤ 140737488355328) :
    Calls Try.prog 47 #[.slice (some ⟨b, o, none⟩) N c] w (RB 5 w (totL ps) (catL ps) fun x => x) := by
  have HN := Lib.hid hN
  clear hN
  go_enter Try.func47, Try.ntmps47
  go_wp2
  go_loop [3, 11] (fun v i => ∃ k : Nat, k ≤ N ∧ i = .int .i64 k ∧ v = .int .i64 (totL (ps.take k) : Nat)) (fun _ i => N - (intOf i).toNat)
  case atStart => exact ⟨0, by omega, rfl, rfl⟩
  case round =>
    obtain ⟨k, hk, rfl, rfl⟩ := hrel
    have hle := tot_le ps k
    by_cases hlt : k < N
    · have hkl : k < ps.length := by have := HN.out; omega
      have hcell := (h k hkl).1
      have H := Lib.hid (tot_next hkl)
      have hle2 := tot_le ps (k + 1)
      rw [tot_next hkl] at hle2
      generalize ps[k].l.length = m at hcell H hle2
      generalize ps[k].A = A' at hcell
      generalize ps[k].c = c' at hcell
      generalize totL (ps.take k) = x at H hle hle2
      clear hkl
      go_wp2
      go_round
      case rel => exact ⟨k + 1, by omega, by go_num, by rw [H.out]; go_num⟩
      case measure => simp [intOf]; omega
    · obtain rfl : k = N := by omega
      have H := Lib.hid (show ps.take k = ps from List.take_of_length_le (by have := HN.out; omega))
      rw [H.out]
      go_wp2_with fail
      refine (grow_nil _ _ ht).mono ?_
      rintro e w1 ⟨A1, c1, rfl, hown0, hb1⟩
      go_wp2
      go_loopw [6, 27] (fun v i wr => ∃ (j : Nat) (A2 : Option Addr) (c2 : Nat), j ≤ k ∧ i = .int .i64 j ∧ v = .slice A2 (totL (ps.take j)) c2 ∧ Own 5 w.heap.size wr A2 (totL (ps.take j)) c2 (catL (ps.take j)) ∧ Below w.heap.size w wr) (fun _ i _ => k - (intOf i).toNat)
      case atStart => exact ⟨0, A1, c1, by omega, rfl, rfl, hown0, hb1⟩
      case round =>
        obtain ⟨j, A2, c2, hj, rfl, rfl, hown, hb⟩ := hrel
        have hle3 := tot_le ps j
        by_cases hlt2 : j < k
        · have hkl : j < ps.length := by have := HN.out; omega
          have hP := h.below hb
          have hcell := (hP j hkl).1
          have hbs := (hP j hkl).2
          have H1 := Lib.hid (tot_next hkl)
          have H2 := Lib.hid (cat_next hkl)
          have hle2 := tot_le ps (j + 1)
          rw [tot_next hkl] at hle2
          generalize ps[j] = p at hcell H1 H2 hle2 hbs
          clear hP
          clear hkl
          generalize totL (ps.take j) = x at H1 hle3 hle2 hown
          generalize catL (ps.take j) = y at H2 hown
          go_wp2_with (at_builtin; refine wpList_app byP rfl (.tmp 31) (.tmp 32) rfl rfl hown rfl hbs (by omega) (by have := hb.size; omega) ?_; intro A3 c3 w3 hown3 hb3 _ _)
          go_roundw
          case rel => exact ⟨j + 1, A3, c3, by omega, by go_num, by rw [H1.out], by rw [H1.out, H2.out]; exact hown3, hb.trans hb3⟩
          case measure => simp [intOf]; omega
        · obtain rfl : j = k := by omega
          go_wp2
          go_ret
          rw [H.out] at hown
          exact ⟨A2, c2, by rw [H.out]; rfl, hown, hb⟩
end Go.Proofs.Ytoifdjpflannlaa.Cw
