/- What slices.Clone, slices.Grow of nil and slices.Concat come to at disk's entries and files. For up to 100000 of them. -/
import Derived.Test.YtoifdjpflannlaaDwNormy
import Derived.Lib.AppendZeros
import Derived.Lib.SliceRun
set_option maxRecDepth 8000
namespace Go.Proofs.Ytoifdjpflannlaa.Dw
open Go.RowKit By Dk

/-- A part of a list. -/
structure PartG (α : Type) where
  A : Option Addr
  c : Nat
  l : List α
section
variable {α : Type} (Y : Lay α)
def PartsG (U : Nat) (w : World) (b o : Nat) (ps : List (PartG α)) : Prop :=
  b < U ∧ ∀ i (h : i < ps.length), w.cell? ⟨b, o + i, none⟩ = some (.slice ps[i].A ps[i].l.length ps[i].c) ∧ RdG Y U w ps[i].A ps[i].l.length ps[i].c ps[i].l
end
theorem PartsG.below {α : Type} {Y : Lay α} {U : Nat} {w w' : World} {b o : Nat} {ps : List (PartG α)} (h : PartsG Y U w b o ps) (hb : Below U w w') : PartsG Y U w' b o ps := ⟨h.1, fun i hi =>
  ⟨(hb.cell (p := ⟨b, o + i, none⟩) h.1).trans (h.2 i hi).1, (h.2 i hi).2.below hb⟩⟩
section
variable {α : Type}
def totG (ps : List (PartG α)) : Nat := (ps.map fun p => p.l.length).sum
def catG (ps : List (PartG α)) : List α := ps.flatMap (·.l)
theorem totG_next {ps : List (PartG α)} {k : Nat} (h : k < ps.length) : totG (ps.take (k + 1)) = totG (ps.take k) + (ps[k]).l.length := by
  unfold totG
  rw [List.take_succ_eq_append_getElem h]
  simp only [List.map_append, List.sum_append, List.map_cons, List.map_nil, List.sum_cons, List.sum_nil, Nat.add_zero]
theorem catG_next {ps : List (PartG α)} {k : Nat} (h : k < ps.length) : catG (ps.take (k + 1)) = catG (ps.take k) ++ (ps[k]).l := by
  unfold catG
  rw [List.take_succ_eq_append_getElem h, List.flatMap_append]
  simp only [List.flatMap_cons, List.flatMap_nil, List.append_nil]
theorem totG_le (ps : List (PartG α)) (k : Nat) : totG (ps.take k) ≤ totG ps := by
  have h : totG (ps.take k) + totG (ps.drop k) = totG ps := by
    unfold totG
    rw [← List.sum_append, ← List.map_append, List.take_append_drop]
  omega
end
/-- A call that answers a row of its own. -/
def RG {α : Type} (Y : Lay α) (e : Nat) (w : World) (n : Nat) (l : List α) (en : Ending) (w' : World) : Prop := ∃ A c, en = .returned (.slice A n c) ∧ OwnG Y e w.heap.size w' A n c l ∧ Below w.heap.size w w'
theorem OwnG.lit0 {α : Type} {Y : Lay α} (e : Nat) (w : World) : OwnG Y e w.heap.size (w.alloc (.cells #[] e)) (some ⟨w.heap.size, 0, none⟩) 0 0 ([] : List α) := ⟨World.ownsRow_lit w #[] 0 (Nat.le_refl _) (by unfold maxLen; omega) (by simp), rfl⟩

set_option maxHeartbeats 400000 in
theorem cloneE_any (U : Nat) (A : Option Addr) (n c : Nat) (l : List E) (w : World) (h : RdG layE U w A n c l) (hU : U ≤ w.heap.size) (hn : n ≤ 100000) :
    Calls Try.prog 88 #[.slice A n c] w (RG layE 68 w n l) := by
  have q : ∀ (w : World) (a : Option Addr) (n c n' c' : Nat), (binOp .eql 23 (.slice a n c) (.slice none n' c')).run Try.prog w = .ok (.bool a.isNone) w := fun w a n c n' c' => Lib.run_eql_slice_nil w _ _ a n c n' c' Try.underlying23
  cases A with
  | none =>
    obtain ⟨rfl, rfl⟩ := nil_of h
    clear h
    go_enter Try.func88, Try.ntmps88
    go_wp2
    go_ret
    exact ⟨none, 0, rfl, OwnG.nil _ _ _, Below.refl _ _⟩
  | some a =>
    have hlit := OwnG.lit0 (Y := layE) 68 w
    have hr := h.below (w' := w.alloc (.cells #[] 68)) (((Below.refl _ _).alloc (Nat.le_refl _) _).mono hU)
    go_enter Try.func88, Try.ntmps88
    go_wp2_with (at_builtin; refine wpList_appG entP (by decide) (by decide) (by kernel_rfl) rfl (.tmp 5) (.tmp 6) rfl rfl hlit rfl hr (by omega) (by simp) ?_; intro A' c' w2 happ)
    go_ret
    exact ⟨A', c', by simp, by simpa using happ.1, ((Below.refl _ _).alloc (Nat.le_refl _) _).trans happ.2.1⟩

theorem growE_nil (n : Nat) (w : World) (hn : n ≤ 100000) :
    Calls Try.prog 97 #[.slice none 0 0, .int .i64 (n : Int)] w (RG layE 68 w 0 []) := by
  by_cases h0 : n = 0
  · subst h0
    go_enter Try.func97, Try.ntmps97
    go_wp2
    go_ret
    exact ⟨none, 0, rfl, OwnG.nil _ _ _, Below.refl _ _⟩
  · have hpos : 0 < n := by omega
    obtain ⟨i0, hi0, hz0, hz1, hz2⟩ := info_parts entP.hi
    have hrun := fun ty => Lib.run_append_nil_zeros (P := Try.prog) w 23 3 ty 68 i0 _ .i64 .i64 Try.underlying23 Try.underlying3 hi0 hz0 n hpos (by rw [hz1]; decide) (by omega) (by rw [hz2]; omega)
    have hge := grownCap_ge w n 0 68
    have hcm := grownCap_le_maxLen w n 0 68 (by unfold maxLen; omega)
    generalize grownCap w n 0 68 = G at hrun hge hcm
    generalize hcs : (Builtin.zeroCells (Value.agg #[.string ⟨#[]⟩, .int .i64 0]).cells n ++ Builtin.zeroCells (Value.agg #[.string ⟨#[]⟩, .int .i64 0]).cells (G - n)) = cs at hrun
    have hsz : cs.size = G * 2 := by
      rw [← hcs, Array.size_append, size_zeroCells, size_zeroCells, show (Value.agg #[.string ⟨#[]⟩, .int .i64 0]).cells.size = 2 by kernel_rfl]
      omega
    have HR := Lib.hid hrun
    have HS := Lib.hid hsz
    have HM := Lib.hid hcm
    have hcm2 : G ≤ 9223372036854775807 := by unfold maxLen at hcm; omega
    clear hrun hsz hcm hcs hi0 hz0 hz1 hz2 h0
    go_enter Try.func97, Try.ntmps97
    go_wp2_with (at_builtin; refine Lib.wpList_append_run _ rfl (.tmp 20) (.tmp 21) _ _ rfl _ _ rfl rfl _ _ (HR.out _) ?_)
    go_ret
    exact ⟨some ⟨w.heap.size, 0, none⟩, G, rfl, ⟨(World.ownsRow_made w cs G (Nat.le_refl _) HM.out (by rw [HS.out]; rfl)).drew, rfl⟩, ((Below.refl _ _).alloc (Nat.le_refl _) _).drew⟩

set_option maxHeartbeats 1000000 in
theorem concatE_any (U b o N c : Nat) (ps : List (PartG E)) (w : World) (h : PartsG layE U w b o ps) (hU : U ≤ w.heap.size) (hN : ps.length = N) (hc : c ≤ 9223372036854775807) (hNc : N ≤ c) (ht : totG ps ≤ 100000) :
    Calls Try.prog 86 #[.slice (some ⟨b, o, none⟩) N c] w (RG layE 68 w (totG ps) (catG ps)) := by
  have HN := Lib.hid hN
  clear hN
  go_enter Try.func86, Try.ntmps86
  go_wp2
  go_loop [3, 11] (fun v i => ∃ k : Nat, k ≤ N ∧ i = .int .i64 k ∧ v = .int .i64 (totG (ps.take k) : Nat)) (fun _ i => N - (intOf i).toNat)
  case atStart => exact ⟨0, by omega, rfl, rfl⟩
  case round =>
    obtain ⟨k, hk, rfl, rfl⟩ := hrel
    have hle := totG_le ps k
    by_cases hlt : k < N
    · have hkl : k < ps.length := by have := HN.out; omega
      have hcell := (h.2 k hkl).1
      have H := Lib.hid (totG_next hkl)
      have hle2 := totG_le ps (k + 1)
      rw [totG_next hkl] at hle2
      generalize ps[k].l.length = m at hcell H hle2
      generalize ps[k].A = A' at hcell
      generalize ps[k].c = c' at hcell
      generalize totG (ps.take k) = x at H hle hle2
      clear hkl
      go_wp2
      go_round
      case rel => exact ⟨k + 1, by omega, by go_num, by rw [H.out]; go_num⟩
      case measure => simp [intOf]; omega
    · obtain rfl : k = N := by omega
      have H := Lib.hid (show ps.take k = ps from List.take_of_length_le (by have := HN.out; omega))
      rw [H.out]
      go_wp2_with fail
      refine (growE_nil _ _ ht).mono ?_
      rintro e w1 ⟨A1, c1, rfl, hown0, hb1⟩
      go_wp2
      go_loopw [6, 27] (fun v i wr => ∃ (j : Nat) (A2 : Option Addr) (c2 : Nat), j ≤ k ∧ i = .int .i64 j ∧ v = .slice A2 (totG (ps.take j)) c2 ∧ OwnG layE 68 w.heap.size wr A2 (totG (ps.take j)) c2 (catG (ps.take j)) ∧ Below w.heap.size w wr) (fun _ i _ => k - (intOf i).toNat)
      case atStart => exact ⟨0, A1, c1, by omega, rfl, rfl, hown0, hb1⟩
      case round =>
        obtain ⟨j, A2, c2, hj, rfl, rfl, hown, hb⟩ := hrel
        have hle3 := totG_le ps j
        by_cases hlt2 : j < k
        · have hkl : j < ps.length := by have := HN.out; omega
          have hP := h.below (hb.mono hU)
          have hcell := (hP.2 j hkl).1
          have hbs := (hP.2 j hkl).2
          have H1 := Lib.hid (totG_next hkl)
          have H2 := Lib.hid (catG_next hkl)
          have hle2 := totG_le ps (j + 1)
          rw [totG_next hkl] at hle2
          generalize ps[j] = p at hcell H1 H2 hle2 hbs
          clear hP
          clear hkl
          generalize totG (ps.take j) = x at H1 hle3 hle2 hown
          generalize catG (ps.take j) = y at H2 hown
          go_wp2_with (at_builtin; refine wpList_appG entP (by decide) (by decide) (by kernel_rfl) rfl (.tmp 31) (.tmp 32) rfl rfl hown rfl hbs (by omega) (by have := hb.size; omega) ?_; intro A3 c3 w3 happ)
          go_roundw
          case rel => exact ⟨j + 1, A3, c3, by omega, by go_num, by rw [H1.out], by rw [H1.out, H2.out]; exact happ.1, hb.trans happ.2.1⟩
          case measure => simp [intOf]; omega
        · obtain rfl : j = k := by omega
          go_wp2
          go_ret
          rw [H.out] at hown
          exact ⟨A2, c2, by rw [H.out]; rfl, hown, hb⟩

set_option maxHeartbeats 400000 in
theorem cloneF_any (U : Nat) (A : Option Addr) (n c : Nat) (l : List Fv) (w : World) (h : RdG layF U w A n c l) (hU : U ≤ w.heap.size) (hn : n ≤ 100000) :
    Calls Try.prog 56 #[.slice A n c] w (RG layF 58 w n l) := by
  have q : ∀ (w : World) (a : Option Addr) (n c n' c' : Nat), (binOp .eql 22 (.slice a n c) (.slice none n' c')).run Try.prog w = .ok (.bool a.isNone) w := fun w a n c n' c' => Lib.run_eql_slice_nil w _ _ a n c n' c' Try.underlying22
  cases A with
  | none =>
    obtain ⟨rfl, rfl⟩ := nil_of h
    clear h
    go_enter Try.func56, Try.ntmps56
    go_wp2
    go_ret
    exact ⟨none, 0, rfl, OwnG.nil _ _ _, Below.refl _ _⟩
  | some a =>
    have hlit := OwnG.lit0 (Y := layF) 58 w
    have hr := h.below (w' := w.alloc (.cells #[] 58)) (((Below.refl _ _).alloc (Nat.le_refl _) _).mono hU)
    go_enter Try.func56, Try.ntmps56
    go_wp2_with (at_builtin; refine wpList_appG filP (by decide) (by decide) (by kernel_rfl) rfl (.tmp 5) (.tmp 6) rfl rfl hlit rfl hr (by omega) (by simp) ?_; intro A' c' w2 happ)
    go_ret
    exact ⟨A', c', by simp, by simpa using happ.1, ((Below.refl _ _).alloc (Nat.le_refl _) _).trans happ.2.1⟩

theorem growF_nil (n : Nat) (w : World) (hn : n ≤ 100000) :
    Calls Try.prog 94 #[.slice none 0 0, .int .i64 (n : Int)] w (RG layF 58 w 0 []) := by
  by_cases h0 : n = 0
  · subst h0
    go_enter Try.func94, Try.ntmps94
    go_wp2
    go_ret
    exact ⟨none, 0, rfl, OwnG.nil _ _ _, Below.refl _ _⟩
  · have hpos : 0 < n := by omega
    obtain ⟨i0, hi0, hz0, hz1, hz2⟩ := info_parts filP.hi
    have hrun := fun ty => Lib.run_append_nil_zeros (P := Try.prog) w 22 3 ty 58 i0 _ .i64 .i64 Try.underlying22 Try.underlying3 hi0 hz0 n hpos (by rw [hz1]; decide) (by omega) (by rw [hz2]; omega)
    have hge := grownCap_ge w n 0 58
    have hcm := grownCap_le_maxLen w n 0 58 (by unfold maxLen; omega)
    generalize grownCap w n 0 58 = G at hrun hge hcm
    generalize hcs : (Builtin.zeroCells (Value.agg #[.slice none 0 0, .int .i64 0]).cells n ++ Builtin.zeroCells (Value.agg #[.slice none 0 0, .int .i64 0]).cells (G - n)) = cs at hrun
    have hsz : cs.size = G * 2 := by
      rw [← hcs, Array.size_append, size_zeroCells, size_zeroCells, show (Value.agg #[.slice none 0 0, .int .i64 0]).cells.size = 2 by kernel_rfl]
      omega
    have HR := Lib.hid hrun
    have HS := Lib.hid hsz
    have HM := Lib.hid hcm
    have hcm2 : G ≤ 9223372036854775807 := by unfold maxLen at hcm; omega
    clear hrun hsz hcm hcs hi0 hz0 hz1 hz2 h0
    go_enter Try.func94, Try.ntmps94
    go_wp2_with (at_builtin; refine Lib.wpList_append_run _ rfl (.tmp 20) (.tmp 21) _ _ rfl _ _ rfl rfl _ _ (HR.out _) ?_)
    go_ret
    exact ⟨some ⟨w.heap.size, 0, none⟩, G, rfl, ⟨(World.ownsRow_made w cs G (Nat.le_refl _) HM.out (by rw [HS.out]; rfl)).drew, rfl⟩, ((Below.refl _ _).alloc (Nat.le_refl _) _).drew⟩

set_option maxHeartbeats 1000000 in
theorem concatF_any (U b o N c : Nat) (ps : List (PartG Fv)) (w : World) (h : PartsG layF U w b o ps) (hU : U ≤ w.heap.size) (hN : ps.length = N) (hc : c ≤ 9223372036854775807) (hNc : N ≤ c) (ht : totG ps ≤ 100000) :
    Calls Try.prog 77 #[.slice (some ⟨b, o, none⟩) N c] w (RG layF 58 w (totG ps) (catG ps)) := by
  have HN := Lib.hid hN
  clear hN
  go_enter Try.func77, Try.ntmps77
  go_wp2
  go_loop [3, 11] (fun v i => ∃ k : Nat, k ≤ N ∧ i = .int .i64 k ∧ v = .int .i64 (totG (ps.take k) : Nat)) (fun _ i => N - (intOf i).toNat)
  case atStart => exact ⟨0, by omega, rfl, rfl⟩
  case round =>
    obtain ⟨k, hk, rfl, rfl⟩ := hrel
    have hle := totG_le ps k
    by_cases hlt : k < N
    · have hkl : k < ps.length := by have := HN.out; omega
      have hcell := (h.2 k hkl).1
      have H := Lib.hid (totG_next hkl)
      have hle2 := totG_le ps (k + 1)
      rw [totG_next hkl] at hle2
      generalize ps[k].l.length = m at hcell H hle2
      generalize ps[k].A = A' at hcell
      generalize ps[k].c = c' at hcell
      generalize totG (ps.take k) = x at H hle hle2
      clear hkl
      go_wp2
      go_round
      case rel => exact ⟨k + 1, by omega, by go_num, by rw [H.out]; go_num⟩
      case measure => simp [intOf]; omega
    · obtain rfl : k = N := by omega
      have H := Lib.hid (show ps.take k = ps from List.take_of_length_le (by have := HN.out; omega))
      rw [H.out]
      go_wp2_with fail
      refine (growF_nil _ _ ht).mono ?_
      rintro e w1 ⟨A1, c1, rfl, hown0, hb1⟩
      go_wp2
      go_loopw [6, 27] (fun v i wr => ∃ (j : Nat) (A2 : Option Addr) (c2 : Nat), j ≤ k ∧ i = .int .i64 j ∧ v = .slice A2 (totG (ps.take j)) c2 ∧ OwnG layF 58 w.heap.size wr A2 (totG (ps.take j)) c2 (catG (ps.take j)) ∧ Below w.heap.size w wr) (fun _ i _ => k - (intOf i).toNat)
      case atStart => exact ⟨0, A1, c1, by omega, rfl, rfl, hown0, hb1⟩
      case round =>
        obtain ⟨j, A2, c2, hj, rfl, rfl, hown, hb⟩ := hrel
        have hle3 := totG_le ps j
        by_cases hlt2 : j < k
        · have hkl : j < ps.length := by have := HN.out; omega
          have hP := h.below (hb.mono hU)
          have hcell := (hP.2 j hkl).1
          have hbs := (hP.2 j hkl).2
          have H1 := Lib.hid (totG_next hkl)
          have H2 := Lib.hid (catG_next hkl)
          have hle2 := totG_le ps (j + 1)
          rw [totG_next hkl] at hle2
          generalize ps[j] = p at hcell H1 H2 hle2 hbs
          clear hP
          clear hkl
          generalize totG (ps.take j) = x at H1 hle3 hle2 hown
          generalize catG (ps.take j) = y at H2 hown
          go_wp2_with (at_builtin; refine wpList_appG filP (by decide) (by decide) (by kernel_rfl) rfl (.tmp 31) (.tmp 32) rfl rfl hown rfl hbs (by omega) (by have := hb.size; omega) ?_; intro A3 c3 w3 happ)
          go_roundw
          case rel => exact ⟨j + 1, A3, c3, by omega, by go_num, by rw [H1.out], by rw [H1.out, H2.out]; exact happ.1, hb.trans happ.2.1⟩
          case measure => simp [intOf]; omega
        · obtain rfl : j = k := by omega
          go_wp2
          go_ret
          rw [H.out] at hown
          exact ⟨A2, c2, by rw [H.out]; rfl, hown, hb⟩
end Go.Proofs.Ytoifdjpflannlaa.Dw
