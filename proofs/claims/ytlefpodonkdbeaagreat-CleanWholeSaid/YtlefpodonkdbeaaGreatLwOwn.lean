/- A row of leases that the call owns, as the sort has it and back; one lease stored in it, its end cleared; slices.Clone. For rows of less than a million leases. -/
import Derived.Test.YtlefpodonkdbeaaGreatLwA
import Derived.Laws.CopyRow
set_option maxRecDepth 8000
namespace Go.Proofs.YtlefpodonkdbeaaGreat.Lw
open Go.RowKit Go.Lib Co By Ky Rc Jn Ew Jw
open Dw (ba ba_size ba_data ba_list)
open Go.Sort (grow)

theorem below_grow (w : World) (k : Nat) (os : Array Obj) : Below w.heap.size w (grow (w.drewN k) os) :=
  ⟨rfl, rfl, rfl, by rw [Sort.size_grow]; show w.heap.size ≤ w.heap.size + _; omega, fun i hi => Sort.heap_grow_old (w.drewN k) os hi⟩
theorem own_lt {B g n c : Nat} {w : World} {l : List L} (h : OwnLs B w (some ⟨g, 0, none⟩) n c l) : g < w.heap.size ∧ B ≤ g := by
  have := World.ownsRow.lt h.1 g rfl
  exact ⟨this.2, this.1⟩
theorem flat_get {l : List L} {t : Nat} (h : t < l.length * 4) : (Sort.flatK layL.cs 4 l.toArray)[t]! = (layL.cells l)[t]'(by rw [layL.cells_len]; exact h) := by
  have hi : t / 4 < l.length := by omega
  rw [Sort.get_flatK _ _ _ _ (by simpa using h), getElem!_pos l.toArray (t / 4) (by simpa using hi)]
  have e : l.toArray[t / 4]'(by simpa using hi) = l[t / 4] := by simp
  rw [e]
  have hj : t % 4 < (layL.cs l[t / 4]).length := by rw [layL.len]; exact Nat.mod_lt _ (by decide)
  rw [getElem!_pos (layL.cs l[t / 4]) (t % 4) hj]
  have := layL.cells_get hi (List.getElem?_eq_getElem hj)
  rw [show t / 4 * layL.s + t % 4 = t from by show t / 4 * 4 + t % 4 = t; omega] at this
  obtain ⟨_, e2⟩ := List.getElem?_eq_some_iff.1 this
  exact e2.symm
theorem own_holds {B g n c : Nat} {w : World} {l : List L} (h : OwnLs B w (some ⟨g, 0, none⟩) n c l) : Sort.HoldsK layL.cs 4 w g 0 l.toArray := by
  intro t ht
  have ht2 : t < l.length * 4 := by simpa using ht
  have h4 : t < n * 4 := by rw [← h.2]; exact ht2
  refine ⟨?_, ?_⟩
  · rw [flat_get ht2, Nat.zero_add, World.ownsRow.cellAt h.1 t h4, List.getElem?_eq_getElem]
    rfl
  · rcases h.1.2 with ⟨h', _⟩ | ⟨g', cap, cur, h', _, hg, _⟩
    · cases h'
    · simp only [Value.slice.injEq, Option.some.injEq, Addr.mk.injEq, and_true, true_and] at h'
      obtain ⟨rfl, rfl⟩ := h'
      simp [World.frozen?, hg]
theorem own_row {B g n c : Nat} {w : World} {l : List L} (h : OwnLs B w (some ⟨g, 0, none⟩) n c l) (hn : n < 1000000) : Rw w g 0 n :=
  ⟨⟨l, h.2, fun _ => rfl, fun x v hv => layL.one x v hv, own_holds h, (own_lt h).1⟩, hn⟩
/-- The row behind the sort is the call's own as before. -/
theorem own_of_sw {B g n c : Nat} {w W : World} {l0 l : List L} (h : OwnLs B w (some ⟨g, 0, none⟩) n c l0) (hS : Sw w g 0 l W) (hl : l.length = n) : OwnLs B W (some ⟨g, 0, none⟩) n c l ∧ w.grownBy W (some g) := by
  obtain ⟨hlt, hB⟩ := own_lt h
  have hh := hS.holds hlt (own_holds h) (by simp [hl, h.2])
  rcases h.1.2 with ⟨h', _⟩ | ⟨g', cap, cur, h', hBg, hg, hnc, hcm, hcs, htake⟩
  · cases h'
  simp only [Value.slice.injEq, Option.some.injEq, Addr.mk.injEq, and_true, true_and] at h'
  obtain ⟨rfl, rfl⟩ := h'
  obtain ⟨k, os, rfl⟩ := hS
  have hb : ∀ i, i < w.heap.size → (sortWorldK layL.cs 4 w g 0 k l.toArray os).heap[i]? = if g = i then (w.heap[i]?).map (Sort.onCells (Sort.putCells id 0 (Sort.flatK layL.cs 4 l.toArray))) else w.heap[i]? := fun i hi => by
    unfold sortWorldK
    rw [Sort.heap_grow_old _ _ (by rw [Sort.size_putRowK]; exact hi)]
    show (Array.modify w.heap g _)[i]? = _
    rw [Array.getElem?_modify]
  have hgh := hb g hlt
  rw [if_pos rfl, hg] at hgh
  have hgh2 : (sortWorldK layL.cs 4 w g 0 k l.toArray os).heap[g]? = some (.cells (Sort.putCells id 0 (Sort.flatK layL.cs 4 l.toArray) cur) 56 (0, 0)) := hgh
  have hsz : (Sort.putCells id 0 (Sort.flatK layL.cs 4 l.toArray) cur).size = cur.size := by simp [Sort.putCells]
  refine ⟨⟨⟨by rw [layL.cells_len, hl], .inr ⟨g, c, _, rfl, hBg, hgh2, hnc, hcm, by rw [hsz, hcs], ?_⟩⟩, hl⟩, ⟨rfl, rfl, rfl, ?_, fun i hi hne => ?_⟩⟩
  · show List.take (n * 4) _ = _
    refine List.ext_getElem? fun t => ?_
    rcases Nat.lt_or_ge t (n * 4) with ht | ht
    · have ht2 : t < l.length * 4 := by rw [hl]; exact ht
      have := (hh t (by simpa using ht2)).1
      rw [flat_get ht2, Nat.zero_add] at this
      unfold World.cell? at this
      rw [hgh2] at this
      rw [List.getElem?_take_of_lt ht, List.getElem?_eq_getElem (l := layL.cells l) (by rw [layL.cells_len]; exact ht2)]
      simpa using this
    · rw [List.getElem?_eq_none (by rw [List.length_take]; exact Nat.le_trans (Nat.min_le_left _ _) ht), List.getElem?_eq_none (by rw [layL.cells_len, hl]; exact ht)]
  · unfold sortWorldK
    rw [Sort.size_grow, Sort.size_putRowK]
    show w.heap.size ≤ w.heap.size + _
    omega
  · rw [hb i hi, if_neg (fun e => hne (by rw [e]))]
/-- One lease stored in the row. -/
theorem cellsL_put : ∀ (l : List L) (i : Nat), i < l.length → ∀ a : L, ((((layL.cells l).set (i * 4) (.int .i64 a.addr)).set (i * 4 + 1) (.int .i64 a.state)).set (i * 4 + 2) (.int .i64 a.till)).set (i * 4 + 3) (.string (ba a.key)) = layL.cells (l.set i a)
  | [], i, h, _ => by cases h
  | x :: l, i, h, a => by
    have e : ∀ (x : L) (xs : List L), layL.cells (x :: xs) = .int .i64 x.addr :: .int .i64 x.state :: .int .i64 x.till :: .string (ba x.key) :: layL.cells xs := fun x xs => by simp [Lay.cells, layL]
    match i with
    | 0 => simp [e]
    | i + 1 =>
      rw [e, show (i + 1) * 4 = i * 4 + 4 by omega, show i * 4 + 4 + 1 = (i * 4 + 1) + 4 by omega, show i * 4 + 4 + 2 = (i * 4 + 2) + 4 by omega, show i * 4 + 4 + 3 = (i * 4 + 3) + 4 by omega]
      simp only [List.set_cons_succ]
      rw [e, cellsL_put l i (by simpa using h) a]
def put1 (w : World) (g i : Nat) (a : L) : World := (((w.setCell ⟨g, i * 4, none⟩ (.int .i64 a.addr)).setCell ⟨g, i * 4 + 1, none⟩ (.int .i64 a.state)).setCell ⟨g, i * 4 + 2, none⟩ (.int .i64 a.till)).setCell ⟨g, i * 4 + 3, none⟩ (.string (ba a.key))
theorem own_put {B g n c : Nat} {w : World} {l : List L} (h : OwnLs B w (some ⟨g, 0, none⟩) n c l) {i : Nat} (hi : i < l.length) (a : L) : OwnLs B (put1 w g i a) (some ⟨g, 0, none⟩) n c (l.set i a) ∧ w.grownBy (put1 w g i a) (some g) := by
  have h1 := World.ownsRow.stored h.1 (i * 4) (.int .i64 a.addr)
  have h2 := World.ownsRow.stored h1.1 (i * 4 + 1) (.int .i64 a.state)
  have h3 := World.ownsRow.stored h2.1 (i * 4 + 2) (.int .i64 a.till)
  have h4 := World.ownsRow.stored h3.1 (i * 4 + 3) (.string (ba a.key))
  refine ⟨⟨?_, by rw [List.length_set]; exact h.2⟩, grownBy_trans (grownBy_trans (grownBy_trans h1.2 h2.2 (.inl rfl)) h3.2 (.inl rfl)) h4.2 (.inl rfl)⟩
  rw [← cellsL_put l i hi a]
  exact h4.1
theorem zero4_one (m : Nat) : ∀ v ∈ (Builtin.zeroCells (Value.agg #[.int .i64 0, .int .i64 0, .int .i64 0, .string ⟨#[]⟩]).cells m).toList, v.oneCell' = true := by
  intro v hv
  have e : (Value.agg #[.int .i64 0, .int .i64 0, .int .i64 0, .string ⟨#[]⟩]).cells = #[.int .i64 0, .int .i64 0, .int .i64 0, .string ⟨#[]⟩] := by kernel_rfl
  rw [e] at hv
  simp only [Builtin.zeroCells, Array.toList_map, List.mem_map] at hv
  obtain ⟨i, _, rfl⟩ := hv
  have e4 : (#[Value.int .i64 0, .int .i64 0, .int .i64 0, .string ⟨#[]⟩] : Array Value).size = 4 := rfl
  rw [e4]
  have h4 : i % 4 = 0 ∨ i % 4 = 1 ∨ i % 4 = 2 ∨ i % 4 = 3 := by omega
  rcases h4 with h4 | h4 | h4 | h4 <;> rw [h4] <;> rfl
/-- 'clear(s[i:])', and what is left ahead. -/
theorem clear_tailL {B g n c : Nat} {W : World} {l : List L} (hO : OwnLs B W (some ⟨g, 0, none⟩) n c l) {i : Nat} (hi : i < n) :
    ∃ W', (∀ ty, (Builtin.clear_ #[22] ty #[.slice (some ⟨g, i * 4, none⟩) (n - i) (c - i)]).run Tryz.prog W = .ok (.tuple #[]) W') ∧ OwnLs B W' (some ⟨g, 0, none⟩) i c (l.take i) ∧ W.grownBy W' (some g) := by
  have hlen := hO.2
  rcases hO.1.2 with ⟨h', _⟩ | ⟨g', cap, cur, h', hBg, hg, hnc, hcm, hsz, htake⟩
  · cases h'
  simp only [Value.slice.injEq, Option.some.injEq, Addr.mk.injEq, true_and, and_true] at h'
  obtain ⟨rfl, rfl⟩ := h'
  obtain ⟨m, hm⟩ : ∃ m, n - i = m + 1 := ⟨n - i - 1, by omega⟩
  have hsz4 : cur.size = c * 4 := hsz
  have htake4 : cur.toList.take (n * 4) = layL.cells l := htake
  have e : (Value.agg #[.int .i64 0, .int .i64 0, .int .i64 0, .string ⟨#[]⟩]).cells.size = 4 := by kernel_rfl
  have hvl : (Builtin.zeroCells (Value.agg #[.int .i64 0, .int .i64 0, .int .i64 0, .string ⟨#[]⟩]).cells (m + 1)).toList.length = (m + 1) * 4 := by
    rw [Array.length_toList, size_zeroCells, e]
  have hst := run_storeCells_at Tryz.prog g (i * 4) 56 _ 0 cur W hg (by rw [hvl]; omega) (zero4_one (m + 1))
  refine ⟨W.setRow g (cur.toList.take (i * 4 + 0) ++ (Builtin.zeroCells (Value.agg #[.int .i64 0, .int .i64 0, .int .i64 0, .string ⟨#[]⟩]).cells (m + 1)).toList ++ cur.toList.drop (i * 4 + 0 + (Builtin.zeroCells (Value.agg #[.int .i64 0, .int .i64 0, .int .i64 0, .string ⟨#[]⟩]).cells (m + 1)).toList.length)).toArray, fun ty => ?_, ⟨⟨?_, .inr ⟨g, c, _, rfl, hBg, setRow_heap W g cur _ _ _ hg, by omega, hcm, ?_, ?_⟩⟩, by rw [List.length_take]; omega⟩, ?_⟩
  · rw [hm]
    simp only [Builtin.clear_]
    simp [run_underlying Tryz.underlying22, hst, Result.andThen]
  · rw [layL.cells_len, List.length_take, Nat.min_eq_left (by omega)]
  · simp only [List.size_toArray, List.length_append, List.length_take, List.length_drop, hvl, Array.length_toList, hsz4]
    show _ = c * 4
    omega
  · show List.take (i * 4) _ = _
    rw [layL.cells_take _ _ (by omega)]
    show List.take (i * 4) _ = List.take (i * 4) (layL.cells l)
    rw [← htake4, List.take_take]
    simp only [Nat.add_zero]
    rw [List.append_assoc, List.take_append_of_le_length (by rw [List.length_take, Array.length_toList, hsz4]; omega), List.take_take]
    congr 1
    omega
  · exact ⟨rfl, rfl, rfl, by simp, fun k _ hne => setRow_other W g k _ (fun e => hne (by rw [e]))⟩
/-- A slice of the call's own that holds the leases l. -/
def OwL (B : Nat) (w : World) (l : List L) (e : Ending) (w' : World) : Prop := ∃ A' k c', e = .returned (.slice A' k c') ∧ OwnLs B w' A' k c' l ∧ Below B w w'
theorem litL0 (w : World) : OwnLs w.heap.size (w.alloc (.cells #[] 56)) (some ⟨w.heap.size, 0, none⟩) 0 0 [] := ⟨World.ownsRow_lit w #[] 0 (Nat.le_refl _) (by unfold maxLen; omega) rfl, rfl⟩
theorem cloneL_any (A : Option Addr) (n c U : Nat) (l : List L) (w : World) (h : RdLs U w A n c l) (hU : U ≤ w.heap.size) (hn : n < 1000000) :
    Calls Tryz.prog 45 #[.slice A n c] w (OwL w.heap.size w l) := by
  have q : ∀ (w : World) (a : Option Addr) (n c n' c' : Nat), (binOp .eql 22 (.slice a n c) (.slice none n' c')).run Tryz.prog w = .ok (.bool a.isNone) w := fun w a n c n' c' => Lib.run_eql_slice_nil w _ _ a n c n' c' Tryz.underlying22
  have hl := Lib.hid h.len
  cases A with
  | none =>
    have h0 : n = 0 := by
      rcases Nat.eq_zero_or_pos n with h0 | h0
      · exact h0
      · obtain ⟨b, o, e, _⟩ := h.2.2.2 h0
        cases e
    subst h0
    obtain rfl : l = [] := List.length_eq_zero_iff.1 hl.out
    clear hl
    go_enter Tryz.func45, Tryz.ntmps45
    go_wp2
    go_ret
    exact ⟨none, 0, 0, rfl, OwnG.nil _ _ _, Below.refl _ _⟩
  | some a =>
    have hlit := litL0 w
    have HRD := Lib.hid (h.below (Below.alloc (Below.refl U w) hU (.cells #[] 56)))
    clear h
    go_enter Tryz.func45, Tryz.ntmps45
    go_wp2_with (at_builtin; refine wpList_appG lesP (by decide) (by decide) (by kernel_rfl) rfl (.tmp 5) (.tmp 6) rfl rfl hlit rfl HRD.out (by omega) (by simp) ?_; intro A' c' w2 happ)
    go_ret
    exact ⟨A', n, c', by simp, by simpa using happ.1, ((Below.refl _ _).alloc (Nat.le_refl _) _).trans happ.2.1⟩
end Go.Proofs.YtlefpodonkdbeaaGreat.Lw
