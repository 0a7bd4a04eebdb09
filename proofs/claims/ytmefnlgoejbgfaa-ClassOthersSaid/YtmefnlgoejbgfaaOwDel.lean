/- slices.Clone and slices.DeleteFunc as opts.Keep calls them: options without those of a code, in an array of the call's own. For any list of up to 1000 options. -/
import Derived.Test.YtmefnlgoejbgfaaOwList
import Derived.Test.YtmefnlgoejbgfaaByU
import Derived.Laws.CopyRow
set_option maxRecDepth 8000
namespace Go.Proofs.Ytmefnlgoejbgfaa.Ow
open Go.RowKit Tl Ms Co By

/-! ### Memory: an option stored, a tail cleared -/
theorem cellsP_put (ps : List Po) (i : Nat) (h : i < ps.length) (q : Po) : ((cellsP ps).set (i * 2) (.int .i64 q.code)).set (i * 2 + 1) q.dv = cellsP (ps.set i q) := by
  induction ps generalizing i with
  | nil => cases h
  | cons p ps ih =>
    have e : ∀ x : Po, ∀ xs, cellsP (x :: xs) = .int .i64 x.code :: x.dv :: cellsP xs := fun x xs => by simp [cellsP, Po.cells]
    match i with
    | 0 => simp [e]
    | i + 1 =>
      rw [e, show (i + 1) * 2 = i * 2 + 2 by omega, show (i * 2 + 2) + 1 = (i * 2 + 1) + 2 by omega]
      simp only [List.set_cons_succ]
      rw [e, ih i (by simpa using h)]
theorem own_put {e B g n c : Nat} {w : World} {ps : List Po} (h : OwnC e B w (some ⟨g, 0, none⟩) n c ps) {i : Nat} (hi : i < ps.length) (q : Po) :
    OwnC e B ((w.setCell ⟨g, i * 2, none⟩ (.int .i64 q.code)).setCell ⟨g, i * 2 + 1, none⟩ q.dv) (some ⟨g, 0, none⟩) n c (ps.set i q) := by
  have h1 := (World.ownsRow.stored h (i * 2) (.int .i64 q.code)).1
  have h2 := (World.ownsRow.stored h1 (i * 2 + 1) q.dv).1
  unfold OwnC
  rw [← cellsP_put ps i hi q]
  exact h2
theorem grown_set (w : World) (g j : Nat) (v : Value) : w.grownBy (w.setCell ⟨g, j, none⟩ v) (some g) :=
  ⟨rfl, rfl, rfl, by simp, fun k _ hne => Below.heap_setCell w ⟨g, j, none⟩ v k (fun e => hne (by rw [e]))⟩
theorem grown_trans {a b c : World} {g : Nat} (h : a.grownBy b (some g)) (k : b.grownBy c (some g)) : a.grownBy c (some g) := grownBy_trans h k (.inl rfl)
theorem grown_below {a b c : World} {g : Nat} (h : a.grownBy b (some g)) (k : Below b.heap.size b c) : a.grownBy c (some g) := grown_trans h (grownBy_of_below k _)
theorem cellsP_take (ps : List Po) (i : Nat) : (cellsP ps).take (i * 2) = cellsP (ps.take i) := by
  induction ps generalizing i with
  | nil => simp [cellsP]
  | cons p ps ih =>
    have e : ∀ x : Po, ∀ xs, cellsP (x :: xs) = .int .i64 x.code :: x.dv :: cellsP xs := fun x xs => by simp [cellsP, Po.cells]
    match i with
    | 0 => simp [cellsP]
    | i + 1 =>
      rw [e, show (i + 1) * 2 = i * 2 + 2 by omega, List.take_succ_cons, List.take_succ_cons, List.take_succ_cons, e, ih i]
theorem zero_cells_one (m : Nat) : ∀ v ∈ (Builtin.zeroCells (Value.agg #[.int .i64 0, .slice none 0 0]).cells m).toList, v.oneCell' = true := by
  intro v hv
  have e : (Value.agg #[.int .i64 0, .slice none 0 0]).cells = #[.int .i64 0, .slice none 0 0] := by kernel_rfl
  rw [e] at hv
  simp only [Builtin.zeroCells, Array.toList_map, List.mem_map] at hv
  obtain ⟨i, _, rfl⟩ := hv
  have h2 : i % (#[Value.int .i64 0, Value.slice none 0 0] : Array Value).size = 0 ∨ i % (#[Value.int .i64 0, Value.slice none 0 0] : Array Value).size = 1 := by
    have : (#[Value.int .i64 0, Value.slice none 0 0] : Array Value).size = 2 := rfl
    rw [this]
    omega
  rcases h2 with h2 | h2 <;> rw [h2] <;> rfl
/-- 'clear(s[i:])', and what is left ahead. -/
theorem clear_tail {B g n c : Nat} {W : World} {qs : List Po} (hO : OwnC 41 B W (some ⟨g, 0, none⟩) n c qs) {i : Nat} (hi : i < n) :
    ∃ W', (∀ ty, (Builtin.clear_ #[23] ty #[.slice (some ⟨g, i * 2, none⟩) (n - i) (c - i)]).run Try.prog W = .ok (.tuple #[]) W') ∧ OwnC 41 B W' (some ⟨g, 0, none⟩) i c (qs.take i) ∧ W.grownBy W' (some g) := by
  have hlen := hO.1
  rcases hO.2 with ⟨h', _⟩ | ⟨g', cap, cur, h', hBg, hg, hnc, hcm, hsz, htake⟩
  · cases h'
  simp only [Value.slice.injEq, Option.some.injEq, Addr.mk.injEq, true_and, and_true] at h'
  obtain ⟨rfl, rfl⟩ := h'
  obtain ⟨m, hm⟩ : ∃ m, n - i = m + 1 := ⟨n - i - 1, by omega⟩
  have e : (Value.agg #[.int .i64 0, .slice none 0 0]).cells.size = 2 := by kernel_rfl
  have hvl : (Builtin.zeroCells (Value.agg #[.int .i64 0, .slice none 0 0]).cells (m + 1)).toList.length = (m + 1) * 2 := by
    rw [Array.length_toList, size_zeroCells, e]
  have hst := run_storeCells_at Try.prog g (i * 2) 41 _ 0 cur W hg (by rw [hvl]; omega) (zero_cells_one (m + 1))
  refine ⟨W.setRow g (cur.toList.take (i * 2 + 0) ++ (Builtin.zeroCells (Value.agg #[.int .i64 0, .slice none 0 0]).cells (m + 1)).toList ++ cur.toList.drop (i * 2 + 0 + (Builtin.zeroCells (Value.agg #[.int .i64 0, .slice none 0 0]).cells (m + 1)).toList.length)).toArray, fun ty => ?_, ⟨?_, .inr ⟨g, c, _, rfl, hBg, setRow_heap W g cur _ _ _ hg, by omega, hcm, ?_, ?_⟩⟩, ?_⟩
  · rw [hm]
    simp only [Builtin.clear_]
    simp [run_underlying Try.underlying23, hst, Result.andThen]
  · rw [cellsP_len, List.length_take]
    rw [cellsP_len] at hlen
    omega
  · simp only [List.size_toArray, List.length_append, List.length_take, List.length_drop, hvl, Array.length_toList, hsz]
    omega
  · rw [← cellsP_take, ← htake, List.take_take]
    simp only [Nat.add_zero]
    rw [List.append_assoc, List.take_append_of_le_length (by rw [List.length_take, Array.length_toList, hsz]; omega), List.take_take]
    congr 1
    omega
  · exact ⟨rfl, rfl, rfl, by simp, fun k _ hne => setRow_other W g k _ (fun e => hne (by rw [e]))⟩

theorem OwnC.lits0 (e : Nat) (w : World) : OwnC e w.heap.size (w.alloc (.cells #[] e)) (some ⟨w.heap.size, 0, none⟩) 0 0 [] := World.ownsRow_lit w #[] 0 (Nat.le_refl _) (by unfold maxLen; omega) rfl
/-! ### Mathematics -/
def keepP (ps : List Po) (c : Int) : List Po := ps.filter fun p => !(p.code == c)
theorem keepP_os (ps : List Po) (c : Int) : osP (keepP ps c) = withoutL (osP ps) c := by
  unfold keepP withoutL osP
  rw [List.filter_map]
  rfl
theorem keepP_none {ps : List Po} {c : Int} (h : c ∉ codesL (osP ps)) : keepP ps c = ps := by
  unfold keepP
  refine List.filter_eq_self.2 fun p hp => ?_
  have h1 : p.code ∈ codesL (osP ps) := codes_mem (os_mem hp)
  simp
  intro e
  exact h (by rw [← e]; exact h1)
theorem keepP_keep {ps : List Po} {c : Int} {j : Nat} (h : j < ps.length) (hc : (ps[j]).code ≠ c) : keepP (ps.take (j + 1)) c = keepP (ps.take j) c ++ [ps[j]] := by
  unfold keepP
  rw [List.take_succ_eq_append_getElem h, List.filter_append]
  simp [hc]
theorem keepP_drop {ps : List Po} {c : Int} {j : Nat} (h : j < ps.length) (hc : (ps[j]).code = c) : keepP (ps.take (j + 1)) c = keepP (ps.take j) c := by
  unfold keepP
  rw [List.take_succ_eq_append_getElem h, List.filter_append]
  simp [hc]
theorem keepP_mem {ps : List Po} {c : Int} {p : Po} (h : p ∈ keepP ps c) : p ∈ ps := (List.mem_filter.1 h).1
/-- What DeleteFunc's loop holds of the array. -/
def HalfK (ps qs : List Po) (code : Int) (i j : Nat) : Prop := qs.length = ps.length ∧ qs.take i = keepP (ps.take j) code ∧ qs.drop j = ps.drop j ∧ (keepP (ps.take j) code).length = i ∧ i < j
theorem half_start {ps : List Po} {code : Int} {i : Nat} (hi : i < ps.length) (hc : (ps[i]).code = code) (hn : code ∉ codesL ((osP ps).take i)) : HalfK ps ps code i (i + 1) := by
  have e : keepP (ps.take (i + 1)) code = ps.take i := by rw [keepP_drop hi hc, keepP_none (by rw [os_take]; exact hn)]
  exact ⟨rfl, e.symm, rfl, by rw [e, List.length_take]; omega, by omega⟩
theorem half_get {ps qs : List Po} {code : Int} {i j : Nat} (h : HalfK ps qs code i j) (hj : j < ps.length) : ∃ hq : j < qs.length, qs[j] = ps[j] := by
  obtain ⟨h1, _, h3, _⟩ := h
  have hq : j < qs.length := by omega
  refine ⟨hq, ?_⟩
  have e1 := List.drop_eq_getElem_cons hq
  have e2 := List.drop_eq_getElem_cons hj
  rw [h3, e2] at e1
  injection e1 with e1
  exact e1.symm
theorem half_drop {ps qs : List Po} {code : Int} {i j : Nat} (h : HalfK ps qs code i j) (hj : j < ps.length) (hc : (ps[j]).code = code) : HalfK ps qs code i (j + 1) := by
  obtain ⟨h1, h2, h3, h4, h5⟩ := h
  refine ⟨h1, by rw [keepP_drop hj hc]; exact h2, ?_, by rw [keepP_drop hj hc]; exact h4, by omega⟩
  rw [← List.drop_drop, h3, List.drop_drop]
theorem half_keep {ps qs : List Po} {code : Int} {i j : Nat} (h : HalfK ps qs code i j) (hj : j < ps.length) (hc : (ps[j]).code ≠ code) : HalfK ps (qs.set i ps[j]) code (i + 1) (j + 1) := by
  obtain ⟨h1, h2, h3, h4, h5⟩ := h
  refine ⟨by simpa using h1, ?_, ?_, by rw [keepP_keep hj hc, List.length_append, h4]; rfl, by omega⟩
  · rw [keepP_keep hj hc, ← h2]
    rw [List.take_succ_eq_append_getElem (by simp; omega), List.take_set_of_le (Nat.le_refl _)]
    simp
  · rw [List.drop_set_of_lt (by omega), ← List.drop_drop, h3, List.drop_drop]

/-! ### The calls -/
theorem code_isK (co code : Int) (A' : Option Addr) (m c' b : Nat) (w : World) (hb : b < w.heap.size) (hc : w.cell? ⟨b, 0, none⟩ = some (.int .i64 code)) :
    Calls Try.prog 31 #[.agg #[.int .i64 co, .slice A' m c'], .pointer (some ⟨b, 0, none⟩)] w fun e w' => e = .returned (.bool (co == code)) ∧ Below w.heap.size w w' := by
  have hne : b ≠ w.heap.size := by omega
  go_enter Try.func31, Try.ntmps31
  go_wp2
  go_ret
  exact ⟨by simp, (Below.refl _ _).alloc (Nat.le_refl _) _⟩

set_option maxHeartbeats 400000 in
theorem index_K (A : Option Addr) (n c : Nat) (ps : List Po) (code : Int) (g : Nat) (w : World) (h : RdO w A n c ps) (hg : g < w.heap.size) (hcode : w.cell? ⟨g, 0, none⟩ = some (.int .i64 code)) :
    Calls Try.prog 36 #[.slice A n c, .func (.func 31) #[] #[.pointer (some ⟨g, 0, none⟩)]] w fun e w' => e = .returned (.int .i64 (placeL (osP ps) code)) ∧ Below w.heap.size w w' := by
  have hl := Lib.hid h.len
  have hm := h.max
  have hcap := h.cap
  have HC := Lib.hid hcode
  clear hcode
  go_enter Try.func36, Try.ntmps36
  go_wp2
  go_loopw [8] (fun i wr => ∃ k : Nat, k ≤ n ∧ i = .int .i64 k ∧ code ∉ codesL ((osP ps).take k) ∧ Below w.heap.size w wr) (fun i _ => n - (intOf i).toNat)
  case atStart => exact ⟨0, by omega, rfl, by simp [codesL], Below.refl _ _⟩
  case round =>
    obtain ⟨k, hk, rfl, hs, hbw⟩ := hrel
    have HS := Lib.hid hs
    clear hs
    by_cases hlt : k < n
    · obtain ⟨b, o, co, A', m, c', l, rfl, hcell, hcell2, _, _, HO, _, _, _⟩ := (h.below hbw).at_ hlt
      have hsz := hbw.size
      go_wp2_with fail
      refine (code_isK co code A' m c' g _ (by omega) ((hbw.cell (p := ⟨g, 0, none⟩) hg).trans HC.out)).mono ?_
      rintro e w1 ⟨rfl, hb1⟩
      have hb01 := hbw.trans (hb1.mono hsz)
      by_cases he : co = code
      · subst he
        have H : Hid (placeL (osP ps) co = (k : Int)) := by
          obtain ⟨h1, h2⟩ := HO.out
          exact place_hit h1 (by rw [h2]) HS.out
        go_wp2
        go_ret
        exact ⟨ret_int H.out.symm, hb01⟩
      · have hb : (co == code) = false := by simpa using he
        have H : Hid (code ∉ codesL ((osP ps).take (k + 1))) := by
          obtain ⟨h1, h2⟩ := HO.out
          exact not_codes_next h1 HS.out (by rw [h2]; exact he)
        clear he
        go_wp2
        go_roundw
        case rel => exact ⟨k + 1, by omega, by go_num, H.out, hb01⟩
        case measure => simp [intOf]; omega
    · obtain rfl : k = n := by omega
      have H : Hid (placeL (osP ps) code = -1) := place_none (by have := HS.out; rwa [List.take_of_length_le (by rw [os_len, hl.out]; exact Nat.le_refl _)] at this)
      go_wp2
      go_ret
      exact ⟨ret_int H.out.symm, hbw⟩

def StK (B g n c : Nat) (ps : List Po) (code : Int) (w : World) (v5 v6 : Value) (wr : World) : Prop :=
  ∃ (i j : Nat) (qs : List Po), j ≤ n ∧ v6 = .int .i64 (j : Nat) ∧ v5 = .int .i64 (i : Nat) ∧ OwnC 41 B wr (some ⟨g, 0, none⟩) n c qs ∧ HalfK ps qs code i j ∧ w.grownBy wr (some g)
/-- A slice of the call's own array that holds the options qs. -/
def DelK (B : Nat) (w : World) (qs : List Po) (e : Ending) (w' : World) : Prop := ∃ A' k c', e = .returned (.slice A' k c') ∧ OwnC 41 B w' A' k c' qs ∧ Below B w w'
set_option maxHeartbeats 2000000 in
theorem delete_any (B : Nat) (A : Option Addr) (n c : Nat) (ps : List Po) (code : Int) (gb : Nat) (w : World) (hB : B ≤ w.heap.size) (hO : OwnC 41 B w A n c ps) (hrd : RdO w A n c ps) (hn : n ≤ 1000) (hgb : gb < B) (hcode : w.cell? ⟨gb, 0, none⟩ = some (.int .i64 code)) :
    Calls Try.prog 29 #[.slice A n c, .func (.func 31) #[] #[.pointer (some ⟨gb, 0, none⟩)]] w (DelK B w (keepP ps code)) := by
  have HL := Lib.hid hO.len
  have hmax := hrd.max
  have hcap := hrd.cap
  have HC := Lib.hid hcode
  clear hcode
  by_cases hm : code ∈ codesL (osP ps)
  rotate_left
  · have HP := Lib.hid (place_none hm)
    have HK := Lib.hid (keepP_none hm)
    clear hm
    go_enter Try.func29, Try.ntmps29
    go_wp2_with fail
    refine (index_K A n c ps code gb w hrd (by omega) HC.out).mono ?_
    rw [HP.out]
    rintro e w1 ⟨rfl, hb1⟩
    go_wp2
    go_ret
    exact ⟨A, n, c, rfl, by rw [HK.out]; exact hO.below hb1, hb1.mono hB⟩
  obtain ⟨i, hi, hp, hic, hno⟩ := place_mem hm
  have hi' : i < ps.length := by rw [os_len] at hi; exact hi
  have HH : Hid (HalfK ps ps code i (i + 1)) := half_start hi' (by rw [os_get hi'] at hic; exact hic) hno
  have HP := Lib.hid hp
  clear hp hm hno hic hi
  have hin : i < n := by have := HL.out; omega
  obtain ⟨g, rfl, hBg, hglt⟩ := hO.head (by omega)
  clear hi'
  have hi1 : ((i : Int) == -1) = false := by simp
  go_enter Try.func29, Try.ntmps29
  go_wp2_with fail
  refine (index_K _ n c ps code gb w hrd (by omega) HC.out).mono ?_
  rw [HP.out]
  rintro e w1 ⟨rfl, hb1⟩
  have hO1 := hO.below hb1
  have hg1 : w.grownBy w1 (some g) := grownBy_of_below hb1 _
  clear hrd
  go_wp2
  go_loopw [5, 6] (fun v5 v6 wr => StK B g n c ps code w v5 v6 wr) (fun _ v6 _ => n - (intOf v6).toNat)
  case atStart => exact ⟨i, i + 1, ps, by omega, by go_num, rfl, hO1, HH.out, hg1⟩
  case round =>
    clear hi1 hin HH HP hO1 hg1
    obtain ⟨i, j, qs, hjn, rfl, rfl, hOr, hhalf, hgr⟩ := hrel
    have HHr := Lib.hid hhalf
    have hij : i < j := hhalf.2.2.2.2
    clear hhalf
    have hbB : Below B w wr := (Below.refl _ _).grown hgr hB (fun k hk => by cases hk; exact hBg)
    have hgbr : wr.cell? ⟨gb, 0, none⟩ = some (.int .i64 code) := (hbB.cell (p := ⟨gb, 0, none⟩) hgb).trans HC.out
    by_cases hlt : j < n
    · have hjp : j < ps.length := by have := HL.out; omega
      obtain ⟨hjq, ed⟩ := half_get HHr.out hjp
      have hiq : i < qs.length := by omega
      obtain ⟨c1, c2⟩ := hOr.at_ hjq
      obtain ⟨d1, d2⟩ := hOr.at_ hiq
      rw [ed] at c1 c2
      have HKP : Hid ((ps[j]).code ≠ code → HalfK ps (qs.set i ps[j]) code (i + 1) (j + 1)) := half_keep HHr.out hjp
      have HDR : Hid ((ps[j]).code = code → HalfK ps qs code i (j + 1)) := half_drop HHr.out hjp
      generalize ps[j] = q at c1 c2 HKP HDR
      clear ed
      have hglr : g < wr.heap.size := World.block_lt_of_cell? wr _ c1
      have hgbl : gb < wr.heap.size := by omega
      have hba : Below wr.heap.size wr (wr.alloc (.cells #[.int .i64 q.code, .slice q.A q.l.length q.c] 41)) := (Below.refl _ _).alloc (Nat.le_refl _) _
      have hcel := Cel.born wr 41 #[.int .i64 q.code, .slice q.A q.l.length q.c]
      have c2' : wr.cell? ⟨g, j * 2 + 1, none⟩ = some (.slice q.A q.l.length q.c) := c2
      clear c2
      go_wp2_with fail
      refine (code_isK q.code code q.A q.l.length q.c gb _ (by simp; omega) ((hba.cell (p := ⟨gb, 0, none⟩) hgbl).trans hgbr)).mono ?_
      rintro e w2 ⟨rfl, hb2⟩
      have hb02 := hba.trans (hb2.mono hba.size)
      have hO2 := hOr.below hb02
      by_cases he : q.code = code
      · have hbe : (q.code == code) = true := by simpa using he
        have H := Lib.hid (HDR.out he)
        have hg2 := Lib.hid (grown_below hgr hb02)
        clear he hcel d1 d2 c1 c2'
        go_wp2
        go_roundw
        case rel => exact ⟨i, j + 1, qs, by omega, by go_num, rfl, hO2, H.out, hg2.out⟩
        case measure => simp [intOf]; omega
      · have hbe : (q.code == code) = false := by simpa using he
        have H := Lib.hid (HKP.out he)
        have hcel2 := hcel.below hb2 hcel.lt
        have k1 : w2.cell? ⟨wr.heap.size, 0, none⟩ = some (.int .i64 q.code) := by rw [hcel2.cell]; rfl
        have k2 : w2.cell? ⟨wr.heap.size, 1, none⟩ = some (.slice q.A q.l.length q.c) := by rw [hcel2.cell]; rfl
        have e1 : w2.cell? ⟨g, i * 2, none⟩ = some (.int .i64 (qs[i]).code) := (hb02.cell (p := ⟨g, i * 2, none⟩) hglr).trans d1
        have e2 : w2.cell? ⟨g, i * 2 + 1, none⟩ = some (qs[i]).dv := (hb02.cell (p := ⟨g, i * 2 + 1, none⟩) hglr).trans d2
        have f1 : w2.frozen? ⟨g, i * 2, none⟩ = false := hO2.frozen _
        have f2 : w2.frozen? ⟨g, i * 2 + 1, none⟩ = false := hO2.frozen _
        have hput := Lib.hid (own_put hO2 hiq q)
        have hg2 := Lib.hid (grown_trans (grown_trans (grown_below hgr hb02) (grown_set w2 g (i * 2) (.int .i64 q.code))) (grown_set _ g (i * 2 + 1) q.dv))
        clear hcel hcel2 hOr d1 d2 hO2 he c1 c2'
        go_wp2
        go_roundw
        case rel => exact ⟨i + 1, j + 1, qs.set i q, by omega, by go_num, by go_num, hput.out, H.out, hg2.out⟩
        case measure => simp [intOf]; omega
    · obtain rfl : j = n := by omega
      have HE : Hid (qs.take i = keepP ps code) := by
        obtain ⟨_, h2, _⟩ := HHr.out
        show qs.take i = keepP ps code
        rw [h2, List.take_of_length_le (by have := HL.out; omega)]
      obtain ⟨W', hclr, hown', hgr'⟩ := clear_tail hOr hij
      have HO' := Lib.hid hown'
      have HG' := Lib.hid (grown_trans hgr hgr')
      clear hown' hgr' hOr hgr hbB hgbr
      go_wp2
      go_ret
      exact ⟨_, i, c, rfl, by rw [← HE.out]; exact HO'.out, (Below.refl _ _).grown HG'.out hB (fun k hk => by cases hk; exact hBg)⟩

theorem cloneO_any (A : Option Addr) (n c : Nat) (ps : List Po) (w : World) (h : RdO w A n c ps) (hn : n ≤ 1000) :
    Calls Try.prog 30 #[.slice A n c] w (DelK w.heap.size w ps) := by
  have q : ∀ (w : World) (a : Option Addr) (n c n' c' : Nat), (binOp .eql 23 (.slice a n c) (.slice none n' c')).run Try.prog w = .ok (.bool a.isNone) w := fun w a n c n' c' => Lib.run_eql_slice_nil w _ _ a n c n' c' Try.underlying23
  have hl := Lib.hid h.len
  cases A with
  | none =>
    have h0 : n = 0 := by
      rcases Nat.eq_zero_or_pos n with h0 | h0
      · exact h0
      · obtain ⟨b, o, _, _, _, _, _, e, _⟩ := h.at_ h0
        cases e
    subst h0
    obtain rfl : ps = [] := List.length_eq_zero_iff.1 hl.out
    clear hl
    go_enter Try.func30, Try.ntmps30
    go_wp2
    go_ret
    exact ⟨none, 0, 0, rfl, OwnC.nil _ _ _, Below.refl _ _⟩
  | some a =>
    have hlit := Ow.OwnC.lits0 41 w
    go_enter Try.func30, Try.ntmps30
    go_wp2_with (at_builtin; refine wpList_appO Tw.opP rfl (.tmp 5) (.tmp 6) rfl rfl hlit rfl (h.alloc _).1 (by omega) (by simp) ?_; intro A' c' w2 hown2 hb2 _)
    go_ret
    exact ⟨A', n, c', by simp, by simpa using hown2, ((Below.refl _ _).alloc (Nat.le_refl _) _).trans hb2⟩
end Go.Proofs.Ytmefnlgoejbgfaa.Ow
