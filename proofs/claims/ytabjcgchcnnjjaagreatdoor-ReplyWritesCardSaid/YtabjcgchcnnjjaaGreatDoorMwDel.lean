/- slices.DeleteFunc as msg calls it: options without the one of the code 52, in their own array. For options of which one has that code and no other one. -/
import Derived.Test.YtabjcgchcnnjjaaGreatDoorTlJoin
import Derived.Test.YtabjcgchcnnjjaaGreatDoorMathA
set_option maxRecDepth 8000
namespace Go.Proofs.YtabjcgchcnnjjaaGreatDoor.Mw
open Go.RowKit Tl Ms By

theorem is52 (co : Int) (A' : Option Addr) (m c' : Nat) (w : World) :
    Calls Tryz.prog 121 #[.agg #[.int .i64 co, .slice A' m c']] w fun e w' => e = .returned (.bool (co == 52)) ∧ Below w.heap.size w w' := by
  go_enter Tryz.func121, Tryz.ntmps121
  go_wp2
  go_ret
  exact ⟨by simp, (Below.refl _ _).alloc (Nat.le_refl _) _⟩

set_option maxHeartbeats 400000 in
theorem index52 (A : Option Addr) (n c : Nat) (ps : List Po) (w : World) (h : RdO w A n c ps) :
    Calls Tryz.prog 82 #[.slice A n c, .func (.func 121) #[] #[]] w fun e w' => e = .returned (.int .i64 (placeL (osP ps) 52)) ∧ Below w.heap.size w w' := by
  have hl := Lib.hid h.len
  have hm := h.max
  have hcap := h.cap
  go_enter Tryz.func82, Tryz.ntmps82
  go_wp2
  go_loopw [8] (fun i wr => ∃ k : Nat, k ≤ n ∧ i = .int .i64 k ∧ (52 : Int) ∉ codesL ((osP ps).take k) ∧ Below w.heap.size w wr) (fun i _ => n - (intOf i).toNat)
  case atStart => exact ⟨0, by omega, rfl, by simp [codesL], Below.refl _ _⟩
  case round =>
    obtain ⟨k, hk, rfl, hs, hbw⟩ := hrel
    have HS := Lib.hid hs
    clear hs
    by_cases hlt : k < n
    · obtain ⟨b, o, co, A', m, c', l, rfl, hcell, hcell2, _, _, HO, _, _, _⟩ := (h.below hbw).at_ hlt
      have hsz := hbw.size
      go_wp2_with fail
      refine (is52 co A' m c' _).mono ?_
      rintro e w1 ⟨rfl, hb1⟩
      have hb01 := hbw.trans (hb1.mono hsz)
      by_cases he : co = 52
      · subst he
        have H : Hid (placeL (osP ps) 52 = (k : Int)) := by
          obtain ⟨h1, h2⟩ := HO.out
          exact place_hit h1 (by rw [h2]) HS.out
        go_wp2
        go_ret
        exact ⟨ret_int H.out.symm, hb01⟩
      · have hb : (co == 52) = false := by simpa using he
        have H : Hid ((52 : Int) ∉ codesL ((osP ps).take (k + 1))) := by
          obtain ⟨h1, h2⟩ := HO.out
          exact not_codes_next h1 HS.out (by rw [h2]; exact he)
        clear he
        go_wp2
        go_roundw
        case rel => exact ⟨k + 1, by omega, by go_num, H.out, hb01⟩
        case measure => simp [intOf]; omega
    · obtain rfl : k = n := by omega
      have H : Hid (placeL (osP ps) 52 = -1) := place_none (by have := HS.out; rwa [List.take_of_length_le (by rw [os_len, hl.out]; exact Nat.le_refl _)] at this)
      go_wp2
      go_ret
      exact ⟨ret_int H.out.symm, hbw⟩

/-- An option is stored at a place of an owned array. -/
theorem cellsP_set2 (ps : List Po) (i : Nat) (h : i < ps.length) (q : Po) : ((cellsP ps).set (i * 2) (.int .i64 q.code)).set (i * 2 + 1) q.dv = cellsP (ps.set i q) := by
  induction ps generalizing i with
  | nil => cases h
  | cons p ps ih =>
    have e : ∀ x : Po, ∀ xs, cellsP (x :: xs) = .int .i64 x.code :: x.dv :: cellsP xs := fun x xs => by simp [cellsP, Po.cells]
    match i with
    | 0 => simp [e]
    | i + 1 =>
      rw [e, show (i + 1) * 2 = i * 2 + 2 by omega, show (i * 2 + 2) + 1 = (i * 2 + 1) + 2 by omega]
      simp only [List.set_cons_succ]
      rw [e, ih i (by simpa using h)]
theorem own_put {e B g n c : Nat} {w : World} {ps : List Po} (h : OwnC e B w (some ⟨g, 0, none⟩) n c ps) {i : Nat} (hi : i < ps.length) (q : Po) :
    OwnC e B ((w.setCell ⟨g, i * 2, none⟩ (.int .i64 q.code)).setCell ⟨g, i * 2 + 1, none⟩ q.dv) (some ⟨g, 0, none⟩) n c (ps.set i q) := by
  have h1 := (World.ownsRow.stored h (i * 2) (.int .i64 q.code)).1
  have h2 := (World.ownsRow.stored h1 (i * 2 + 1) q.dv).1
  unfold OwnC
  rw [← cellsP_set2 ps i hi q]
  exact h2
/-- Options when those from i + 1 to j - 1 have gone one place down. -/
def downP (ps : List Po) (i j : Nat) : List Po := (ps.eraseIdx i).take (j - 1) ++ ps.drop (j - 1)
theorem down_len {ps : List Po} {i j : Nat} (hi : i < ps.length) (_h1 : i < j) (h2 : j ≤ ps.length) : (downP ps i j).length = ps.length := by
  unfold downP
  rw [List.length_append, List.length_take, List.length_drop, List.length_eraseIdx_of_lt hi]
  omega
theorem down_start (ps : List Po) (i : Nat) (hi : i < ps.length) : downP ps i (i + 1) = ps := by
  unfold downP
  rw [Nat.add_sub_cancel, List.eraseIdx_eq_take_drop_succ, List.take_append_of_le_length (by rw [List.length_take]; omega), List.take_take, Nat.min_self, List.take_append_drop]
theorem down_get {ps : List Po} {i j : Nat} (hi : i < ps.length) (_h1 : i < j) (h2 : j < ps.length) : (downP ps i j)[j]? = some ps[j] := by
  unfold downP
  rw [List.getElem?_append_right (by rw [List.length_take, List.length_eraseIdx_of_lt hi]; omega), List.length_take, List.length_eraseIdx_of_lt hi, List.getElem?_drop, ← List.getElem?_eq_getElem h2]
  congr 1
  omega
theorem down_step {ps : List Po} {i j : Nat} (hi : i < ps.length) (h1 : i < j) (h2 : j < ps.length) : (downP ps i j).set (j - 1) ps[j] = downP ps i (j + 1) := by
  have hl : (ps.eraseIdx i).length = ps.length - 1 := List.length_eraseIdx_of_lt hi
  have he : (ps.eraseIdx i)[j - 1]'(by omega) = ps[j] := by
    rw [List.getElem_eraseIdx_of_ge (by omega) (by omega)]
    congr 1
    omega
  unfold downP
  rw [List.set_append_right _ _ (by rw [List.length_take]; omega), List.length_take, Nat.add_sub_cancel, show (j - 1 - min (j - 1) (ps.eraseIdx i).length) = 0 by omega]
  rw [List.drop_eq_getElem_cons (show j - 1 < ps.length by omega), List.set_cons_zero, show j - 1 + 1 = j by omega]
  have e2 : (ps.eraseIdx i).take j = (ps.eraseIdx i).take (j - 1) ++ [ps[j]] := by
    have := List.take_succ_eq_append_getElem (l := ps.eraseIdx i) (i := j - 1) (by omega)
    rw [show j - 1 + 1 = j by omega] at this
    rw [this, he]
  rw [e2]
  simp
theorem down_end {ps : List Po} {i : Nat} (hi : i < ps.length) : (downP ps i ps.length).take (ps.length - 1) = ps.eraseIdx i := by
  have hl : (ps.eraseIdx i).length = ps.length - 1 := List.length_eraseIdx_of_lt hi
  unfold downP
  rw [List.take_append_of_le_length (by rw [List.length_take]; omega), List.take_of_length_le (by rw [List.length_take]; omega), List.take_of_length_le (by omega)]

theorem grown_set (w : World) (g j : Nat) (v : Value) : w.grownBy (w.setCell ⟨g, j, none⟩ v) (some g) :=
  ⟨rfl, rfl, rfl, by simp, fun k _ hne => Below.heap_setCell w ⟨g, j, none⟩ v k (fun e => hne (by rw [e]))⟩
theorem grown_trans {a b c : World} {g : Nat} (h : a.grownBy b (some g)) (k : b.grownBy c (some g)) : a.grownBy c (some g) := grownBy_trans h k (.inl rfl)
theorem grown_below {a b c : World} {g : Nat} (h : a.grownBy b (some g)) (k : Below b.heap.size b c) : a.grownBy c (some g) := grown_trans h (grownBy_of_below k _)
/-- Bytes of a block other than g. -/
theorem bs_grown {w w' : World} {g : Nat} {A : Option Addr} {n c : Nat} {l : List UInt8} (h : Bs w A n c l) (hA : 0 < n → ∀ a, A = some a → a.block ≠ g) (hg : w.grownBy w' (some g)) : Bs w' A n c l :=
  ⟨h.1, h.2.1, h.2.2.1, fun hn => by
    obtain ⟨b, o, e, hc⟩ := h.2.2.2 hn
    refine ⟨b, o, e, fun i hi => ?_⟩
    have hlt : b < w.heap.size := World.block_lt_of_cell? w _ (hc i hi)
    have hne : b ≠ g := hA hn _ e
    exact (World.cell?_of_block (w := w) (a := ⟨b, o + i, none⟩) (hg.block b hlt (by simpa using hne))).trans (hc i hi)⟩
theorem without_erase {l : List O} (hr : rightL l = true) {i : Nat} (hi : i < l.length) (hc : (l[i]).1 = 52) : l.eraseIdx i = withoutL l 52 := by
  have hnd := right_nodup hr
  unfold withoutL codesL at *
  rw [List.eraseIdx_eq_take_drop_succ]
  have e : l = l.take i ++ (l[i] :: l.drop (i + 1)) := by rw [← List.drop_eq_getElem_cons hi, List.take_append_drop]
  have hall : ∀ (a b : List O) (x : O), l = a ++ (x :: b) → x.1 = 52 → l.filter (fun o => !(o.1 == 52)) = a ++ b := by
    intro a b x hl hx
    rw [hl] at hnd ⊢
    rw [List.map_append, List.map_cons] at hnd
    have h1 := List.nodup_append.1 hnd
    have h2 := List.nodup_cons.1 h1.2.1
    rw [List.filter_append, List.filter_cons]
    rw [if_neg (by simp [hx])]
    congr 1
    · refine List.filter_eq_self.2 fun o ho => ?_
      have := h1.2.2 o.1 (List.mem_map.2 ⟨o, ho, rfl⟩) x.1 List.mem_cons_self
      simp
      intro k
      exact this (by rw [k, hx])
    · refine List.filter_eq_self.2 fun o ho => ?_
      simp
      intro k
      exact h2.1 (by rw [hx, ← k]; exact List.mem_map.2 ⟨o, ho, rfl⟩)
  exact (hall _ _ _ e hc).symm
theorem other_code {l : List O} (hr : rightL l = true) {i j : Nat} (hi : i < l.length) (hj : j < l.length) (hij : i ≠ j) (hc : (l[i]).1 = 52) : (l[j]).1 ≠ 52 := by
  have hnd := right_nodup hr
  intro k
  have hp := List.pairwise_iff_getElem.1 hnd
  have hi2 : i < (codesL l).length := by simpa [codesL] using hi
  have hj2 : j < (codesL l).length := by simpa [codesL] using hj
  rcases Nat.lt_or_gt_of_ne hij with h | h
  · exact hp i j hi2 hj2 h (by simp [codesL, hc, k])
  · exact hp j i hj2 hi2 h (by simp [codesL, hc, k])

theorem zero45 (w : World) : (zeroValue 46).run Tryz.prog w = .ok (.agg #[.int .i64 0, .slice none 0 0]) w := by kernel_rfl
theorem clear1 {B g n c : Nat} {W : World} {qs : List Po} (hO : OwnC 46 B W (some ⟨g, 0, none⟩) n c qs) {k : Nat} (hk : k < qs.length) (m cc : Nat) (hm : m = 1) (ty : TypeId) :
    (Builtin.clear_ #[26] ty #[.slice (some ⟨g, k * 2, none⟩) m cc]).run Tryz.prog W = .ok (.tuple #[]) ((W.setCell ⟨g, k * 2, none⟩ (.int .i64 0)).setCell ⟨g, k * 2 + 1, none⟩ (.slice none 0 0)) := by
  subst hm
  obtain ⟨c1, c2⟩ := hO.at_ hk
  have f1 := hO.frozen (k * 2)
  have f2 := hO.frozen (k * 2 + 1)
  have ez : (Builtin.zeroCells (Value.agg #[.int .i64 0, .slice none 0 0]).cells 1).toList = [.int .i64 0, .slice none 0 0] := by kernel_rfl
  have hc2 : (W.setCell ⟨g, k * 2, none⟩ (.int .i64 0)).cell? ⟨g, k * 2 + 1, none⟩ = some (qs[k]).dv := by rw [World.cell?_setCell_other _ _ _ _ (by simp)]; exact c2
  have hf2 : (W.setCell ⟨g, k * 2, none⟩ (.int .i64 0)).frozen? ⟨g, k * 2 + 1, none⟩ = false := by rw [World.frozen?_setCell]; exact f2
  have s1 : (store ⟨g, k * 2, none⟩ (.int .i64 0)).run Tryz.prog W = .ok () (W.setCell ⟨g, k * 2, none⟩ (.int .i64 0)) := by
    rw [run_store Tryz.prog W ⟨g, k * 2, none⟩ _ _ (by rfl)]
    simp [c1, f1]
  have s2 : (store ⟨g, k * 2 + 1, none⟩ (.slice none 0 0)).run Tryz.prog (W.setCell ⟨g, k * 2, none⟩ (.int .i64 0)) = .ok () ((W.setCell ⟨g, k * 2, none⟩ (.int .i64 0)).setCell ⟨g, k * 2 + 1, none⟩ (.slice none 0 0)) := by
    rw [run_store Tryz.prog _ ⟨g, k * 2 + 1, none⟩ _ _ (by rfl)]
    simp [hc2, hf2]
  simp [Builtin.clear_, run_underlying Tryz.underlying26, ez, storeCells, add_none, s1, s2, Result.andThen]
/-- What DeleteFunc's loop holds. -/
def StD (B g n c i : Nat) (ps : List Po) (w : World) (v5 v6 : Value) (wr : World) : Prop :=
  ∃ j : Nat, i < j ∧ j ≤ n ∧ v6 = .int .i64 (j : Nat) ∧ v5 = .int .i64 ((j : Int) - 1) ∧ OwnC 46 B wr (some ⟨g, 0, none⟩) n c (downP ps i j) ∧ w.grownBy wr (some g)

/-- Array and bytes lie in blocks from B on. -/
def Fr (B : Nat) (A : Option Addr) (n : Nat) (qs : List Po) : Prop := (0 < n → ∀ a, A = some a → B ≤ a.block) ∧ ∀ q ∈ qs, 0 < q.l.length → ∀ a, q.A = some a → B ≤ a.block
theorem Fr.mono {B B' : Nat} {A : Option Addr} {n : Nat} {qs : List Po} (h : Fr B A n qs) (hB : B' ≤ B) : Fr B' A n qs := ⟨fun h0 a ha => Nat.le_trans hB (h.1 h0 a ha), fun q hq h0 a ha => Nat.le_trans hB (h.2 q hq h0 a ha)⟩
theorem own_fr {e u B : Nat} {w : World} {A : Option Addr} {n c : Nat} {ps : List Po} (h : OwnO e u B w A n c ps) : Fr B A n ps := by
  refine ⟨fun h0 a ha => ?_, fun q hq h0 a ha => ?_⟩
  · obtain ⟨g, hA, hB, _⟩ := h.1.head h0
    rw [hA] at ha; cases ha; exact hB
  · obtain ⟨g, hA, hB, _⟩ := (h.2.1 q hq).head h0
    rw [hA] at ha; cases ha; exact hB
theorem bs_move {w w' : World} {B : Nat} {A : Option Addr} {n c : Nat} {l : List UInt8} (h : Bs w A n c l) (hf : 0 < n → ∀ a, A = some a → B ≤ a.block) (hk : ∀ b, B ≤ b → b < w.heap.size → w'.heap[b]? = w.heap[b]?) : Bs w' A n c l :=
  ⟨h.1, h.2.1, h.2.2.1, fun hn => by
    obtain ⟨b, o, e, hc⟩ := h.2.2.2 hn
    refine ⟨b, o, e, fun i hi => ?_⟩
    exact (World.cell?_of_block (w := w) (a := ⟨b, o + i, none⟩) (hk b (hf hn _ e) (World.block_lt_of_cell? w _ (hc i hi)))).trans (hc i hi)⟩
theorem rd_move {w w' : World} {B : Nat} {A : Option Addr} {n c : Nat} {ps : List Po} (h : RdO w A n c ps) (hf : Fr B A n ps) (hk : ∀ b, B ≤ b → b < w.heap.size → w'.heap[b]? = w.heap[b]?) : RdO w' A n c ps :=
  ⟨⟨h.1.1, h.1.2.1, h.1.2.2.1, fun hn => by
    obtain ⟨b, o, e, hc⟩ := h.1.2.2.2 hn
    refine ⟨b, o, e, fun i hi => ?_⟩
    exact (World.cell?_of_block (w := w) (a := ⟨b, o + i, none⟩) (hk b (hf.1 hn _ e) (World.block_lt_of_cell? w _ (hc i hi)))).trans (hc i hi)⟩, fun p hp => bs_move (h.2 p hp) (hf.2 p hp) hk⟩
def DelR (B : Nat) (A : Option Addr) (ps : List Po) (w : World) (e : Ending) (w' : World) : Prop := ∃ A' k c' qs, e = .returned (.slice A' k c') ∧ RdO w' A' k c' qs ∧ osP qs = withoutL (osP ps) 52 ∧ Below B w w' ∧ Fr B A' k qs ∧ ∀ b, b < w.heap.size → (∀ a, A = some a → a.block ≠ b) → w'.heap[b]? = w.heap[b]?
set_option maxHeartbeats 2000000 in
theorem delete52 (B : Nat) (A : Option Addr) (n c : Nat) (ps : List Po) (w : World) (hB : B ≤ w.heap.size) (hown : OwnO 46 5 B w A n c ps) (hr : rightL (osP ps) = true) (hm : (52 : Int) ∈ codesL (osP ps)) :
    Calls Tryz.prog 67 #[.slice A n c, .func (.func 121) #[] #[]] w (DelR B A ps w) := by
  obtain ⟨i, hi, hp, hcode, hno⟩ := place_mem hm
  have hl := hown.1.len
  have hi' : i < ps.length := by rw [os_len] at hi; exact hi
  have hn60 : n ≤ 60 := by have := right_len hr; rw [os_len, hl] at this; exact this
  obtain ⟨g, rfl, hBg, hglt⟩ := hown.1.head (by omega)
  have HW : Hid (osP (ps.eraseIdx i) = withoutL (osP ps) 52) := by
    show osP (ps.eraseIdx i) = _
    rw [← without_erase hr hi hcode]
    simp [osP, List.eraseIdx_eq_take_drop_succ, List.map_take, List.map_drop]
  have HN : Hid (∀ j (h : j < ps.length), i ≠ j → (ps[j]).code ≠ 52) := fun j hj hij => by
    have := other_code hr hi (by rw [os_len]; exact hj) hij hcode
    rw [os_get hj] at this
    exact this
  have HBy : Hid (∀ p ∈ ps, p.bs w ∧ (0 < p.l.length → ∀ a, p.A = some a → a.block ≠ g)) := fun p hp => by
    refine ⟨(hown.2.1 p hp).bs, fun h0 a ha => ?_⟩
    obtain ⟨g', hA', _, _⟩ := (hown.2.1 p hp).head h0
    have hap := rows_apart2 (w := w) (e := 46) (e' := 5) (by decide) hown.1 (hown.2.1 p hp)
    rw [hA'] at ha hap
    cases ha
    rcases hap with k | k
    · simp [Value.ownBlock] at k
    · simp [Value.ownBlock] at k
      exact fun e => k e.symm
  have HFR := Lib.hid (own_fr hown)
  have hrd := hown.rd
  have hmax := hrd.max
  have hcap := hrd.cap
  have HP := Lib.hid hp
  have hO := hown.1
  have HL := Lib.hid hl
  clear hown hp hl hm hno hr hcode hi
  have hin : i < n := by have := HL.out; omega
  go_enter Tryz.func67, Tryz.ntmps67
  go_wp2_with fail
  refine (index52 _ n c ps _ hrd).mono ?_
  rw [HP.out]
  rintro e w1 ⟨rfl, hb1⟩
  have hO1 := hO.below hb1
  have hg1 : w.grownBy w1 (some g) := grownBy_of_below hb1 _
  clear hrd
  have hi1 : ((i : Int) == -1) = false := by simp
  go_wp2
  go_loopw [5, 6] (fun v5 v6 wr => StD B g n c i ps w v5 v6 wr) (fun _ v6 _ => n - (intOf v6).toNat)
  case atStart => exact ⟨i + 1, by omega, by omega, by go_num, by simp, by rw [down_start ps i hi']; exact hO1, hg1⟩
  case round =>
    obtain ⟨j, hij, hjn, rfl, rfl, hOr, hgr⟩ := hrel
    by_cases hlt : j < n
    · have hjp : j < ps.length := by have := HL.out; omega
      have hdl : (downP ps i j).length = n := by rw [down_len hi' hij (by omega)]; exact HL.out
      have hdj : j < (downP ps i j).length := by omega
      have hdj1 : j - 1 < (downP ps i j).length := by omega
      obtain ⟨c1, c2⟩ := hOr.at_ hdj
      have ed : (downP ps i j)[j] = ps[j] := by
        have := down_get hi' hij hjp
        rw [List.getElem?_eq_getElem hdj] at this
        exact Option.some.inj this
      rw [ed] at c1 c2
      have hne : ((ps[j]).code == 52) = false := by simpa using HN.out j hjp (by omega)
      have HST := Lib.hid (down_step hi' hij hjp)
      obtain ⟨d1, d2⟩ := hOr.at_ hdj1
      generalize ps[j] = q at c1 c2 hne HST
      have hglr : g < wr.heap.size := World.block_lt_of_cell? wr _ c1
      have hba : Below wr.heap.size wr (wr.alloc (.cells #[.int .i64 q.code, .slice q.A q.l.length q.c] 46)) := (Below.refl _ _).alloc (Nat.le_refl _) _
      have hcel := Cel.born wr 46 #[.int .i64 q.code, .slice q.A q.l.length q.c]
      have c2' : wr.cell? ⟨g, j * 2 + 1, none⟩ = some (.slice q.A q.l.length q.c) := c2
      clear c2
      go_wp2_with fail
      refine (is52 q.code q.A q.l.length q.c _).mono ?_
      rintro e w2 ⟨rfl, hb2⟩
      have hb02 := hba.trans (hb2.mono hba.size)
      have hO2 := hOr.below hb02
      have hcel2 := hcel.below hb2 hcel.lt
      have k1 : w2.cell? ⟨wr.heap.size, 0, none⟩ = some (.int .i64 q.code) := by rw [hcel2.cell]; rfl
      have k2 : w2.cell? ⟨wr.heap.size, 1, none⟩ = some (.slice q.A q.l.length q.c) := by rw [hcel2.cell]; rfl
      have e1 : w2.cell? ⟨g, (j - 1) * 2, none⟩ = some (.int .i64 ((downP ps i j)[j - 1]).code) := (hb02.cell (p := ⟨g, (j - 1) * 2, none⟩) hglr).trans d1
      have e2 : w2.cell? ⟨g, (j - 1) * 2 + 1, none⟩ = some ((downP ps i j)[j - 1]).dv := (hb02.cell (p := ⟨g, (j - 1) * 2 + 1, none⟩) hglr).trans d2
      have f1 : w2.frozen? ⟨g, (j - 1) * 2, none⟩ = false := hO2.frozen _
      have f2 : w2.frozen? ⟨g, (j - 1) * 2 + 1, none⟩ = false := hO2.frozen _
      have hput := Lib.hid (own_put hO2 hdj1 q)
      have hg2 := Lib.hid (grown_trans (grown_trans (grown_below hgr hb02) (grown_set w2 g ((j - 1) * 2) (.int .i64 q.code))) (grown_set _ g ((j - 1) * 2 + 1) q.dv))
      clear hcel hcel2 hOr d1 d2 hO2
      go_wp2
      go_roundw
      case rel => exact ⟨j + 1, by omega, by omega, by go_num, by go_num, by rw [← HST.out]; exact hput.out, hg2.out⟩
      case measure => simp [intOf]; omega
    · obtain rfl : j = n := by omega
      have hdl : (downP ps i j).length = j := by rw [down_len hi' hij (by have := HL.out; omega)]; exact HL.out
      have hclr := fun ty => clear1 hOr (k := j - 1) (by omega) (j - (j - 1)) (c - (j - 1)) (by omega) ty
      have hput := own_put hOr (i := j - 1) (by omega) ⟨0, none, 0, []⟩
      have hg2 : w.grownBy ((wr.setCell ⟨g, (j - 1) * 2, none⟩ (.int .i64 0)).setCell ⟨g, (j - 1) * 2 + 1, none⟩ (.slice none 0 0)) (some g) := grown_trans (grown_trans hgr (grown_set wr g ((j - 1) * 2) (.int .i64 0))) (grown_set _ g ((j - 1) * 2 + 1) (.slice none 0 0))
      have HPUT := Lib.hid hput
      clear hput
      go_wp2
      go_ret
      have hE : ((downP ps i j).set (j - 1) ⟨0, none, 0, []⟩).take (j - 1) = ps.eraseIdx i := by
        rw [List.take_set_of_le (Nat.le_refl _)]
        have := down_end hi'
        rw [HL.out] at this
        exact this
      have hr1 := HPUT.out.rdc
      have hj0 : 0 < j := by omega
      refine ⟨some ⟨g, 0, none⟩, j - 1, c, ps.eraseIdx i, rfl, ⟨⟨?_, by omega, hr1.2.2.1, fun h0 => ?_⟩, fun p hp => ?_⟩, HW.out, (Below.refl _ _).grown hg2 hB (fun k hk => by cases hk; exact hBg), ⟨fun _ a ha => by cases ha; exact hBg, fun q hq h0 a ha => HFR.out.2 q (List.mem_of_mem_eraseIdx hq) h0 a ha⟩, fun b hb hne => hg2.block b hb (fun e => hne _ rfl (Option.some.inj e).symm)⟩
      · rw [cellsP_len, List.length_eraseIdx_of_lt hi', HL.out]
      · obtain ⟨b, o, e, hc⟩ := hr1.2.2.2 hj0
        refine ⟨b, o, e, fun q hq => ?_⟩
        have e3 : cellsP ((downP ps i j).set (j - 1) ⟨0, none, 0, []⟩) = cellsP (ps.eraseIdx i) ++ cellsP (((downP ps i j).set (j - 1) ⟨0, none, 0, []⟩).drop (j - 1)) := by rw [← cellsP_app, ← hE, List.take_append_drop]
        have hq2 : q < (cellsP ((downP ps i j).set (j - 1) ⟨0, none, 0, []⟩)).length := by rw [e3, List.length_append]; omega
        have := hc q hq2
        simp only [e3, List.getElem_append_left hq] at this
        exact this
      · obtain ⟨k1, k2⟩ := HBy.out p (List.mem_of_mem_eraseIdx hp)
        exact bs_grown k1 k2 hg2
end Go.Proofs.YtabjcgchcnnjjaaGreatDoor.Mw
