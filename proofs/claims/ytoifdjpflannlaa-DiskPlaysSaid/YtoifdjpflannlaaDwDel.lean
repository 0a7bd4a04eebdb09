/- What slices.Contains at strings, slices.DeleteFunc and disk.without come to: entries without those of some names, in an array of the call's own. For up to 1000 entries. -/
import Derived.Test.YtoifdjpflannlaaDwSl
set_option maxRecDepth 8000
namespace Go.Proofs.Ytoifdjpflannlaa.Dw
open Go.RowKit By Dk

/-! ### Memory: an entry stored, a tail cleared -/
theorem cellsE_cons (e : E) (l : List E) : layE.cells (e :: l) = .string (ba e.1) :: .int .i64 e.2 :: layE.cells l := by simp [Lay.cells, layE]
theorem cellsE_put (l : List E) (i : Nat) (h : i < l.length) (q : E) : ((layE.cells l).set (i * 2) (.string (ba q.1))).set (i * 2 + 1) (.int .i64 q.2) = layE.cells (l.set i q) := by
  induction l generalizing i with
  | nil => cases h
  | cons p l ih =>
    match i with
    | 0 => simp [cellsE_cons]
    | i + 1 =>
      rw [cellsE_cons, show (i + 1) * 2 = i * 2 + 2 by omega, show (i * 2 + 2) + 1 = (i * 2 + 1) + 2 by omega]
      simp only [List.set_cons_succ]
      rw [cellsE_cons, ih i (by simpa using h)]
theorem putE {e B g n c : Nat} {w : World} {l : List E} (h : OwnE e B w (some ⟨g, 0, none⟩) n c l) {i : Nat} (hi : i < l.length) (q : E) :
    OwnE e B ((w.setCell ⟨g, i * 2, none⟩ (.string (ba q.1))).setCell ⟨g, i * 2 + 1, none⟩ (.int .i64 q.2)) (some ⟨g, 0, none⟩) n c (l.set i q) := by
  have h1 := (World.ownsRow.stored h.1 (i * 2) (.string (ba q.1))).1
  have h2 := (World.ownsRow.stored h1 (i * 2 + 1) (.int .i64 q.2)).1
  refine ⟨?_, by rw [List.length_set]; exact h.2⟩
  rw [← cellsE_put l i hi q]
  exact h2
theorem atO {e B g n c : Nat} {w : World} {l : List E} (h : OwnE e B w (some ⟨g, 0, none⟩) n c l) {k : Nat} {s : N} {f : Int} (hk : l[k]? = some (s, f)) : w.cell? ⟨g, k * 2, none⟩ = some (.string (ba s)) ∧ w.cell? ⟨g, k * 2 + 1, none⟩ = some (.int .i64 f) := by
  have hlt := (List.getElem?_eq_some_iff.1 hk).1
  obtain ⟨b, o, s', f', e1, _, HE, c1, c2⟩ := atE h.rd (k := k) (by have := h.2; omega)
  simp only [Option.some.injEq, Addr.mk.injEq, and_true] at e1
  obtain ⟨rfl, rfl⟩ := e1
  have e2 := HE.out
  rw [hk] at e2
  injection e2 with e2
  injection e2 with e3 e4
  subst e3; subst e4
  rw [Nat.zero_add] at c1 c2
  exact ⟨c1, c2⟩
theorem headG {α : Type} {Y : Lay α} {e B n c : Nat} {w : World} {A : Option Addr} {l : List α} (h : OwnG Y e B w A n c l) (hn : 0 < n) : ∃ g, A = some ⟨g, 0, none⟩ ∧ B ≤ g ∧ g < w.heap.size := by
  obtain ⟨g, cap, hv, hB, hlt⟩ := World.ownsRow.form h.1 hn
  simp only [Value.slice.injEq, true_and] at hv
  exact ⟨g, hv.1, hB, hlt⟩
theorem grown_trans {a b c : World} {g : Nat} (h : a.grownBy b (some g)) (k : b.grownBy c (some g)) : a.grownBy c (some g) := grownBy_trans h k (.inl rfl)
theorem grown_below {a b c : World} {g : Nat} (h : a.grownBy b (some g)) (k : Below b.heap.size b c) : a.grownBy c (some g) := grown_trans h (grownBy_of_below k _)
theorem zero_oneE (m : Nat) : ∀ v ∈ (Builtin.zeroCells (Value.agg #[.string ⟨#[]⟩, .int .i64 0]).cells m).toList, v.oneCell' = true := by
  intro v hv
  have e : (Value.agg #[.string ⟨#[]⟩, .int .i64 0]).cells = #[.string ⟨#[]⟩, .int .i64 0] := by kernel_rfl
  rw [e] at hv
  simp only [Builtin.zeroCells, Array.toList_map, List.mem_map] at hv
  obtain ⟨i, _, rfl⟩ := hv
  have h2 : i % (#[Value.string ⟨#[]⟩, Value.int .i64 0] : Array Value).size = 0 ∨ i % (#[Value.string ⟨#[]⟩, Value.int .i64 0] : Array Value).size = 1 := by
    have : (#[Value.string ⟨#[]⟩, Value.int .i64 0] : Array Value).size = 2 := rfl
    rw [this]
    omega
  rcases h2 with h2 | h2 <;> rw [h2] <;> rfl
/-- 'clear(s[i:])', and what is left ahead. -/
theorem clear_tail {B g n c : Nat} {W : World} {qs : List E} (hO : OwnE 68 B W (some ⟨g, 0, none⟩) n c qs) {i : Nat} (hi : i < n) :
    ∃ W', (∀ ty, (Builtin.clear_ #[23] ty #[.slice (some ⟨g, i * 2, none⟩) (n - i) (c - i)]).run Try.prog W = .ok (.tuple #[]) W') ∧ OwnE 68 B W' (some ⟨g, 0, none⟩) i c (qs.take i) ∧ W.grownBy W' (some g) := by
  have hlen := hO.1.1
  have hl2 := hO.2
  rcases hO.1.2 with ⟨h', _⟩ | ⟨g', cap, cur, h', hBg, hg, hnc, hcm, hsz, htake⟩
  · cases h'
  simp only [Value.slice.injEq, Option.some.injEq, Addr.mk.injEq, true_and, and_true] at h'
  obtain ⟨rfl, rfl⟩ := h'
  have es : layE.s = 2 := rfl
  rw [es] at hsz htake
  obtain ⟨m, hm⟩ : ∃ m, n - i = m + 1 := ⟨n - i - 1, by omega⟩
  have e : (Value.agg #[.string ⟨#[]⟩, .int .i64 0]).cells.size = 2 := by kernel_rfl
  have hvl : (Builtin.zeroCells (Value.agg #[.string ⟨#[]⟩, .int .i64 0]).cells (m + 1)).toList.length = (m + 1) * 2 := by
    rw [Array.length_toList, size_zeroCells, e]
  have hst := run_storeCells_at Try.prog g (i * 2) 68 _ 0 cur W hg (by rw [hvl]; omega) (zero_oneE (m + 1))
  refine ⟨W.setRow g (cur.toList.take (i * 2 + 0) ++ (Builtin.zeroCells (Value.agg #[.string ⟨#[]⟩, .int .i64 0]).cells (m + 1)).toList ++ cur.toList.drop (i * 2 + 0 + (Builtin.zeroCells (Value.agg #[.string ⟨#[]⟩, .int .i64 0]).cells (m + 1)).toList.length)).toArray, fun ty => ?_, ⟨⟨?_, .inr ⟨g, c, _, rfl, hBg, setRow_heap W g cur _ _ _ hg, by omega, hcm, ?_, ?_⟩⟩, ?_⟩, ?_⟩
  · rw [hm]
    simp only [Builtin.clear_]
    simp [run_underlying Try.underlying23, hst, Result.andThen]
  · rw [layE.cells_len, List.length_take, Nat.min_eq_left (by omega)]
  · rw [es]
    simp only [List.size_toArray, List.length_append, List.length_take, List.length_drop, hvl, Array.length_toList, hsz]
    omega
  · rw [es, layE.cells_take _ _ (by omega), es, ← htake, List.take_take]
    simp only [Nat.add_zero]
    rw [List.append_assoc, List.take_append_of_le_length (by rw [List.length_take, Array.length_toList, hsz]; omega), List.take_take]
    congr 1
    omega
  · rw [List.length_take]; omega
  · exact ⟨rfl, rfl, rfl, by simp, fun k _ hne => setRow_other W g k _ (fun e => hne (by rw [e]))⟩

/-! ### Mathematics -/
def dropE (l : List E) (q : E → Bool) : List E := l.filter fun e => !q e
theorem dropE_none {l : List E} {q : E → Bool} (h : ∀ e ∈ l, q e = false) : dropE l q = l := List.filter_eq_self.2 fun e he => by rw [h e he]; rfl
theorem dropE_keep {l : List E} {q : E → Bool} {j : Nat} {x : E} (h : l[j]? = some x) (hc : q x = false) : dropE (l.take (j + 1)) q = dropE (l.take j) q ++ [x] := by
  unfold dropE
  rw [take_next h, List.filter_append]
  simp [hc]
theorem dropE_drop {l : List E} {q : E → Bool} {j : Nat} {x : E} (h : l[j]? = some x) (hc : q x = true) : dropE (l.take (j + 1)) q = dropE (l.take j) q := by
  unfold dropE
  rw [take_next h, List.filter_append]
  simp [hc]
/-- What DeleteFunc's loop holds of the array. -/
def HalfE (ps qs : List E) (q : E → Bool) (i j : Nat) : Prop := qs.length = ps.length ∧ qs.take i = dropE (ps.take j) q ∧ qs.drop j = ps.drop j ∧ (dropE (ps.take j) q).length = i ∧ i < j
theorem half_start {ps : List E} {q : E → Bool} {i : Nat} {x : E} (hi : ps[i]? = some x) (hc : q x = true) (hn : ∀ k, k < i → hitE q ps k = false) : HalfE ps ps q i (i + 1) := by
  have hlt := (List.getElem?_eq_some_iff.1 hi).1
  have e : dropE (ps.take (i + 1)) q = ps.take i := by
    rw [dropE_drop hi hc]
    refine dropE_none fun e he => ?_
    obtain ⟨k, hk⟩ := List.mem_iff_getElem?.1 he
    have hk1 := (List.getElem?_eq_some_iff.1 hk).1
    rw [List.length_take] at hk1
    rw [List.getElem?_take, if_pos (by omega)] at hk
    rw [← hit_at (q := q) hk]
    exact hn k (by omega)
  exact ⟨rfl, e.symm, rfl, by rw [e, List.length_take]; omega, by omega⟩
theorem half_get {ps qs : List E} {q : E → Bool} {i j : Nat} (h : HalfE ps qs q i j) (_ : j < ps.length) : qs[j]? = ps[j]? := by
  obtain ⟨h1, _, h3, _⟩ := h
  have e1 : (qs.drop j)[0]? = (ps.drop j)[0]? := by rw [h3]
  rw [List.getElem?_drop, List.getElem?_drop] at e1
  simpa using e1
theorem half_drop {ps qs : List E} {q : E → Bool} {i j : Nat} {x : E} (h : HalfE ps qs q i j) (hj : ps[j]? = some x) (hc : q x = true) : HalfE ps qs q i (j + 1) := by
  obtain ⟨h1, h2, h3, h4, h5⟩ := h
  refine ⟨h1, by rw [dropE_drop hj hc]; exact h2, ?_, by rw [dropE_drop hj hc]; exact h4, by omega⟩
  rw [← List.drop_drop, h3, List.drop_drop]
theorem half_keep {ps qs : List E} {q : E → Bool} {i j : Nat} {x : E} (h : HalfE ps qs q i j) (hj : ps[j]? = some x) (hc : q x = false) : HalfE ps (qs.set i x) q (i + 1) (j + 1) := by
  obtain ⟨h1, h2, h3, h4, h5⟩ := h
  have hlt := (List.getElem?_eq_some_iff.1 hj).1
  refine ⟨by simpa using h1, ?_, ?_, by rw [dropE_keep hj hc, List.length_append, h4]; rfl, by omega⟩
  · rw [dropE_keep hj hc, ← h2]
    rw [List.take_succ_eq_append_getElem (by simp; omega), List.take_set_of_le (Nat.le_refl _)]
    simp
  · rw [List.drop_set_of_lt (by omega), ← List.drop_drop, h3, List.drop_drop]

/-! ### slices.Contains at strings, the closure -/
def memB (ns : List N) (t : N) : Bool := decide (t ∈ ns)
theorem strV_get {l : List N} {k : Nat} (h : k < l.length) : (strV l)[k]'(by rw [strV_len]; exact h) = .string (ba l[k]) := by simp [strV]
set_option maxHeartbeats 400000 in
theorem indexS_any (A : Option Addr) (n c : Nat) (ns : List N) (t : N) (w : World) (h : Rd w A n c (strV ns)) :
    Calls Try.prog 98 #[.slice A n c, .string (ba t)] w fun e w' => (∃ i : Int, e = .returned (.int .i64 i) ∧ decide (0 ≤ i) = memB ns t) ∧ w = w' := by
  have hl : Hid (ns.length = n) := by have := h.len; rwa [strV_len] at this
  have hm := h.max
  have hcap := h.cap
  go_enter Try.func98, Try.ntmps98
  go_wp2
  go_loop [8] (fun i => ∃ k : Nat, k ≤ n ∧ i = .int .i64 k ∧ t ∉ ns.take k) (fun i => n - (intOf i).toNat)
  case atStart => exact ⟨0, by omega, rfl, by simp⟩
  case round =>
    obtain ⟨k, hk, rfl, hs⟩ := hrel
    have HS := Lib.hid hs
    clear hs
    by_cases hlt : k < n
    · obtain ⟨b, o, rfl, hc⟩ := h.at_ hlt
      have hkl : k < ns.length := by have := hl.out; omega
      have hcell := hc k (by rw [strV_len]; exact hkl)
      rw [strV_get hkl] at hcell
      clear hc
      by_cases he : t = ns[k]
      · have H : Hid (memB ns t = true) := decide_eq_true (by rw [he]; exact List.getElem_mem hkl)
        have hb := same_yes he
        clear he
        generalize ns[k] = y at hcell hb
        clear hkl
        go_wp2
        go_ret
        exact ⟨⟨_, rfl, by rw [H.out]; simp⟩, rfl⟩
      · have H : Hid (t ∉ ns.take (k + 1)) := by
          show ¬ _
          rw [List.take_succ_eq_append_getElem hkl]
          intro hm
          rcases List.mem_append.1 hm with hm | hm
          · exact HS.out hm
          · simp at hm; exact he hm
        have hb := same_no he
        clear he
        generalize ns[k] = y at hcell hb
        clear hkl
        go_wp2
        go_round
        case rel => exact ⟨k + 1, by omega, by go_num, H.out⟩
        case measure => simp [intOf]; omega
    · obtain rfl : k = n := by omega
      have H : Hid (memB ns t = false) := decide_eq_false (by have := HS.out; rwa [List.take_of_length_le (by rw [hl.out]; exact Nat.le_refl _)] at this)
      go_wp2
      go_ret
      exact ⟨⟨_, rfl, by rw [H.out]; rfl⟩, rfl⟩
theorem containsS_any (A : Option Addr) (n c : Nat) (ns : List N) (t : N) (w : World) (h : Rd w A n c (strV ns)) :
    Calls Try.prog 90 #[.slice A n c, .string (ba t)] w fun e w' => e = .returned (.bool (memB ns t)) ∧ w = w' := by
  have HC := Lib.hid (indexS_any A n c ns t w h)
  clear h
  go_enter Try.func90, Try.ntmps90
  go_wp2_with fail
  refine HC.out.mono ?_
  rintro e w1 ⟨⟨i, rfl, hi⟩, rfl⟩
  have HI := Lib.hid hi
  clear hi
  go_wp2
  go_ret
  exact ⟨ret_bool HI.out, rfl⟩
/-- The names that a closure holds, at g. -/
def Nms (w : World) (g : Nat) (ns : List N) : Prop := g < w.heap.size ∧ ∃ A n c, w.cell? ⟨g, 0, none⟩ = some (.slice A n c) ∧ Rd w A n c (strV ns)
theorem Nms.below {w w' : World} {g : Nat} {ns : List N} (h : Nms w g ns) (hb : Below w.heap.size w w') : Nms w' g ns := by
  obtain ⟨h1, A, n, c, h2, h3⟩ := h
  exact ⟨Nat.lt_of_lt_of_le h1 hb.size, A, n, c, (hb.cell (p := ⟨g, 0, none⟩) h1).trans h2, h3.below hb⟩
theorem without1_any (s : N) (f : Int) (g : Nat) (ns : List N) (w : World) (h : Nms w g ns) :
    Calls Try.prog 89 #[.agg #[.string (ba s), .int .i64 f], .pointer (some ⟨g, 0, none⟩)] w (isB w (memB ns s)) := by
  have hb : Below w.heap.size w (w.alloc (.cells #[.string (ba s), .int .i64 f] 68)) := (Below.refl _ _).alloc (Nat.le_refl _) _
  obtain ⟨hg, A, n, c, h2, h3⟩ := h
  have hne : g ≠ w.heap.size := by omega
  have HC := Lib.hid (containsS_any A n c ns s (w.alloc (.cells #[.string (ba s), .int .i64 f] 68)) (h3.below hb))
  clear h3
  go_enter Try.func89, Try.ntmps89
  go_wp2_with fail
  refine HC.out.mono ?_
  rintro e w1 ⟨rfl, rfl⟩
  go_wp2
  go_ret
  exact ⟨rfl, hb⟩

/-! ### DeleteFunc -/
def namedQ (ns : List N) (e : E) : Bool := memB ns e.1
def StD (B g n c : Nat) (ps : List E) (q : E → Bool) (w : World) (v5 v6 : Value) (wr : World) : Prop :=
  ∃ (i j : Nat) (qs : List E), j ≤ n ∧ v6 = .int .i64 (j : Nat) ∧ v5 = .int .i64 (i : Nat) ∧ OwnE 68 B wr (some ⟨g, 0, none⟩) n c qs ∧ HalfE ps qs q i j ∧ w.grownBy wr (some g)
/-- A slice of the call's own array that holds the entries qs. -/
def DeR (B : Nat) (w : World) (qs : List E) (e : Ending) (w' : World) : Prop := ∃ A' k c', e = .returned (.slice A' k c') ∧ OwnE 68 B w' A' k c' qs ∧ Below B w w'
set_option maxHeartbeats 2000000 in
theorem deleteE_any (B : Nat) (A : Option Addr) (n c : Nat) (ps : List E) (ns : List N) (gb : Nat) (w : World) (hB : B ≤ w.heap.size) (hO : OwnE 68 B w A n c ps) (hn : n ≤ 1000) (_ : gb < B) (hns : ∀ W, Below B w W → Nms W gb ns) :
    Calls Try.prog 87 #[.slice A n c, .func (.func 89) #[] #[.pointer (some ⟨gb, 0, none⟩)]] w (DeR B w (dropE ps (namedQ ns))) := by
  have HL := Lib.hid hO.2
  have hmax := hO.rd.max
  have hcap := hO.rd.cap
  have HNS := Lib.hid hns
  have HIX := Lib.hid (indexE_gen 89 gb Try.call89 w.heap.size A n c ps (hitE (namedQ ns) ps) (fun _ W => Below w.heap.size w W) w hO.rd (fun _ W hW => hO.rd.below hW) (Below.refl _ _) (fun k s f W hk hW => by
    refine (without1_any s f gb ns W (hns W (hW.mono hB))).mono ?_
    rintro e W' ⟨rfl, hb⟩
    exact ⟨by rw [hit_at hk]; rfl, hW.trans (hb.mono hW.size)⟩))
  clear hns
  go_enter Try.func87, Try.ntmps87
  go_wp2_with fail
  refine HIX.out.mono ?_
  rintro e w1 (⟨i, hin, rfl, h1, h2, hb1⟩ | ⟨rfl, h2, hb1⟩)
  rotate_left
  · have HK : Hid (dropE ps (namedQ ns) = ps) := dropE_none (hit_none (by rw [HL.out]; exact h2))
    clear h2
    go_wp2
    go_ret
    exact ⟨A, n, c, rfl, by rw [HK.out]; exact hO.below hb1, hb1.mono hB⟩
  obtain ⟨x0, hx0, hq0⟩ := hit_some h1
  have HH := Lib.hid (half_start hx0 hq0 h2)
  obtain ⟨g, rfl, hBg, hglt⟩ := headG hO (by omega)
  have hi1 : ((i : Int) == -1) = false := by simp
  have hO1 := hO.below hb1
  have hg1 : w.grownBy w1 (some g) := grownBy_of_below hb1 _
  clear hx0 hq0 h1 h2 x0
  go_wp2
  go_loopw [5, 6] (fun v5 v6 wr => StD B g n c ps (namedQ ns) w v5 v6 wr) (fun _ v6 _ => n - (intOf v6).toNat)
  case atStart => exact ⟨i, i + 1, ps, by omega, by go_num, rfl, hO1, HH.out, hg1⟩
  case round =>
    clear hi1 hin HH hO1 hg1 HIX
    obtain ⟨i, j, qs, hjn, rfl, rfl, hOr, hhalf, hgr⟩ := hrel
    have HHr := Lib.hid hhalf
    have hij : i < j := hhalf.2.2.2.2
    clear hhalf
    have hbB : Below B w wr := (Below.refl _ _).grown hgr hB (fun k hk => by cases hk; exact hBg)
    by_cases hlt : j < n
    · have hjp : j < ps.length := by have := HL.out; omega
      obtain ⟨s, f, hps⟩ : ∃ s f, ps[j]? = some (s, f) := ⟨_, _, List.getElem?_eq_getElem hjp⟩
      have hqs := (half_get HHr.out hjp).trans hps
      have hiq : i < qs.length := by have h1 := HHr.out.1; omega
      obtain ⟨si, fi, hqi⟩ : ∃ s f, qs[i]? = some (s, f) := ⟨_, _, List.getElem?_eq_getElem hiq⟩
      obtain ⟨c1, c2⟩ := atO hOr hqs
      obtain ⟨d1, d2⟩ := atO hOr hqi
      have HKP := Lib.hid (half_keep HHr.out hps)
      have HDR := Lib.hid (half_drop HHr.out hps)
      have hglr : g < wr.heap.size := World.block_lt_of_cell? wr _ c1
      have hba : Below wr.heap.size wr (wr.alloc (.cells #[.string (ba s), .int .i64 f] 68)) := (Below.refl _ _).alloc (Nat.le_refl _) _
      have hcel := Cel.born wr 68 #[.string (ba s), .int .i64 f]
      have HW1 := Lib.hid (without1_any s f gb ns (wr.alloc (.cells #[.string (ba s), .int .i64 f] 68)) (HNS.out _ (hbB.trans (hba.mono (Nat.le_trans hB hgr.size)))))
      clear hqs hqi hps hjp
      go_wp2_with fail
      refine HW1.out.mono ?_
      rintro e w2 ⟨rfl, hb2⟩
      have hb02 := hba.trans (hb2.mono hba.size)
      have hO2 := hOr.below hb02
      cases he : memB ns s with
      | true =>
        have H := Lib.hid (HDR.out he)
        have hg2 := Lib.hid (grown_below hgr hb02)
        clear he hcel d1 d2 c1 c2
        go_wp2
        go_roundw
        case rel => exact ⟨i, j + 1, qs, by omega, by go_num, rfl, hO2, H.out, hg2.out⟩
        case measure => simp [intOf]; omega
      | false =>
        have H := Lib.hid (HKP.out he)
        have hcel2 := hcel.below hb2 hcel.lt
        have k1 : w2.cell? ⟨wr.heap.size, 0, none⟩ = some (.string (ba s)) := by rw [hcel2.cell]; rfl
        have k2 : w2.cell? ⟨wr.heap.size, 1, none⟩ = some (.int .i64 f) := by rw [hcel2.cell]; rfl
        have e1 : w2.cell? ⟨g, i * 2, none⟩ = some (.string (ba si)) := (hb02.cell (p := ⟨g, i * 2, none⟩) hglr).trans d1
        have e2 : w2.cell? ⟨g, i * 2 + 1, none⟩ = some (.int .i64 fi) := (hb02.cell (p := ⟨g, i * 2 + 1, none⟩) hglr).trans d2
        have f1 : w2.frozen? ⟨g, i * 2, none⟩ = false := World.ownsRow.frozenAt hO2.1 _
        have f2 : w2.frozen? ⟨g, i * 2 + 1, none⟩ = false := World.ownsRow.frozenAt hO2.1 _
        have hput := Lib.hid (putE hO2 hiq (s, f))
        have hg2 := Lib.hid (grown_trans (grown_trans (grown_below hgr hb02) (grown_set w2 g (i * 2) (.string (ba s)))) (grown_set _ g (i * 2 + 1) (.int .i64 f)))
        clear hcel hcel2 hOr d1 d2 hO2 he c1 c2
        go_wp2
        go_roundw
        case rel => exact ⟨i + 1, j + 1, qs.set i (s, f), by omega, by go_num, by go_num, hput.out, H.out, hg2.out⟩
        case measure => simp [intOf]; omega
    · obtain rfl : j = n := by omega
      have HE : Hid (qs.take i = dropE ps (namedQ ns)) := by
        obtain ⟨_, h2, _⟩ := HHr.out
        show qs.take i = _
        rw [h2, List.take_of_length_le (by have := HL.out; omega)]
      obtain ⟨W', hclr, hown', hgr'⟩ := clear_tail hOr hij
      have HO' := Lib.hid hown'
      have HG' := Lib.hid (grown_trans hgr hgr')
      clear hown' hgr' hOr hgr hbB
      go_wp2
      go_ret
      exact ⟨_, i, c, rfl, by rw [← HE.out]; exact HO'.out, (Below.refl _ _).grown HG'.out hB (fun k hk => by cases hk; exact hBg)⟩

/-! ### without -/
def withoutNs (l : List E) (ns : List N) : List E := dropE l (namedQ ns)
theorem without_one (l : List E) (t : N) : withoutNs l [t] = withoutE l t := by
  unfold withoutNs dropE withoutE namedQ memB
  congr 1
  funext e
  simp
theorem without_two (l : List E) (a b : N) : withoutNs l [a, b] = withoutE (withoutE l a) b := by
  unfold withoutNs dropE withoutE namedQ memB
  rw [List.filter_filter]
  congr 1
  funext e
  simp
  rw [Bool.and_comm]
set_option maxHeartbeats 1000000 in
theorem without_any (A : Option Addr) (n c : Nat) (l : List E) (As : Option Addr) (m d : Nat) (ns : List N) (w : World) (h : RdE w.heap.size w A n c l) (hn : n ≤ 1000) (hs : Rd w As m d (strV ns)) :
    Calls Try.prog 65 #[.slice A n c, .slice As m d] w (DeR w.heap.size w (withoutNs l ns)) := by
  obtain ⟨w1, hw1⟩ : ∃ w1, w1 = w.alloc (.cells #[.slice As m d] 64) := ⟨_, rfl⟩
  have hb1 : Below w.heap.size w w1 := by rw [hw1]; exact (Below.refl _ _).alloc (Nat.le_refl _) _
  have hc1 : Cel w1 w.heap.size 64 #[.slice As m d] := by rw [hw1]; exact Cel.born w _ _
  have HCL := Lib.hid (cloneE_any w.heap.size A n c l w1 (h.below hb1) hb1.size (by omega))
  have hnm : Nms w1 w.heap.size ns := ⟨hc1.lt, As, m, d, by rw [hc1.cell]; rfl, hs.below hb1⟩
  have HNM := Lib.hid hnm
  have HB1 := Lib.hid hb1
  have hlt := hc1.lt
  clear h hb1 hc1 hs hnm
  go_enter Try.func65, Try.ntmps65
  go_wp2_with fail
  rw [← hw1]
  clear hw1
  refine HCL.out.mono ?_
  rintro e w2 ⟨A2, c2, rfl, hown, hb2⟩
  have HDE := Lib.hid (deleteE_any w1.heap.size A2 n c2 l ns w.heap.size w2 hb2.size hown hn hlt (fun W hW => HNM.out.below (hb2.trans hW)))
  have HB2 := Lib.hid hb2
  clear hown hb2
  go_wp2_with fail
  refine HDE.out.mono ?_
  rintro e w3 ⟨A3, k3, c3, rfl, hown3, hb3⟩
  go_wp2
  go_ret
  exact ⟨A3, k3, c3, rfl, hown3.mono HB1.out.size, (HB1.out.trans (HB2.out.mono HB1.out.size)).trans (hb3.mono HB1.out.size)⟩
end Go.Proofs.Ytoifdjpflannlaa.Dw
