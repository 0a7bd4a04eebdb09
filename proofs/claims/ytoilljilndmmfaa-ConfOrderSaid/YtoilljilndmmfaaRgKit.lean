/- Words for slices of structs of a fixed number of one-cell fields, over whatever program: one that reads as a list, one whose array the call owns; what is cut and appended. An element a lies in the cells 'cs a'. No conditions but those that each theorem names. -/
import Derived.Test.YtoilljilndmmfaaByKit
namespace Go.Proofs.Ytoilljilndmmfaa.By
open Go.RowKit

/-- How an element lies in memory: s cells, each of one cell. -/
structure Lay (α : Type) where
  s : Nat
  cs : α → List Value
  len : ∀ a, (cs a).length = s
  one : ∀ a, ∀ u ∈ cs a, u.oneCell' = true
section
variable {α : Type} (Y : Lay α)
def Lay.cells (l : List α) : List Value := l.flatMap Y.cs
theorem Lay.cells_len (l : List α) : (Y.cells l).length = l.length * Y.s := by
  unfold Lay.cells
  induction l with
  | nil => simp
  | cons a l ih => rw [List.flatMap_cons, List.length_append, ih, Y.len, List.length_cons, Nat.add_mul]; omega
theorem Lay.cells_app (a b : List α) : Y.cells (a ++ b) = Y.cells a ++ Y.cells b := by unfold Lay.cells; rw [List.flatMap_append]
theorem Lay.cells_one (a : α) : Y.cells [a] = Y.cs a := by simp [Lay.cells]
theorem Lay.cells_get : ∀ {l : List α} {i : Nat} (h : i < l.length) {j : Nat} {v : Value}, (Y.cs l[i])[j]? = some v → (Y.cells l)[i * Y.s + j]? = some v
  | a :: l, 0, _, j, v, hv => by
    have e : Y.cells (a :: l) = Y.cs a ++ Y.cells l := by simp [Lay.cells]
    have hj : j < (Y.cs a).length := (List.getElem?_eq_some_iff.1 hv).1
    rw [e, Nat.zero_mul, Nat.zero_add, List.getElem?_append_left hj]
    exact hv
  | a :: l, i + 1, h, j, v, hv => by
    have e : Y.cells (a :: l) = Y.cs a ++ Y.cells l := by simp [Lay.cells]
    have := Lay.cells_get (l := l) (i := i) (by simpa using h) (j := j) (v := v) (by simpa using hv)
    rw [e, show (i + 1) * Y.s + j = Y.s + (i * Y.s + j) by rw [Nat.add_mul]; omega, List.getElem?_append_right (by rw [Y.len]; omega), Y.len, Nat.add_sub_cancel_left]
    exact this
theorem Lay.cells_oneCell (l : List α) : ∀ u ∈ Y.cells l, u.oneCell' = true := by
  intro u hu
  obtain ⟨a, _, ha⟩ := List.mem_flatMap.1 hu
  exact Y.one a u ha
theorem Lay.cells_drop (l : List α) (k : Nat) (h : k ≤ l.length) : Y.cells (l.drop k) = (Y.cells l).drop (k * Y.s) := by
  have e : Y.cells l = Y.cells (l.take k) ++ Y.cells (l.drop k) := by rw [← Y.cells_app, List.take_append_drop]
  have e2 : (Y.cells (l.take k)).length = k * Y.s := by rw [Y.cells_len, List.length_take, Nat.min_eq_left h]
  rw [e, ← e2, List.drop_left]
theorem Lay.cells_take (l : List α) (k : Nat) (h : k ≤ l.length) : Y.cells (l.take k) = (Y.cells l).take (k * Y.s) := by
  have e : Y.cells l = Y.cells (l.take k) ++ Y.cells (l.drop k) := by rw [← Y.cells_app, List.take_append_drop]
  have e2 : (Y.cells (l.take k)).length = k * Y.s := by rw [Y.cells_len, List.length_take, Nat.min_eq_left h]
  rw [e, ← e2, List.take_left]
/-- The slice '.slice A n c' reads as the elements l; its block is below U. -/
def RdG (U : Nat) (w : World) (A : Option Addr) (n c : Nat) (l : List α) : Prop :=
  l.length = n ∧ n ≤ c ∧ c ≤ maxLen ∧ (0 < n → ∃ b o, A = some ⟨b, o, none⟩ ∧ b < U ∧ ∀ i (h : i < (Y.cells l).length), w.cell? ⟨b, o + i, none⟩ = some (Y.cells l)[i])
/-- The array of '.slice A n c' is of the call's own blocks (from B on), of the element type e, and holds the elements l. -/
def OwnG (e B : Nat) (w : World) (A : Option Addr) (n c : Nat) (l : List α) : Prop := w.ownsRow B e Y.s (.slice A n c) n (Y.cells l) ∧ l.length = n
end
section
variable {α : Type} {Y : Lay α} {U e B : Nat} {w w' : World} {A : Option Addr} {n c : Nat} {l : List α}
theorem RdG.len (h : RdG Y U w A n c l) : l.length = n := h.1
theorem RdG.cap (h : RdG Y U w A n c l) : n ≤ c := h.2.1
theorem RdG.max (h : RdG Y U w A n c l) : c ≤ 9223372036854775807 := by have := h.2.2.1; unfold maxLen at this; omega
theorem RdG.nil (U : Nat) (w : World) : RdG Y U w none 0 0 ([] : List α) := ⟨rfl, Nat.le_refl _, Nat.zero_le _, fun h => absurd h (by omega)⟩
theorem RdG.below (h : RdG Y U w A n c l) (hb : Below U w w') : RdG Y U w' A n c l :=
  ⟨h.1, h.2.1, h.2.2.1, fun hn => by
    obtain ⟨b, o, e, hU, hc⟩ := h.2.2.2 hn
    exact ⟨b, o, e, hU, fun i hi => (hb.cell (p := ⟨b, o + i, none⟩) hU).trans (hc i hi)⟩⟩
theorem RdG.mono {V : Nat} (h : RdG Y U w A n c l) (hV : U ≤ V) : RdG Y V w A n c l :=
  ⟨h.1, h.2.1, h.2.2.1, fun hn => by
    obtain ⟨b, o, e, hU, hc⟩ := h.2.2.2 hn
    exact ⟨b, o, e, by omega, hc⟩⟩
theorem RdG.drew (h : RdG Y U w A n c l) : RdG Y U w.drew A n c l := h
/-- One element of a slice that is read. -/
theorem RdG.at_ (h : RdG Y U w A n c l) {k : Nat} (hk : k < n) : ∃ b o, A = some ⟨b, o, none⟩ ∧ b < U ∧ ∃ a, Hid (l[k]? = some a) ∧ ∀ j v, (Y.cs a)[j]? = some v → w.cell? ⟨b, o + k * Y.s + j, none⟩ = some v := by
  obtain ⟨b, o, e, hU, hc⟩ := h.2.2.2 (by omega)
  have hkl : k < l.length := by have := h.1; omega
  refine ⟨b, o, e, hU, l[k], List.getElem?_eq_getElem hkl, fun j v hv => ?_⟩
  obtain ⟨hi, hg⟩ := List.getElem?_eq_some_iff.1 (Y.cells_get hkl hv)
  rw [Nat.add_assoc, hc _ hi, hg]
theorem RdG.cut (h : RdG Y U w A n c l) {lo hi : Nat} (h1 : lo ≤ hi) (h2 : hi ≤ n) :
    RdG Y U w (if c = lo then A else A.map (·.add (lo * Y.s))) (hi - lo) (c - lo) ((l.drop lo).take (hi - lo)) := by
  obtain ⟨hl, hc, hm, hcell⟩ := h
  refine ⟨by rw [List.length_take, List.length_drop]; omega, by omega, by omega, fun hn => ?_⟩
  obtain ⟨b, o, rfl, hU, hcl⟩ := hcell (by omega)
  refine ⟨b, o + lo * Y.s, by rw [if_neg (by omega)]; exact congrArg some (add_none b o _), hU, fun i hi' => ?_⟩
  have e : Y.cells ((l.drop lo).take (hi - lo)) = ((Y.cells l).drop (lo * Y.s)).take ((hi - lo) * Y.s) := by
    rw [Y.cells_take _ _ (by rw [List.length_drop]; omega), Y.cells_drop _ _ (by omega)]
  have hi2 := hi'
  rw [e, List.length_take, List.length_drop] at hi2
  rw [Nat.add_assoc, hcl (lo * Y.s + i) (by omega)]
  simp only [e, List.getElem_take, List.getElem_drop]
theorem OwnG.len (h : OwnG Y e B w A n c l) : l.length = n := h.2
theorem OwnG.rd (h : OwnG Y e B w A n c l) : RdG Y w.heap.size w A n c l := by
  have hl := h.2
  rcases h.1.2 with ⟨h', h0⟩ | ⟨g, cap, cur, h', _, hg, hnc, hcm, _, _⟩
  · simp only [Value.slice.injEq] at h'
    exact ⟨hl, by omega, by unfold maxLen; omega, fun h => absurd h (by omega)⟩
  · simp only [Value.slice.injEq, true_and] at h'
    obtain ⟨rfl, rfl⟩ := h'
    have hlt : g < w.heap.size := by
      rcases Nat.lt_or_ge g w.heap.size with k | k
      · exact k
      · rw [Array.getElem?_eq_none k] at hg; cases hg
    refine ⟨hl, hnc, hcm, fun _ => ⟨g, 0, rfl, hlt, fun i hi => ?_⟩⟩
    have hi2 := hi
    rw [Y.cells_len, hl] at hi2
    rw [Nat.zero_add, World.ownsRow.cellAt h.1 i hi2, List.getElem?_eq_getElem hi]
theorem OwnG.nil (e B : Nat) (w : World) : OwnG Y e B w none 0 0 ([] : List α) := ⟨World.ownsRow_nil w B e Y.s, rfl⟩
theorem OwnG.mono {B' : Nat} (h : OwnG Y e B w A n c l) (hB : B' ≤ B) : OwnG Y e B' w A n c l := by
  refine ⟨⟨h.1.1, ?_⟩, h.2⟩
  rcases h.1.2 with h' | ⟨g, cap, cur, h1, h2, h3⟩
  · exact .inl h'
  · exact .inr ⟨g, cap, cur, h1, by omega, h3⟩
theorem OwnG.below (h : OwnG Y e B w A n c l) (hb : Below w.heap.size w w') : OwnG Y e B w' A n c l := by
  refine ⟨⟨h.1.1, ?_⟩, h.2⟩
  rcases h.1.2 with h' | ⟨g, cap, cur, h1, h2, h3, h4⟩
  · exact .inl h'
  · refine .inr ⟨g, cap, cur, h1, h2, ?_, h4⟩
    have hlt : g < w.heap.size := by
      rcases Nat.lt_or_ge g w.heap.size with k | k
      · exact k
      · rw [Array.getElem?_eq_none k] at h3; cases h3
    exact (hb.block g hlt).trans h3
/-- A literal of elements: a new row. -/
theorem OwnG.lit (e : Nat) (w : World) (l : List α) (hn : l.length ≤ 1000) : OwnG Y e w.heap.size (w.alloc (.cells (Y.cells l).toArray e)) (some ⟨w.heap.size, 0, none⟩) l.length l.length l := by
  refine ⟨?_, rfl⟩
  have := World.ownsRow_lit (size := Y.s) (e := e) w (Y.cells l).toArray l.length (Nat.le_refl _) (by unfold maxLen; omega) (by simp [Y.cells_len])
  simpa using this
end
/-- What is asked of the program: a slice type whose elements lie so. -/
structure RgP {α : Type} (P : Program) (T e : TypeId) (Y : Lay α) (z : Value) (by_ : Nat) : Prop where
  hT : P.underlying T = some (.slice e)
  hi : (P.info? e).map (fun i => (i.zero, i.size, i.bytes)) = some (some z, Y.s, by_)
section
variable {α : Type} {Y : Lay α} {P : Program} {T e : TypeId} {z : Value} {y : Nat} {w : World} {A : Option Addr} {n c U : Nat} {l : List α}
theorem RgP.elem (hp : RgP P T e Y z y) : P.elem T = e := by simp [Program.elem, hp.hT]
theorem RgP.under (hp : RgP P T e Y z y) : P.underlying T = some (.slice (P.elem T)) := by rw [hp.elem]; exact hp.hT
theorem RgP.size (hp : RgP P T e Y z y) (w : World) : (sizeOf e).run P w = .ok Y.s w := by
  obtain ⟨i, hi, _, hz, _⟩ := info_parts hp.hi
  simp [sizeOf, typeInfo, hi, hz]
/-- 's[lo:hi]' -/
theorem RgP.cut_lh (hp : RgP P T e Y z y) (h : RdG Y U w A n c l) (lo hi : Nat) (L H : Int) (hL : L = (lo : Int)) (hH : H = (hi : Int)) (h1 : lo ≤ hi) (h2 : hi ≤ n) :
    ∃ A', RdG Y U w A' (hi - lo) (c - lo) ((l.drop lo).take (hi - lo)) ∧
      ∀ W, (Instr.slice T (.slice A n c) (some (.int .i64 L)) (some (.int .i64 H)) none).run P W = .ok (.slice A' (hi - lo) (c - lo)) W := by
  subst hL; subst hH
  refine ⟨_, h.cut h1 h2, fun W => ?_⟩
  rw [run_slice_lh W T A n c hp.under .i64 .i64 lo hi (by omega) (by omega) (by have := h.cap; omega), hp.elem, hp.size]
  simp [Result.andThen, sliced]
/-- 's[lo:]' -/
theorem RgP.cut_l (hp : RgP P T e Y z y) (h : RdG Y U w A n c l) (lo : Nat) (L : Int) (hL : L = (lo : Int)) (h1 : lo ≤ n) :
    ∃ A', RdG Y U w A' (n - lo) (c - lo) (l.drop lo) ∧ ∀ W, (Instr.slice T (.slice A n c) (some (.int .i64 L)) none none).run P W = .ok (.slice A' (n - lo) (c - lo)) W := by
  subst hL
  refine ⟨if c = lo then A else A.map (·.add (lo * Y.s)), ?_, fun W => ?_⟩
  rotate_left
  · rw [run_slice_l W T A n c hp.under .i64 lo (by omega) (by have := h.cap; omega), hp.elem, hp.size]
    simp only [Result.andThen, sliced, Int.toNat_natCast]
  · have := h.cut h1 (Nat.le_refl n)
    rwa [List.take_of_length_le (by rw [List.length_drop, h.len]; exact Nat.le_refl _)] at this
/-- 's[:hi]' -/
theorem RgP.cut_h (hp : RgP P T e Y z y) (h : RdG Y U w A n c l) (hi : Nat) (H : Int) (hH : H = (hi : Int)) (h2 : hi ≤ n) :
    ∃ A', RdG Y U w A' hi c (l.take hi) ∧ ∀ W, (Instr.slice T (.slice A n c) none (some (.int .i64 H)) none).run P W = .ok (.slice A' hi c) W := by
  subst hH
  refine ⟨if c = 0 then A else A.map (·.add (0 * Y.s)), ?_, fun W => ?_⟩
  rotate_left
  · rw [run_slice_h W T A n c hp.under .i64 hi (by omega) (by have := h.cap; omega), hp.elem, hp.size]
    simp only [Result.andThen, sliced, Int.toNat_natCast, Nat.sub_zero]
  · have := h.cut (Nat.zero_le hi) h2
    simpa using this

/-! ### Appending -/
theorem run_appG_nil (hp : RgP P T e Y z y) {B : Nat} (ty : TypeId) (hown : OwnG Y e B w A n c l) (c2 : Nat) : (Builtin.append_ #[T, T] ty #[.slice A n c, .slice none 0 c2]).run P w = .ok (.slice A n c) w := by
  obtain ⟨i, hi, _, hz, _⟩ := info_parts hp.hi
  rcases hown.1.2 with ⟨h', h0⟩ | ⟨g, cap, cur, h', _, _, hnc, _⟩
  · simp only [Value.slice.injEq] at h'
    obtain ⟨rfl, rfl, rfl⟩ := h'
    simp [Builtin.append_, run_underlying hp.hT, sizeOf, typeInfo, hi, Builtin.lenOf, Builtin.firstCells]
  · simp only [Value.slice.injEq, true_and] at h'
    obtain ⟨rfl, rfl⟩ := h'
    simp [Builtin.append_, run_underlying hp.hT, sizeOf, typeInfo, hi, Builtin.lenOf, Builtin.firstCells, hnc, storeCells]
/-- What an append leaves: the row, longer; no old block below B has turned, and none but the row's own. -/
def AppG (Y : Lay α) (e B : Nat) (w : World) (A : Option Addr) (n c m : Nat) (l : List α) (A' : Option Addr) (c' : Nat) (w' : World) : Prop :=
  OwnG Y e B w' A' (n + m) c' l ∧ Below B w w' ∧ w.grownBy w' (Value.slice A n c).ownBlock ∧ ((Value.slice A' (n + m) c').ownBlock = (Value.slice A n c).ownBlock ∨ (Value.slice A' (n + m) c').ownBlock = some w.heap.size)
theorem run_appG (hp : RgP P T e Y z y) (hs0 : 0 < Y.s) (hy : 0 < y) (hyz : z.cells.size = Y.s) {B : Nat} (ty : TypeId) (hown : OwnG Y e B w A n c l) {A2 : Option Addr} {m c2 : Nat} {l2 : List α} (h2 : RdG Y U w A2 m c2 l2)
    (hb : (n + m) * y ≤ 140737488355328) (hB : B ≤ w.heap.size) :
    ∃ A' c' w', (Builtin.append_ #[T, T] ty #[.slice A n c, .slice A2 m c2]).run P w = .ok (.slice A' (n + m) c') w' ∧ AppG Y e B w A n c m (l ++ l2) A' c' w' := by
  have hlow : ∀ k, (Value.slice A n c).ownBlock = some k → B ≤ k := fun k hk => (World.ownsRow.lt hown.1 k hk).1
  have hl2 := h2.1
  have hm : n + m ≤ maxLen := by
    have := Nat.le_mul_of_pos_right (n + m) hy
    unfold maxLen
    omega
  have hll : (l ++ l2).length = n + m := by rw [List.length_append, hown.2, hl2]
  obtain ⟨i, hi, hz, hs1, hby⟩ := info_parts hp.hi
  rcases Nat.eq_zero_or_pos m with h0 | h0
  · subst h0
    obtain rfl : l2 = [] := List.length_eq_zero_iff.1 hl2
    cases A2 with
    | none => exact ⟨A, c, w, run_appG_nil hp ty hown c2, ⟨by simpa using hown, Below.refl _ _, World.grownBy.refl w _, .inl rfl⟩⟩
    | some ad =>
      obtain ⟨v', w', hrun, h3, h4, _, h5⟩ := run_append_own_at (P := P) w B T ty e i _ Y.s y hp.hT hi hz hs1 hby hyz hs0 _ n _ hown.1 ad 0 c2 [] (by simp) (fun j u hu => by simp at hu) (fun u hu => by cases hu) hm hb hB
      obtain ⟨A', c', rfl⟩ : ∃ A' c', v' = .slice A' (n + 0) c' := by
        rcases h3.2 with ⟨rfl, e0⟩ | ⟨g, cap, cur, rfl, _⟩
        · exact ⟨none, 0, by rw [e0]⟩
        · exact ⟨_, _, rfl⟩
      exact ⟨A', c', w', hrun, ⟨⟨by simpa using h3, hll⟩, (Below.refl _ _).grown h4 hB hlow, h4, h5⟩⟩
  · obtain ⟨b, o, rfl, _, hc⟩ := h2.2.2.2 h0
    obtain ⟨v', w', hrun, h3, h4, _, h5⟩ := run_append_own_at (P := P) w B T ty e i _ Y.s y hp.hT hi hz hs1 hby hyz hs0 _ n _ hown.1 ⟨b, o, none⟩ m c2 (Y.cells l2) (by rw [Y.cells_len, hl2])
      (fun j u hu => by
        obtain ⟨hj, e⟩ := List.getElem?_eq_some_iff.1 hu
        rw [add_none, hc j hj, e])
      (Y.cells_oneCell l2) hm hb hB
    obtain ⟨A', c', rfl⟩ : ∃ A' c', v' = .slice A' (n + m) c' := by
      rcases h3.2 with ⟨rfl, e0⟩ | ⟨g, cap, cur, rfl, _⟩
      · omega
      · exact ⟨_, _, rfl⟩
    exact ⟨A', c', w', hrun, ⟨⟨by rw [Y.cells_app]; exact h3, hll⟩, (Below.refl _ _).grown h4 hB hlow, h4, h5⟩⟩
theorem wp_appG (hp : RgP P T e Y z y) (hs0 : 0 < Y.s) (hy : 0 < y) (hyz : z.cells.size = Y.s) {o : Oper} {a : Act} {K : Act → World → Prop} {Q : Exit → Act → World → Prop} (s x : Operand)
    (ho : o.op = .call { callee := .builtin .append, args := #[s, x], argTypes := #[T, T] }) {B : Nat} (hs : a.eval s = .slice A n c) (hown : OwnG Y e B w A n c l)
    {A2 : Option Addr} {m c2 : Nat} {l2 : List α} (hx : a.eval x = .slice A2 m c2) (h2 : RdG Y U w A2 m c2 l2) (hb : (n + m) * y ≤ 140737488355328) (hB : B ≤ w.heap.size)
    (h : ∀ A' c' w', AppG Y e B w A n c m (l ++ l2) A' c' w' → K (a.put o.dst (.slice A' (n + m) c')) w') : o.wp P a w K Q := by
  obtain ⟨A', c', w', hrun, h3⟩ := run_appG hp hs0 hy hyz o.type hown h2 hb hB
  unfold Oper.wp execOp
  simp only [ho, resolve, invoke, builtin, Sem.run_bind, Sem.run_pure, Result.andThen_ok, List.map_toArray, List.map_cons, List.map_nil, hs, hx, hrun]
  exact h A' c' w' h3
theorem wpList_appG (hp : RgP P T e Y z y) (hs0 : 0 < Y.s) (hy : 0 < y) (hyz : z.cells.size = Y.s) {ops : Array Oper} {rest : List Oper} {o : Oper} {a : Act} {Q : Exit → Act → World → Prop} (hgd : o.guard = none) (s x : Operand)
    (ho : o.op = .call { callee := .builtin .append, args := #[s, x], argTypes := #[T, T] }) {B : Nat} (hs : a.eval s = .slice A n c) (hown : OwnG Y e B w A n c l)
    {A2 : Option Addr} {m c2 : Nat} {l2 : List α} (hx : a.eval x = .slice A2 m c2) (h2 : RdG Y U w A2 m c2 l2) (hb : (n + m) * y ≤ 140737488355328) (hB : B ≤ w.heap.size)
    (h : ∀ A' c' w', AppG Y e B w A n c m (l ++ l2) A' c' w' → wpList P ops Q rest (a.put o.dst (.slice A' (n + m) c')) w') : wpList P ops Q (o :: rest) a w :=
  wpList_plain hgd fun _ hK => wp_appG hp hs0 hy hyz s x ho hs hown hx h2 hb hB fun A' c' w' h3 => hK _ _ (h A' c' w' h3)
/-- 'append' as a step of a region that draws its order. -/
theorem step_appG (hp : RgP P T e Y z y) (hs0 : 0 < Y.s) (hy : 0 < y) (hyz : z.cells.size = Y.s) {ops : Array Oper} {o : Oper} {a : Act} {K : Act → World → Prop} {Q : Exit → Act → World → Prop} {E : Prop} (hgd : o.guard = none) (s x : Operand)
    (ho : o.op = .call { callee := .builtin .append, args := #[s, x], argTypes := #[T, T] }) {B : Nat} (hs : a.eval s = .slice A n c) (hown : OwnG Y e B w A n c l)
    {A2 : Option Addr} {m c2 : Nat} {l2 : List α} (hx : a.eval x = .slice A2 m c2) (h2 : RdG Y U w A2 m c2 l2) (hb : (n + m) * y ≤ 140737488355328) (hB : B ≤ w.heap.size)
    (h : ∀ A' c' w', AppG Y e B w A n c m (l ++ l2) A' c' w' → K (a.put o.dst (.slice A' (n + m) c')) w') :
    if Region.wanted o (yielded ops a.tmps) = true then Oper.wp P o a w K Q else E := by
  have hw : Region.wanted o (yielded ops a.tmps) = true := by simp [Region.wanted, hgd]
  rw [if_pos hw]
  exact wp_appG hp hs0 hy hyz s x ho hs hown hx h2 hb hB h
end
end Go.Proofs.Ytoilljilndmmfaa.By
