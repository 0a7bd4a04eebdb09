/- Words for slices whose elements are one cell each, over whatever program: one that reads as a list of values, one that the call owns, what is appended. No conditions but those that each theorem names. -/
import Derived.Test.YtmefnlgoejbgfaaByKit
namespace Go.Proofs.Ytmefnlgoejbgfaa.By
open Go.RowKit

/-- The slice '.slice A n c' reads as the values xs. -/
def Rd (w : World) (A : Option Addr) (n c : Nat) (xs : List Value) : Prop :=
  xs.length = n ∧ n ≤ c ∧ c ≤ maxLen ∧ (0 < n → ∃ b o, A = some ⟨b, o, none⟩ ∧ ∀ i (h : i < xs.length), w.cell? ⟨b, o + i, none⟩ = some xs[i])
/-- The slice '.slice A n c' is of the call's own blocks (from B on), of the element type e, and holds the values xs. -/
def OwnV (e B : Nat) (w : World) (A : Option Addr) (n c : Nat) (xs : List Value) : Prop := w.ownsRow B e 1 (.slice A n c) n xs

section
variable {w w' : World} {A : Option Addr} {n c : Nat} {xs : List Value}
theorem Rd.len (h : Rd w A n c xs) : xs.length = n := h.1
theorem Rd.cap (h : Rd w A n c xs) : n ≤ c := h.2.1
theorem Rd.max (h : Rd w A n c xs) : c ≤ 9223372036854775807 := by have := h.2.2.1; unfold maxLen at this; omega
theorem Rd.nil (w : World) : Rd w none 0 0 [] := ⟨rfl, Nat.le_refl _, Nat.zero_le _, fun h => absurd h (by omega)⟩
theorem Rd.at_ (h : Rd w A n c xs) {k : Nat} (hk : k < n) : ∃ b o, A = some ⟨b, o, none⟩ ∧ ∀ i (h : i < xs.length), w.cell? ⟨b, o + i, none⟩ = some xs[i] := h.2.2.2 (by omega)
theorem Rd.keep (h : Rd w A n c xs) (hk : ∀ p : Addr, p.block < w.heap.size → w'.cell? p = w.cell? p) : Rd w' A n c xs :=
  ⟨h.1, h.2.1, h.2.2.1, fun hn => by
    obtain ⟨b, o, e, hc⟩ := h.2.2.2 hn
    exact ⟨b, o, e, fun i hi => (hk _ (World.block_lt_of_cell? w _ (hc i hi))).trans (hc i hi)⟩⟩
theorem Rd.below (h : Rd w A n c xs) (hb : Below w.heap.size w w') : Rd w' A n c xs := h.keep fun _ hp => hb.cell hp
theorem Rd.alloc (h : Rd w A n c xs) (o : Obj) : Rd (w.alloc o) A n c xs := h.keep fun p hp => World.cell?_alloc_lt w o p hp
theorem OwnV.len {e B : Nat} (h : OwnV e B w A n c xs) : xs.length = n := by have := h.1; omega
theorem OwnV.rd {e B : Nat} (h : OwnV e B w A n c xs) : Rd w A n c xs := by
  have hl := h.len
  rcases h.2 with ⟨h', h0⟩ | ⟨g, cap, cur, h', _, hg, hnc, hcm, _, htake⟩
  · simp only [Value.slice.injEq] at h'
    exact ⟨hl, by omega, by unfold maxLen; omega, fun h => absurd h (by omega)⟩
  · simp only [Value.slice.injEq, true_and] at h'
    obtain ⟨rfl, rfl⟩ := h'
    exact ⟨hl, hnc, hcm, fun _ => ⟨g, 0, rfl, fun i hi => by rw [Nat.zero_add, World.ownsRow.cellAt h i (by omega), List.getElem?_eq_getElem hi]⟩⟩
theorem OwnV.nil (e B : Nat) (w : World) : OwnV e B w none 0 0 [] := World.ownsRow_nil w B e 1
theorem OwnV.mono {e B B' : Nat} (h : OwnV e B w A n c xs) (hB : B' ≤ B) : OwnV e B' w A n c xs := by
  refine ⟨h.1, ?_⟩
  rcases h.2 with h' | ⟨g, cap, cur, h1, h2, h3⟩
  · exact .inl h'
  · exact .inr ⟨g, cap, cur, h1, by omega, h3⟩
theorem OwnV.below {e B : Nat} (h : OwnV e B w A n c xs) (hb : Below w.heap.size w w') : OwnV e B w' A n c xs := by
  refine ⟨h.1, ?_⟩
  rcases h.2 with h' | ⟨g, cap, cur, h1, h2, h3, h4⟩
  · exact .inl h'
  · refine .inr ⟨g, cap, cur, h1, h2, ?_, h4⟩
    have hlt : g < w.heap.size := by
      rcases Nat.lt_or_ge g w.heap.size with k | k
      · exact k
      · rw [Array.getElem?_eq_none k] at h3; cases h3
    exact (hb.block g hlt).trans h3
/-- Two rows of different element types do not share a block: what is done to one leaves the other. -/
theorem rows_apart {e e' B B' : Nat} (hne : e ≠ e') {A' : Option Addr} {n' c' : Nat} {ys : List Value} (h : w.ownsRow B e 1 (.slice A n c) n xs) (h' : w.ownsRow B' e' 1 (.slice A' n' c') n' ys) :
    (Value.slice A n c).ownBlock = none ∨ (Value.slice A n c).ownBlock ≠ (Value.slice A' n' c').ownBlock := by
  rcases h.2 with ⟨e1, _⟩ | ⟨g, cap, cur, e1, _, hg, _⟩
  · rw [e1]; exact .inl rfl
  · rcases h'.2 with ⟨e2, _⟩ | ⟨g', cap', cur', e2, _, hg', _⟩
    · rw [e1, e2]; exact .inr (by simp [Value.ownBlock])
    · rw [e1, e2]
      refine .inr fun k => ?_
      simp [Value.ownBlock] at k
      subst k
      rw [hg] at hg'
      injection hg' with hg'
      injection hg' with _ ht
      exact hne ht
theorem Own.grown {e e' B B' : Nat} (hne : e ≠ e') {l : List UInt8} {A' : Option Addr} {n' c' : Nat} {ys : List Value} (h : Own e B w A n c l) (h' : w.ownsRow B' e' 1 (.slice A' n' c') n' ys) (hg : w.grownBy w' (Value.slice A' n' c').ownBlock) : Own e B w' A n c l :=
  World.ownsRow.kept h hg (rows_apart hne h h')
theorem OwnV.grown {e e' B B' : Nat} (hne : e ≠ e') {A' : Option Addr} {n' c' : Nat} {ys : List Value} (h : OwnV e B w A n c xs) (h' : w.ownsRow B' e' 1 (.slice A' n' c') n' ys) (hg : w.grownBy w' (Value.slice A' n' c').ownBlock) : OwnV e B w' A n c xs :=
  World.ownsRow.kept h hg (rows_apart hne h h')
end

/-- What is asked of the program: a slice type whose elements are one cell. -/
structure ElP (P : Program) (T e : TypeId) (z : Value) (bytes : Nat) : Prop where
  hT : P.underlying T = some (.slice e)
  hi : (P.info? e).map (fun i => (i.zero, i.size, i.bytes)) = some (some z, 1, bytes)
  hz : z.cells.size = 1
section
variable {P : Program} {T e : TypeId} {z : Value} {bytes : Nat} {w : World} {A : Option Addr} {n c : Nat} {xs : List Value}
theorem run_appV_nil (hp : ElP P T e z bytes) {B : Nat} (ty : TypeId) (hown : OwnV e B w A n c xs) (c2 : Nat) : (Builtin.append_ #[T, T] ty #[.slice A n c, .slice none 0 c2]).run P w = .ok (.slice A n c) w := by
  obtain ⟨i, hi, _, hz, _⟩ := info_parts hp.hi
  rcases hown.2 with ⟨h', h0⟩ | ⟨g, cap, cur, h', _, _, hnc, _⟩
  · simp only [Value.slice.injEq] at h'
    obtain ⟨rfl, rfl, rfl⟩ := h'
    simp [Builtin.append_, run_underlying hp.hT, sizeOf, typeInfo, hi, Builtin.lenOf, Builtin.firstCells]
  · simp only [Value.slice.injEq, true_and] at h'
    obtain ⟨rfl, rfl⟩ := h'
    simp [Builtin.append_, run_underlying hp.hT, sizeOf, typeInfo, hi, Builtin.lenOf, Builtin.firstCells, hnc, storeCells]
theorem run_appV (hp : ElP P T e z bytes) {B : Nat} (ty : TypeId) (hown : OwnV e B w A n c xs) {A2 : Option Addr} {m c2 : Nat} {ys : List Value} (h2 : Rd w A2 m c2 ys) (h1 : ∀ u ∈ ys, u.oneCell' = true)
    (hm : n + m ≤ maxLen) (hb : (n + m) * bytes ≤ 140737488355328) (hB : B ≤ w.heap.size) :
    ∃ A' c' w', (Builtin.append_ #[T, T] ty #[.slice A n c, .slice A2 m c2]).run P w = .ok (.slice A' (n + m) c') w' ∧ OwnV e B w' A' (n + m) c' (xs ++ ys) ∧ Below B w w' ∧
      w.grownBy w' (Value.slice A n c).ownBlock ∧ ((Value.slice A' (n + m) c').ownBlock = (Value.slice A n c).ownBlock ∨ (Value.slice A' (n + m) c').ownBlock = some w.heap.size) := by
  have hlow : ∀ k, (Value.slice A n c).ownBlock = some k → B ≤ k := fun k hk => (World.ownsRow.lt hown k hk).1
  have hl2 := h2.len
  rcases Nat.eq_zero_or_pos m with h0 | h0
  · subst h0
    obtain rfl : ys = [] := List.length_eq_zero_iff.1 hl2
    cases A2 with
    | none => exact ⟨A, c, w, run_appV_nil hp ty hown c2, by simpa using hown, Below.refl _ _, World.grownBy.refl w _, .inl rfl⟩
    | some ad =>
      obtain ⟨i, hi, hz, hs1, hby⟩ := info_parts hp.hi
      obtain ⟨v', w', hrun, h3, h4, _, h5⟩ := run_append_own_at (P := P) w B T ty e i _ 1 bytes hp.hT hi hz hs1 hby hp.hz (by omega) _ n _ hown ad 0 c2 [] rfl (fun j u hu => by simp at hu) (fun u hu => by cases hu) hm hb hB
      obtain ⟨A', c', rfl⟩ : ∃ A' c', v' = .slice A' (n + 0) c' := by
        rcases h3.2 with ⟨rfl, e0⟩ | ⟨g, cap, cur, rfl, _⟩
        · exact ⟨none, 0, by rw [e0]⟩
        · exact ⟨_, _, rfl⟩
      exact ⟨A', c', w', hrun, by simpa [OwnV] using h3, (Below.refl _ _).grown h4 hB hlow, h4, h5⟩
  · obtain ⟨b, o, rfl, hc⟩ := h2.2.2.2 h0
    obtain ⟨i, hi, hz, hs1, hby⟩ := info_parts hp.hi
    obtain ⟨v', w', hrun, h3, h4, _, h5⟩ := run_append_own_at (P := P) w B T ty e i _ 1 bytes hp.hT hi hz hs1 hby hp.hz (by omega) _ n _ hown ⟨b, o, none⟩ m c2 ys (by omega)
      (fun j u hu => by
        obtain ⟨hj, e⟩ := List.getElem?_eq_some_iff.1 hu
        rw [add_none, hc j hj, e])
      h1 hm hb hB
    obtain ⟨A', c', rfl⟩ : ∃ A' c', v' = .slice A' (n + m) c' := by
      rcases h3.2 with ⟨rfl, e0⟩ | ⟨g, cap, cur, rfl, _⟩
      · omega
      · exact ⟨_, _, rfl⟩
    exact ⟨A', c', w', hrun, h3, (Below.refl _ _).grown h4 hB hlow, h4, h5⟩
theorem wp_appV (hp : ElP P T e z bytes) {o : Oper} {a : Act} {K : Act → World → Prop} {Q : Exit → Act → World → Prop} (s x : Operand)
    (ho : o.op = .call { callee := .builtin .append, args := #[s, x], argTypes := #[T, T] }) {B : Nat} (hs : a.eval s = .slice A n c) (hown : OwnV e B w A n c xs)
    {A2 : Option Addr} {m c2 : Nat} {ys : List Value} (hx : a.eval x = .slice A2 m c2) (h2 : Rd w A2 m c2 ys) (h1 : ∀ u ∈ ys, u.oneCell' = true) (hm : n + m ≤ maxLen) (hb : (n + m) * bytes ≤ 140737488355328) (hB : B ≤ w.heap.size)
    (h : ∀ A' c' w', OwnV e B w' A' (n + m) c' (xs ++ ys) → Below B w w' → w.grownBy w' (Value.slice A n c).ownBlock →
      ((Value.slice A' (n + m) c').ownBlock = (Value.slice A n c).ownBlock ∨ (Value.slice A' (n + m) c').ownBlock = some w.heap.size) → K (a.put o.dst (.slice A' (n + m) c')) w') : o.wp P a w K Q := by
  obtain ⟨A', c', w', hrun, h3, h4, h5, h6⟩ := run_appV hp o.type hown h2 h1 hm hb hB
  unfold Oper.wp execOp
  simp only [ho, resolve, invoke, builtin, Sem.run_bind, Sem.run_pure, Result.andThen_ok, List.map_toArray, List.map_cons, List.map_nil, hs, hx, hrun]
  exact h A' c' w' h3 h4 h5 h6
theorem wpList_appV (hp : ElP P T e z bytes) {ops : Array Oper} {rest : List Oper} {o : Oper} {a : Act} {Q : Exit → Act → World → Prop} (hgd : o.guard = none) (s x : Operand)
    (ho : o.op = .call { callee := .builtin .append, args := #[s, x], argTypes := #[T, T] }) {B : Nat} (hs : a.eval s = .slice A n c) (hown : OwnV e B w A n c xs)
    {A2 : Option Addr} {m c2 : Nat} {ys : List Value} (hx : a.eval x = .slice A2 m c2) (h2 : Rd w A2 m c2 ys) (h1 : ∀ u ∈ ys, u.oneCell' = true) (hm : n + m ≤ maxLen) (hb : (n + m) * bytes ≤ 140737488355328) (hB : B ≤ w.heap.size)
    (h : ∀ A' c' w', OwnV e B w' A' (n + m) c' (xs ++ ys) → Below B w w' → w.grownBy w' (Value.slice A n c).ownBlock →
      ((Value.slice A' (n + m) c').ownBlock = (Value.slice A n c).ownBlock ∨ (Value.slice A' (n + m) c').ownBlock = some w.heap.size) → wpList P ops Q rest (a.put o.dst (.slice A' (n + m) c')) w') : wpList P ops Q (o :: rest) a w :=
  wpList_plain hgd fun _ hK => wp_appV hp s x ho hs hown hx h2 h1 hm hb hB fun A' c' w' h3 h4 h5 h6 => hK _ _ (h A' c' w' h3 h4 h5 h6)
/-- '[]T{x}': a new row of one value. -/
theorem OwnV.lit1 (e : Nat) (w : World) (x : Value) : OwnV e w.heap.size (w.alloc (.cells #[x] e)) (some ⟨w.heap.size, 0, none⟩) 1 1 [x] := World.ownsRow_lit w #[x] 1 (Nat.le_refl _) (by unfold maxLen; omega) rfl
end
end Go.Proofs.Ytmefnlgoejbgfaa.By
