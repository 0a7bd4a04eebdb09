/- Words for byte slices, over whatever program: a slice that reads as a list of bytes (nil among them), one that the call owns, what is cut, appended and converted. No conditions but those that each theorem names. -/
import Derived.WalkKit
import Derived.Below
import Derived.Carry
import Derived.Laws.OwnMore
import Derived.Laws.IdiomStrings
import Derived.Laws.BytesArg
import Derived.Deep.AppendLies
import Derived.Maps.AppendAt
import Derived.Lib.Hide
namespace Go.Proofs.Ytoobijefjljnjaa.By
open Go.RowKit

def cellsU (l : List UInt8) : List Value := l.map fun b => .int .u8 (b.toNat : Int)
theorem cellsU_length (l : List UInt8) : (cellsU l).length = l.length := by simp [cellsU]
theorem cellsU_append (a b : List UInt8) : cellsU (a ++ b) = cellsU a ++ cellsU b := by simp [cellsU]
theorem cellsU_get {l : List UInt8} {i : Nat} (h : i < l.length) : (cellsU l)[i]? = some (.int .u8 (l[i].toNat : Int)) := by simp [cellsU, List.getElem?_eq_getElem h]
theorem cellsU_one (l : List UInt8) : ∀ u ∈ cellsU l, u.oneCell' = true := by
  intro u hu
  obtain ⟨b, _, rfl⟩ := List.mem_map.1 hu
  rfl

/-- The slice '.slice A n c' reads as the bytes l. -/
def Bs (w : World) (A : Option Addr) (n c : Nat) (l : List UInt8) : Prop :=
  l.length = n ∧ n ≤ c ∧ c ≤ maxLen ∧ (0 < n → ∃ b o, A = some ⟨b, o, none⟩ ∧ ∀ i (h : i < l.length), w.cell? ⟨b, o + i, none⟩ = some (.int .u8 (l[i].toNat : Int)))
/-- The slice '.slice A n c' is of the call's own blocks (from B on), of the element type e, and holds the bytes l. -/
def Own (e B : Nat) (w : World) (A : Option Addr) (n c : Nat) (l : List UInt8) : Prop := w.ownsRow B e 1 (.slice A n c) n (cellsU l)

section
variable {w w' : World} {A : Option Addr} {n c : Nat} {l : List UInt8}
theorem Bs.len (h : Bs w A n c l) : l.length = n := h.1
theorem Bs.cap (h : Bs w A n c l) : n ≤ c := h.2.1
theorem Bs.max (h : Bs w A n c l) : c ≤ 9223372036854775807 := by have := h.2.2.1; unfold maxLen at this; omega
theorem Bs.nil (w : World) : Bs w none 0 0 [] := ⟨rfl, Nat.le_refl _, Nat.zero_le _, fun h => absurd h (by omega)⟩
theorem Bs.at_ (h : Bs w A n c l) {k : Nat} (hk : k < n) : ∃ b o, A = some ⟨b, o, none⟩ ∧ ∀ i (h : i < l.length), w.cell? ⟨b, o + i, none⟩ = some (.int .u8 (l[i].toNat : Int)) := h.2.2.2 (by omega)
theorem Bs.keep (h : Bs w A n c l) (hk : ∀ p : Addr, p.block < w.heap.size → w'.cell? p = w.cell? p) : Bs w' A n c l :=
  ⟨h.1, h.2.1, h.2.2.1, fun hn => by
    obtain ⟨b, o, e, hc⟩ := h.2.2.2 hn
    exact ⟨b, o, e, fun i hi => (hk _ (World.block_lt_of_cell? w _ (hc i hi))).trans (hc i hi)⟩⟩
theorem Bs.below (h : Bs w A n c l) (hb : Below w.heap.size w w') : Bs w' A n c l := h.keep fun _ hp => hb.cell hp
theorem Bs.alloc (h : Bs w A n c l) (o : Obj) : Bs (w.alloc o) A n c l := h.keep fun p hp => World.cell?_alloc_lt w o p hp
theorem Bs.drew (h : Bs w A n c l) : Bs w.drew A n c l := h
theorem Own.bs {e B : Nat} (h : Own e B w A n c l) : Bs w A n c l := by
  have hl : l.length = n := by have := h.1; rw [cellsU_length] at this; omega
  rcases h.2 with ⟨h', h0⟩ | ⟨g, cap, cur, h', _, hg, hnc, hcm, _, htake⟩
  · simp only [Value.slice.injEq] at h'
    exact ⟨hl, by omega, by unfold maxLen; omega, fun h => absurd h (by omega)⟩
  · simp only [Value.slice.injEq, true_and] at h'
    obtain ⟨rfl, rfl⟩ := h'
    exact ⟨hl, hnc, hcm, fun _ => ⟨g, 0, rfl, fun i hi => by rw [Nat.zero_add, World.ownsRow.cellAt h i (by omega), cellsU_get hi]⟩⟩
theorem Own.nil (e B : Nat) (w : World) : Own e B w none 0 0 [] := World.ownsRow_nil w B e 1
theorem Own.mono {e B B' : Nat} (h : Own e B w A n c l) (hB : B' ≤ B) : Own e B' w A n c l := by
  refine ⟨h.1, ?_⟩
  rcases h.2 with h' | ⟨g, cap, cur, h1, h2, h3⟩
  · exact .inl h'
  · exact .inr ⟨g, cap, cur, h1, by omega, h3⟩
theorem Own.below {e B : Nat} (h : Own e B w A n c l) (hb : Below w.heap.size w w') : Own e B w' A n c l := by
  refine ⟨h.1, ?_⟩
  rcases h.2 with h' | ⟨g, cap, cur, h1, h2, h3, h4⟩
  · exact .inl h'
  · refine .inr ⟨g, cap, cur, h1, h2, ?_, h4⟩
    have hlt : g < w.heap.size := by
      rcases Nat.lt_or_ge g w.heap.size with k | k
      · exact k
      · rw [Array.getElem?_eq_none k] at h3; cases h3
    exact (hb.block g hlt).trans h3
end

theorem cellsU_set (l : List UInt8) (j : Nat) (x : UInt8) : (cellsU l).set j (.int .u8 (x.toNat : Int)) = cellsU (l.set j x) := by simp [cellsU, List.map_set]
theorem Own.set {e B g n c : Nat} {w : World} {l : List UInt8} (h : Own e B w (some ⟨g, 0, none⟩) n c l) (j : Nat) (x : UInt8) :
    Own e B (w.setCell ⟨g, j, none⟩ (.int .u8 (x.toNat : Int))) (some ⟨g, 0, none⟩) n c (l.set j x) := by
  have := (World.ownsRow.stored h j (.int .u8 (x.toNat : Int))).1
  rwa [cellsU_set] at this
/-- A row of one byte or more lies at the head of a block. -/
theorem Own.head {e B n c : Nat} {w : World} {A : Option Addr} {l : List UInt8} (h : Own e B w A n c l) (hn : 0 < n) : ∃ g, A = some ⟨g, 0, none⟩ ∧ B ≤ g ∧ g < w.heap.size := by
  obtain ⟨g, cap, hv, hB, hlt⟩ := World.ownsRow.form h hn
  simp only [Value.slice.injEq, true_and] at hv
  exact ⟨g, hv.1, hB, hlt⟩

theorem below_undrew {w w' : World} (h : Below w.drew.heap.size w.drew w') : Below w.heap.size w w' := ⟨h.os, h.tape, h.output, h.size, h.block⟩

/-- The bytes of a constant, laid in a new row (its mark whatever). -/
theorem Bs.const (w : World) (e : TypeId) (fr : Nat × Nat) (l : List UInt8) (h : l.length ≤ 9223372036854775807) : Bs (w.alloc (.cells (cellsU l).toArray e fr)) (some ⟨w.heap.size, 0, none⟩) l.length l.length l :=
  ⟨rfl, Nat.le_refl _, by unfold maxLen; omega, fun _ => ⟨w.heap.size, 0, rfl, fun i hi => by rw [Nat.zero_add, World.cell?_alloc_mark, List.getElem?_toArray, cellsU_get hi]⟩⟩

/-! ### Cutting -/
theorem add_none (b o k : Nat) : (⟨b, o, none⟩ : Addr).add k = ⟨b, o + k, none⟩ := by unfold Addr.add; split <;> simp_all
theorem Bs.cut {w : World} {A : Option Addr} {n c : Nat} {l : List UInt8} (h : Bs w A n c l) {lo hi : Nat} (h1 : lo ≤ hi) (h2 : hi ≤ n) :
    Bs w (if c = lo then A else A.map (·.add (lo * 1))) (hi - lo) (c - lo) ((l.drop lo).take (hi - lo)) := by
  obtain ⟨hl, hc, hm, hcell⟩ := h
  refine ⟨by rw [List.length_take, List.length_drop]; omega, by omega, by omega, fun hn => ?_⟩
  obtain ⟨b, o, rfl, hcl⟩ := hcell (by omega)
  refine ⟨b, o + lo, by rw [if_neg (by omega), Nat.mul_one]; exact congrArg some (add_none b o lo), fun i hi' => ?_⟩
  rw [List.length_take, List.length_drop] at hi'
  rw [Nat.add_assoc, hcl (lo + i) (by omega)]
  simp
/-- What is asked of the program: the types []byte, byte and string. -/
structure ByP (P : Program) (T e S : TypeId) : Prop where
  hT : P.underlying T = some (.slice e)
  he : P.underlying e = some (.int .u8)
  hS : P.underlying S = some .string
  hi : (P.info? e).map (fun i => (i.zero, i.size, i.bytes)) = some (some (.int .u8 0), 1, 1)

section
variable {P : Program} {T e S : TypeId}
theorem ByP.elem (hp : ByP P T e S) : P.elem T = e := by simp [Program.elem, hp.hT]
theorem ByP.under (hp : ByP P T e S) : P.underlying T = some (.slice (P.elem T)) := by rw [hp.elem]; exact hp.hT
theorem ByP.size (hp : ByP P T e S) (w : World) : (sizeOf e).run P w = .ok 1 w := by
  obtain ⟨i, hi, _, hz, _⟩ := info_parts hp.hi
  simp [sizeOf, typeInfo, hi, hz]
variable {w : World} {A : Option Addr} {n c : Nat} {l : List UInt8}
/-- 's[lo:hi]' -/
theorem ByP.cut_lh (hp : ByP P T e S) (h : Bs w A n c l) (lo hi : Nat) (L H : Int) (hL : L = (lo : Int)) (hH : H = (hi : Int)) (h1 : lo ≤ hi) (h2 : hi ≤ n) :
    ∃ A', Bs w A' (hi - lo) (c - lo) ((l.drop lo).take (hi - lo)) ∧
      ∀ W, (Instr.slice T (.slice A n c) (some (.int .i64 L)) (some (.int .i64 H)) none).run P W = .ok (.slice A' (hi - lo) (c - lo)) W := by
  subst hL; subst hH
  refine ⟨_, h.cut h1 h2, fun W => ?_⟩
  rw [run_slice_lh W T A n c hp.under .i64 .i64 lo hi (by omega) (by omega) (by have := h.cap; omega), hp.elem, hp.size]
  simp [Result.andThen, sliced]
/-- 's[lo:]' -/
theorem ByP.cut_l (hp : ByP P T e S) (h : Bs w A n c l) (lo : Nat) (L : Int) (hL : L = (lo : Int)) (h1 : lo ≤ n) :
    ∃ A', Bs w A' (n - lo) (c - lo) (l.drop lo) ∧ ∀ W, (Instr.slice T (.slice A n c) (some (.int .i64 L)) none none).run P W = .ok (.slice A' (n - lo) (c - lo)) W := by
  subst hL
  refine ⟨if c = lo then A else A.map (·.add (lo * 1)), ?_, fun W => ?_⟩
  rotate_left
  · rw [run_slice_l W T A n c hp.under .i64 lo (by omega) (by omega), hp.elem, hp.size]
    simp only [Result.andThen, sliced, Int.toNat_natCast]
  · have := h.cut h1 (Nat.le_refl n)
    rwa [List.take_of_length_le (by rw [List.length_drop, h.len]; exact Nat.le_refl _)] at this
/-- 's[:hi]' -/
theorem ByP.cut_h (hp : ByP P T e S) (h : Bs w A n c l) (hi : Nat) (H : Int) (hH : H = (hi : Int)) (h2 : hi ≤ n) :
    ∃ A', Bs w A' hi c (l.take hi) ∧ ∀ W, (Instr.slice T (.slice A n c) none (some (.int .i64 H)) none).run P W = .ok (.slice A' hi c) W := by
  subst hH
  refine ⟨if c = 0 then A else A.map (·.add (0 * 1)), ?_, fun W => ?_⟩
  rotate_left
  · rw [run_slice_h W T A n c hp.under .i64 hi (by omega) (by have := h.cap; omega), hp.elem, hp.size]
    simp only [Result.andThen, sliced, Int.toNat_natCast, Nat.sub_zero]
  · have := h.cut (Nat.zero_le hi) h2
    simpa using this
/-- 'string(b)' -/
theorem ByP.str (hp : ByP P T e S) (h : Bs w A n c l) : (convert T S (.slice A n c)).run P w = .ok (.string ⟨l.toArray⟩) w := by
  have hl := h.len
  subst hl
  rcases Nat.eq_zero_or_pos l.length with h0 | h0
  · obtain rfl : l = [] := List.length_eq_zero_iff.1 h0
    cases A with
    | none => rw [run_convert_bytes_nil w T e hp.hT hp.he _ _ S hp.hS]; rfl
    | some a => exact run_convert_bytes_back w T S e a c [] hp.hT hp.he hp.hS (fun j hj => by simp at hj)
  · obtain ⟨b, o, rfl, hc⟩ := h.2.2.2 h0
    exact run_convert_bytes_back w T S e ⟨b, o, none⟩ c l hp.hT hp.he hp.hS (fun j hj => by rw [add_none]; exact hc j hj)

/-! ### Appending -/
theorem run_app_nil (hp : ByP P T e S) {B : Nat} (ty : TypeId) (hown : Own e B w A n c l) (c2 : Nat) : (Builtin.append_ #[T, T] ty #[.slice A n c, .slice none 0 c2]).run P w = .ok (.slice A n c) w := by
  obtain ⟨i, hi, _, hz, _⟩ := info_parts hp.hi
  rcases hown.2 with ⟨h', h0⟩ | ⟨g, cap, cur, h', _, _, hnc, _⟩
  · simp only [Value.slice.injEq] at h'
    obtain ⟨rfl, rfl, rfl⟩ := h'
    simp [Builtin.append_, run_underlying hp.hT, sizeOf, typeInfo, hi, Builtin.lenOf, Builtin.firstCells]
  · simp only [Value.slice.injEq, true_and] at h'
    obtain ⟨rfl, rfl⟩ := h'
    simp [Builtin.append_, run_underlying hp.hT, sizeOf, typeInfo, hi, Builtin.lenOf, Builtin.firstCells, hnc, storeCells]
theorem run_app (hp : ByP P T e S) {B : Nat} (ty : TypeId) (hown : Own e B w A n c l) {A2 : Option Addr} {m c2 : Nat} {l2 : List UInt8} (h2 : Bs w A2 m c2 l2) (hb : n + m ≤ 140737488355328) (hB : B ≤ w.heap.size) :
    ∃ A' c' w', (Builtin.append_ #[T, T] ty #[.slice A n c, .slice A2 m c2]).run P w = .ok (.slice A' (n + m) c') w' ∧ Own e B w' A' (n + m) c' (l ++ l2) ∧ Below B w w' ∧
      w.grownBy w' (Value.slice A n c).ownBlock ∧ ((Value.slice A' (n + m) c').ownBlock = (Value.slice A n c).ownBlock ∨ (Value.slice A' (n + m) c').ownBlock = some w.heap.size) := by
  have hlow : ∀ k, (Value.slice A n c).ownBlock = some k → B ≤ k := fun k hk => (World.ownsRow.lt hown k hk).1
  have hl2 := h2.len
  rcases Nat.eq_zero_or_pos m with h0 | h0
  · subst h0
    obtain rfl : l2 = [] := List.length_eq_zero_iff.1 hl2
    cases A2 with
    | none => exact ⟨A, c, w, run_app_nil hp ty hown c2, by simpa using hown, Below.refl _ _, World.grownBy.refl w _, .inl rfl⟩
    | some ad =>
      obtain ⟨i, hi, hz, hs1, hby⟩ := info_parts hp.hi
      obtain ⟨v', w', hrun, h3, h4, _, h5⟩ := run_append_own_at (P := P) w B T ty e i _ 1 1 hp.hT hi hz hs1 hby rfl (by omega) _ n _ hown ad 0 c2 [] rfl (fun j u hu => by simp at hu) (fun u hu => by cases hu) (by unfold maxLen; omega) (by omega) hB
      obtain ⟨A', c', rfl⟩ : ∃ A' c', v' = .slice A' (n + 0) c' := by
        rcases h3.2 with ⟨rfl, e0⟩ | ⟨g, cap, cur, rfl, _⟩
        · exact ⟨none, 0, by rw [e0]⟩
        · exact ⟨_, _, rfl⟩
      exact ⟨A', c', w', hrun, by simpa [Own] using h3, (Below.refl _ _).grown h4 hB hlow, h4, h5⟩
  · obtain ⟨b, o, rfl, hc⟩ := h2.2.2.2 h0
    obtain ⟨i, hi, hz, hs1, hby⟩ := info_parts hp.hi
    obtain ⟨v', w', hrun, h3, h4, _, h5⟩ := run_append_own_at (P := P) w B T ty e i _ 1 1 hp.hT hi hz hs1 hby rfl (by omega) _ n _ hown ⟨b, o, none⟩ m c2 (cellsU l2) (by rw [cellsU_length, hl2, Nat.mul_one])
      (fun j u hu => by
        have hj : j < l2.length := by
          have := (List.getElem?_eq_some_iff.1 hu).1
          rwa [cellsU_length] at this
        rw [cellsU_get hj] at hu
        rw [add_none, hc j hj, hu])
      (cellsU_one l2) (by unfold maxLen; omega) (by omega) hB
    obtain ⟨A', c', rfl⟩ : ∃ A' c', v' = .slice A' (n + m) c' := by
      rcases h3.2 with ⟨rfl, e0⟩ | ⟨g, cap, cur, rfl, _⟩
      · omega
      · exact ⟨_, _, rfl⟩
    exact ⟨A', c', w', hrun, by rw [Own, cellsU_append]; exact h3, (Below.refl _ _).grown h4 hB hlow, h4, h5⟩
theorem wp_app (hp : ByP P T e S) {o : Oper} {a : Act} {K : Act → World → Prop} {Q : Exit → Act → World → Prop} (s x : Operand)
    (ho : o.op = .call { callee := .builtin .append, args := #[s, x], argTypes := #[T, T] }) {B : Nat} (hs : a.eval s = .slice A n c) (hown : Own e B w A n c l)
    {A2 : Option Addr} {m c2 : Nat} {l2 : List UInt8} (hx : a.eval x = .slice A2 m c2) (h2 : Bs w A2 m c2 l2) (hb : n + m ≤ 140737488355328) (hB : B ≤ w.heap.size)
    (h : ∀ A' c' w', Own e B w' A' (n + m) c' (l ++ l2) → Below B w w' → w.grownBy w' (Value.slice A n c).ownBlock →
      ((Value.slice A' (n + m) c').ownBlock = (Value.slice A n c).ownBlock ∨ (Value.slice A' (n + m) c').ownBlock = some w.heap.size) → K (a.put o.dst (.slice A' (n + m) c')) w') : o.wp P a w K Q := by
  obtain ⟨A', c', w', hrun, h3, h4, h5, h6⟩ := run_app hp o.type hown h2 hb hB
  unfold Oper.wp execOp
  simp only [ho, resolve, invoke, builtin, Sem.run_bind, Sem.run_pure, Result.andThen_ok, List.map_toArray, List.map_cons, List.map_nil, hs, hx, hrun]
  exact h A' c' w' h3 h4 h5 h6
theorem wpList_app (hp : ByP P T e S) {ops : Array Oper} {rest : List Oper} {o : Oper} {a : Act} {Q : Exit → Act → World → Prop} (hgd : o.guard = none) (s x : Operand)
    (ho : o.op = .call { callee := .builtin .append, args := #[s, x], argTypes := #[T, T] }) {B : Nat} (hs : a.eval s = .slice A n c) (hown : Own e B w A n c l)
    {A2 : Option Addr} {m c2 : Nat} {l2 : List UInt8} (hx : a.eval x = .slice A2 m c2) (h2 : Bs w A2 m c2 l2) (hb : n + m ≤ 140737488355328) (hB : B ≤ w.heap.size)
    (h : ∀ A' c' w', Own e B w' A' (n + m) c' (l ++ l2) → Below B w w' → w.grownBy w' (Value.slice A n c).ownBlock →
      ((Value.slice A' (n + m) c').ownBlock = (Value.slice A n c).ownBlock ∨ (Value.slice A' (n + m) c').ownBlock = some w.heap.size) → wpList P ops Q rest (a.put o.dst (.slice A' (n + m) c')) w') : wpList P ops Q (o :: rest) a w :=
  wpList_plain hgd fun _ hK => wp_app hp s x ho hs hown hx h2 hb hB fun A' c' w' h3 h4 h5 h6 => hK _ _ (h A' c' w' h3 h4 h5 h6)
/-- '[]byte{}': a new row, empty. -/
theorem Own.lit0 (e : Nat) (w : World) : Own e w.heap.size (w.alloc (.cells #[] e)) (some ⟨w.heap.size, 0, none⟩) 0 0 [] := World.ownsRow_lit w #[] 0 (Nat.le_refl _) (by unfold maxLen; omega) rfl
/-- '[]byte{x}'. -/
theorem Own.lit1 (e : Nat) (w : World) (x : UInt8) : Own e w.heap.size (w.alloc (.cells #[.int .u8 (x.toNat : Int)] e)) (some ⟨w.heap.size, 0, none⟩) 1 1 [x] := World.ownsRow_lit w #[.int .u8 (x.toNat : Int)] 1 (Nat.le_refl _) (by unfold maxLen; omega) rfl
end
/-- A call that answers bytes of its own, v made of the slice. -/
def RB (e : Nat) (w : World) (n : Nat) (l : List UInt8) (f : Value → Value) (en : Ending) (w' : World) : Prop :=
  ∃ A c, en = .returned (f (.slice A n c)) ∧ Own e w.heap.size w' A n c l ∧ Below w.heap.size w w'
end Go.Proofs.Ytoobijefjljnjaa.By
