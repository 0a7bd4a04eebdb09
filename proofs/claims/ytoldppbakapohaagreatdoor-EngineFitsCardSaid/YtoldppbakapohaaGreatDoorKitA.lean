/- Words for byte slices, over whatever program: a slice that reads as a list of bytes (nil among them), one that the call owns, what is cut, appended and converted. No conditions but those that each theorem names. -/
import Derived.Test.YtoldppbakapohaaGreatDoorMathA
import Derived.Test.YtoldppbakapohaaGreatDoorRows
import Derived.WalkKit
import Derived.Below
import Derived.Carry
import Derived.Laws.OwnMore
import Derived.Laws.IdiomStrings
import Derived.Laws.BytesArg
import Derived.Deep.AppendLies
import Derived.Maps.AppendAt
import Derived.Lib.Hide
import Derived.Deep.Draws
import Derived.WalkSpells
import Derived.WalkLawsBesides
import Derived.IntWalk
import Derived.Sort.Walk0
namespace Go.Proofs.YtoldppbakapohaaGreatDoor
theorem gTo {α : Type} {xs : List α} {i : Nat} (h : i < xs.toArray.size) : xs.toArray[i] = xs[i]'(by rwa [List.size_toArray] at h) := rfl
theorem gZe {α : Type} (a : α) (xs : List α) (h : 0 < (a :: xs).length) : (a :: xs)[0] = a := rfl
theorem gSu {α : Type} (a : α) (xs : List α) (i : Nat) (h : i + 1 < (a :: xs).length) : (a :: xs)[i + 1] = xs[i]'(Nat.lt_of_succ_lt_succ h) := rfl
theorem sTo {α : Type} (l : List α) (i : Nat) (a : α) : l.toArray.setIfInBounds i a = (l.set i a).toArray := List.setIfInBounds_toArray ..
theorem sZe {α : Type} {x : α} {xs : List α} {a : α} : (x :: xs).set 0 a = a :: xs := rfl
theorem sSu {α : Type} {x : α} {xs : List α} {i : Nat} {a : α} : (x :: xs).set (i + 1) a = x :: xs.set i a := rfl
end Go.Proofs.YtoldppbakapohaaGreatDoor
section
namespace Go.Proofs.YtoldppbakapohaaGreatDoor.By
open Go.RowKit

def cellsU (l : List UInt8) : List Value := l.map fun b => .int .u8 (b.toNat : Int)
theorem cellsU_length (l : List UInt8) : (cellsU l).length = l.length := by simp [cellsU]
theorem cellsU_append (a b : List UInt8) : cellsU (a ++ b) = cellsU a ++ cellsU b := by simp [cellsU]
theorem cellsU_get {l : List UInt8} {i : Nat} (h : i < l.length) : (cellsU l)[i]? = some (.int .u8 (l[i].toNat : Int)) := by simp [cellsU, List.getElem?_eq_getElem h]
theorem cellsU_one (l : List UInt8) : ∀ u ∈ cellsU l, u.oneCell' = true := by
  intro u hu
  obtain ⟨b, _, rfl⟩ := List.mem_map.1 hu
  rfl

/-- The slice '.slice A n c' reads as the bytes l. -/
def Bs (w : World) (A : Option Addr) (n c : Nat) (l : List UInt8) : Prop :=
  l.length = n ∧ n ≤ c ∧ c ≤ maxLen ∧ (0 < n → ∃ b o, A = some ⟨b, o, none⟩ ∧ ∀ i (h : i < l.length), w.cell? ⟨b, o + i, none⟩ = some (.int .u8 (l[i].toNat : Int)))
/-- The slice '.slice A n c' is of the call's own blocks (from B on), of the element type e, and holds the bytes l. -/
def Own (e B : Nat) (w : World) (A : Option Addr) (n c : Nat) (l : List UInt8) : Prop := w.ownsRow B e 1 (.slice A n c) n (cellsU l)

section
variable {w w' : World} {A : Option Addr} {n c : Nat} {l : List UInt8}
theorem Bs.len (h : Bs w A n c l) : l.length = n := h.1
theorem Bs.cap (h : Bs w A n c l) : n ≤ c := h.2.1
theorem Bs.max (h : Bs w A n c l) : c ≤ 9223372036854775807 := by have := h.2.2.1; unfold maxLen at this; omega
theorem Bs.nil (w : World) : Bs w none 0 0 [] := ⟨rfl, Nat.le_refl _, Nat.zero_le _, fun h => absurd h (by omega)⟩
theorem Bs.at_ (h : Bs w A n c l) {k : Nat} (hk : k < n) : ∃ b o, A = some ⟨b, o, none⟩ ∧ ∀ i (h : i < l.length), w.cell? ⟨b, o + i, none⟩ = some (.int .u8 (l[i].toNat : Int)) := h.2.2.2 (by omega)
theorem Bs.keep (h : Bs w A n c l) (hk : ∀ p : Addr, p.block < w.heap.size → w'.cell? p = w.cell? p) : Bs w' A n c l :=
  ⟨h.1, h.2.1, h.2.2.1, fun hn => by
    obtain ⟨b, o, e, hc⟩ := h.2.2.2 hn
    exact ⟨b, o, e, fun i hi => (hk _ (World.block_lt_of_cell? w _ (hc i hi))).trans (hc i hi)⟩⟩
theorem Bs.below (h : Bs w A n c l) (hb : Below w.heap.size w w') : Bs w' A n c l := h.keep fun _ hp => hb.cell hp
theorem Bs.alloc (h : Bs w A n c l) (o : Obj) : Bs (w.alloc o) A n c l := h.keep fun p hp => World.cell?_alloc_lt w o p hp
theorem Bs.drew (h : Bs w A n c l) : Bs w.drew A n c l := h
theorem Own.bs {e B : Nat} (h : Own e B w A n c l) : Bs w A n c l := by
  have hl : l.length = n := by have := h.1; rw [cellsU_length] at this; omega
  rcases h.2 with ⟨h', h0⟩ | ⟨g, cap, cur, h', _, hg, hnc, hcm, _, htake⟩
  · simp only [Value.slice.injEq] at h'
    exact ⟨hl, by omega, by unfold maxLen; omega, fun h => absurd h (by omega)⟩
  · simp only [Value.slice.injEq, true_and] at h'
    obtain ⟨rfl, rfl⟩ := h'
    exact ⟨hl, hnc, hcm, fun _ => ⟨g, 0, rfl, fun i hi => by rw [Nat.zero_add, World.ownsRow.cellAt h i (by omega), cellsU_get hi]⟩⟩
theorem Own.nil (e B : Nat) (w : World) : Own e B w none 0 0 [] := World.ownsRow_nil w B e 1
theorem Own.mono {e B B' : Nat} (h : Own e B w A n c l) (hB : B' ≤ B) : Own e B' w A n c l := by
  refine ⟨h.1, ?_⟩
  rcases h.2 with h' | ⟨g, cap, cur, h1, h2, h3⟩
  · exact .inl h'
  · exact .inr ⟨g, cap, cur, h1, by omega, h3⟩
theorem Own.below {e B : Nat} (h : Own e B w A n c l) (hb : Below w.heap.size w w') : Own e B w' A n c l := by
  refine ⟨h.1, ?_⟩
  rcases h.2 with h' | ⟨g, cap, cur, h1, h2, h3, h4⟩
  · exact .inl h'
  · refine .inr ⟨g, cap, cur, h1, h2, ?_, h4⟩
    have hlt : g < w.heap.size := by
      rcases Nat.lt_or_ge g w.heap.size with k | k
      · exact k
      · rw [Array.getElem?_eq_none k] at h3; cases h3
    exact (hb.block g hlt).trans h3
end

theorem cellsU_set (l : List UInt8) (j : Nat) (x : UInt8) : (cellsU l).set j (.int .u8 (x.toNat : Int)) = cellsU (l.set j x) := by simp [cellsU, List.map_set]
theorem Own.set {e B g n c : Nat} {w : World} {l : List UInt8} (h : Own e B w (some ⟨g, 0, none⟩) n c l) (j : Nat) (x : UInt8) :
    Own e B (w.setCell ⟨g, j, none⟩ (.int .u8 (x.toNat : Int))) (some ⟨g, 0, none⟩) n c (l.set j x) := by
  have := (World.ownsRow.stored h j (.int .u8 (x.toNat : Int))).1
  rwa [cellsU_set] at this
/-- A row of one byte or more lies at the head of a block. -/
theorem Own.head {e B n c : Nat} {w : World} {A : Option Addr} {l : List UInt8} (h : Own e B w A n c l) (hn : 0 < n) : ∃ g, A = some ⟨g, 0, none⟩ ∧ B ≤ g ∧ g < w.heap.size := by
  obtain ⟨g, cap, hv, hB, hlt⟩ := World.ownsRow.form h hn
  simp only [Value.slice.injEq, true_and] at hv
  exact ⟨g, hv.1, hB, hlt⟩

theorem below_undrew {w w' : World} (h : Below w.drew.heap.size w.drew w') : Below w.heap.size w w' := ⟨h.os, h.tape, h.output, h.size, h.block⟩

/-- The bytes of a constant, laid in a new row (its mark whatever). -/
theorem Bs.const (w : World) (e : TypeId) (fr : Nat × Nat) (l : List UInt8) (h : l.length ≤ 9223372036854775807) : Bs (w.alloc (.cells (cellsU l).toArray e fr)) (some ⟨w.heap.size, 0, none⟩) l.length l.length l :=
  ⟨rfl, Nat.le_refl _, by unfold maxLen; omega, fun _ => ⟨w.heap.size, 0, rfl, fun i hi => by rw [Nat.zero_add, World.cell?_alloc_mark, List.getElem?_toArray, cellsU_get hi]⟩⟩

/-! ### Cutting -/
theorem add_none (b o k : Nat) : (⟨b, o, none⟩ : Addr).add k = ⟨b, o + k, none⟩ := by unfold Addr.add; split <;> simp_all
theorem Bs.cut {w : World} {A : Option Addr} {n c : Nat} {l : List UInt8} (h : Bs w A n c l) {lo hi : Nat} (h1 : lo ≤ hi) (h2 : hi ≤ n) :
    Bs w (if c = lo then A else A.map (·.add (lo * 1))) (hi - lo) (c - lo) ((l.drop lo).take (hi - lo)) := by
  obtain ⟨hl, hc, hm, hcell⟩ := h
  refine ⟨by rw [List.length_take, List.length_drop]; omega, by omega, by omega, fun hn => ?_⟩
  obtain ⟨b, o, rfl, hcl⟩ := hcell (by omega)
  refine ⟨b, o + lo, by rw [if_neg (by omega), Nat.mul_one]; exact congrArg some (add_none b o lo), fun i hi' => ?_⟩
  rw [List.length_take, List.length_drop] at hi'
  rw [Nat.add_assoc, hcl (lo + i) (by omega)]
  simp
/-- What is asked of the program: the types []byte, byte and string. -/
structure ByP (P : Program) (T e S : TypeId) : Prop where
  hT : P.underlying T = some (.slice e)
  he : P.underlying e = some (.int .u8)
  hS : P.underlying S = some .string
  hi : (P.info? e).map (fun i => (i.zero, i.size, i.bytes)) = some (some (.int .u8 0), 1, 1)

section
variable {P : Program} {T e S : TypeId}
theorem ByP.elem (hp : ByP P T e S) : P.elem T = e := by simp [Program.elem, hp.hT]
theorem ByP.under (hp : ByP P T e S) : P.underlying T = some (.slice (P.elem T)) := by rw [hp.elem]; exact hp.hT
theorem ByP.size (hp : ByP P T e S) (w : World) : (sizeOf e).run P w = .ok 1 w := by
  obtain ⟨i, hi, _, hz, _⟩ := info_parts hp.hi
  simp [sizeOf, typeInfo, hi, hz]
variable {w : World} {A : Option Addr} {n c : Nat} {l : List UInt8}
/-- 's[lo:hi]' -/
theorem ByP.cut_lh (hp : ByP P T e S) (h : Bs w A n c l) (lo hi : Nat) (L H : Int) (hL : L = (lo : Int)) (hH : H = (hi : Int)) (h1 : lo ≤ hi) (h2 : hi ≤ n) :
    ∃ A', Bs w A' (hi - lo) (c - lo) ((l.drop lo).take (hi - lo)) ∧
      ∀ W, (Instr.slice T (.slice A n c) (some (.int .i64 L)) (some (.int .i64 H)) none).run P W = .ok (.slice A' (hi - lo) (c - lo)) W := by
  subst hL; subst hH
  refine ⟨_, h.cut h1 h2, fun W => ?_⟩
  rw [run_slice_lh W T A n c hp.under .i64 .i64 lo hi (by omega) (by omega) (by have := h.cap; omega), hp.elem, hp.size]
  simp [Result.andThen, sliced]
/-- 's[lo:]' -/
theorem ByP.cut_l (hp : ByP P T e S) (h : Bs w A n c l) (lo : Nat) (L : Int) (hL : L = (lo : Int)) (h1 : lo ≤ n) :
    ∃ A', Bs w A' (n - lo) (c - lo) (l.drop lo) ∧ ∀ W, (Instr.slice T (.slice A n c) (some (.int .i64 L)) none none).run P W = .ok (.slice A' (n - lo) (c - lo)) W := by
  subst hL
  refine ⟨if c = lo then A else A.map (·.add (lo * 1)), ?_, fun W => ?_⟩
  rotate_left
  · rw [run_slice_l W T A n c hp.under .i64 lo (by omega) (by omega), hp.elem, hp.size]
    simp only [Result.andThen, sliced, Int.toNat_natCast]
  · have := h.cut h1 (Nat.le_refl n)
    rwa [List.take_of_length_le (by rw [List.length_drop, h.len]; exact Nat.le_refl _)] at this
/-- 's[:hi]' -/
theorem ByP.cut_h (hp : ByP P T e S) (h : Bs w A n c l) (hi : Nat) (H : Int) (hH : H = (hi : Int)) (h2 : hi ≤ n) :
    ∃ A', Bs w A' hi c (l.take hi) ∧ ∀ W, (Instr.slice T (.slice A n c) none (some (.int .i64 H)) none).run P W = .ok (.slice A' hi c) W := by
  subst hH
  refine ⟨if c = 0 then A else A.map (·.add (0 * 1)), ?_, fun W => ?_⟩
  rotate_left
  · rw [run_slice_h W T A n c hp.under .i64 hi (by omega) (by have := h.cap; omega), hp.elem, hp.size]
    simp only [Result.andThen, sliced, Int.toNat_natCast, Nat.sub_zero]
  · have := h.cut (Nat.zero_le hi) h2
    simpa using this
/-- 'string(b)' -/
theorem ByP.str (hp : ByP P T e S) (h : Bs w A n c l) : (convert T S (.slice A n c)).run P w = .ok (.string ⟨l.toArray⟩) w := by
  have hl := h.len
  subst hl
  rcases Nat.eq_zero_or_pos l.length with h0 | h0
  · obtain rfl : l = [] := List.length_eq_zero_iff.1 h0
    cases A with
    | none => rw [run_convert_bytes_nil w T e hp.hT hp.he _ _ S hp.hS]; rfl
    | some a => exact run_convert_bytes_back w T S e a c [] hp.hT hp.he hp.hS (fun j hj => by simp at hj)
  · obtain ⟨b, o, rfl, hc⟩ := h.2.2.2 h0
    exact run_convert_bytes_back w T S e ⟨b, o, none⟩ c l hp.hT hp.he hp.hS (fun j hj => by rw [add_none]; exact hc j hj)

/-! ### Appending -/
theorem run_app_nil (hp : ByP P T e S) {B : Nat} (ty : TypeId) (hown : Own e B w A n c l) (c2 : Nat) : (Builtin.append_ #[T, T] ty #[.slice A n c, .slice none 0 c2]).run P w = .ok (.slice A n c) w := by
  obtain ⟨i, hi, _, hz, _⟩ := info_parts hp.hi
  rcases hown.2 with ⟨h', h0⟩ | ⟨g, cap, cur, h', _, _, hnc, _⟩
  · simp only [Value.slice.injEq] at h'
    obtain ⟨rfl, rfl, rfl⟩ := h'
    simp [Builtin.append_, run_underlying hp.hT, sizeOf, typeInfo, hi, Builtin.lenOf, Builtin.firstCells]
  · simp only [Value.slice.injEq, true_and] at h'
    obtain ⟨rfl, rfl⟩ := h'
    simp [Builtin.append_, run_underlying hp.hT, sizeOf, typeInfo, hi, Builtin.lenOf, Builtin.firstCells, hnc, storeCells]
theorem run_app (hp : ByP P T e S) {B : Nat} (ty : TypeId) (hown : Own e B w A n c l) {A2 : Option Addr} {m c2 : Nat} {l2 : List UInt8} (h2 : Bs w A2 m c2 l2) (hb : n + m ≤ 140737488355328) (hB : B ≤ w.heap.size) :
    ∃ A' c' w', (Builtin.append_ #[T, T] ty #[.slice A n c, .slice A2 m c2]).run P w = .ok (.slice A' (n + m) c') w' ∧ Own e B w' A' (n + m) c' (l ++ l2) ∧ Below B w w' ∧
      w.grownBy w' (Value.slice A n c).ownBlock ∧ ((Value.slice A' (n + m) c').ownBlock = (Value.slice A n c).ownBlock ∨ (Value.slice A' (n + m) c').ownBlock = some w.heap.size) := by
  have hlow : ∀ k, (Value.slice A n c).ownBlock = some k → B ≤ k := fun k hk => (World.ownsRow.lt hown k hk).1
  have hl2 := h2.len
  rcases Nat.eq_zero_or_pos m with h0 | h0
  · subst h0
    obtain rfl : l2 = [] := List.length_eq_zero_iff.1 hl2
    cases A2 with
    | none => exact ⟨A, c, w, run_app_nil hp ty hown c2, by simpa using hown, Below.refl _ _, World.grownBy.refl w _, .inl rfl⟩
    | some ad =>
      obtain ⟨i, hi, hz, hs1, hby⟩ := info_parts hp.hi
      obtain ⟨v', w', hrun, h3, h4, _, h5⟩ := run_append_own_at (P := P) w B T ty e i _ 1 1 hp.hT hi hz hs1 hby rfl (by omega) _ n _ hown ad 0 c2 [] rfl (fun j u hu => by simp at hu) (fun u hu => by cases hu) (by unfold maxLen; omega) (by omega) hB
      obtain ⟨A', c', rfl⟩ : ∃ A' c', v' = .slice A' (n + 0) c' := by
        rcases h3.2 with ⟨rfl, e0⟩ | ⟨g, cap, cur, rfl, _⟩
        · exact ⟨none, 0, by rw [e0]⟩
        · exact ⟨_, _, rfl⟩
      exact ⟨A', c', w', hrun, by simpa [Own] using h3, (Below.refl _ _).grown h4 hB hlow, h4, h5⟩
  · obtain ⟨b, o, rfl, hc⟩ := h2.2.2.2 h0
    obtain ⟨i, hi, hz, hs1, hby⟩ := info_parts hp.hi
    obtain ⟨v', w', hrun, h3, h4, _, h5⟩ := run_append_own_at (P := P) w B T ty e i _ 1 1 hp.hT hi hz hs1 hby rfl (by omega) _ n _ hown ⟨b, o, none⟩ m c2 (cellsU l2) (by rw [cellsU_length, hl2, Nat.mul_one])
      (fun j u hu => by
        have hj : j < l2.length := by
          have := (List.getElem?_eq_some_iff.1 hu).1
          rwa [cellsU_length] at this
        rw [cellsU_get hj] at hu
        rw [add_none, hc j hj, hu])
      (cellsU_one l2) (by unfold maxLen; omega) (by omega) hB
    obtain ⟨A', c', rfl⟩ : ∃ A' c', v' = .slice A' (n + m) c' := by
      rcases h3.2 with ⟨rfl, e0⟩ | ⟨g, cap, cur, rfl, _⟩
      · omega
      · exact ⟨_, _, rfl⟩
    exact ⟨A', c', w', hrun, by rw [Own, cellsU_append]; exact h3, (Below.refl _ _).grown h4 hB hlow, h4, h5⟩
theorem wp_app (hp : ByP P T e S) {o : Oper} {a : Act} {K : Act → World → Prop} {Q : Exit → Act → World → Prop} (s x : Operand)
    (ho : o.op = .call { callee := .builtin .append, args := #[s, x], argTypes := #[T, T] }) {B : Nat} (hs : a.eval s = .slice A n c) (hown : Own e B w A n c l)
    {A2 : Option Addr} {m c2 : Nat} {l2 : List UInt8} (hx : a.eval x = .slice A2 m c2) (h2 : Bs w A2 m c2 l2) (hb : n + m ≤ 140737488355328) (hB : B ≤ w.heap.size)
    (h : ∀ A' c' w', Own e B w' A' (n + m) c' (l ++ l2) → Below B w w' → w.grownBy w' (Value.slice A n c).ownBlock →
      ((Value.slice A' (n + m) c').ownBlock = (Value.slice A n c).ownBlock ∨ (Value.slice A' (n + m) c').ownBlock = some w.heap.size) → K (a.put o.dst (.slice A' (n + m) c')) w') : o.wp P a w K Q := by
  obtain ⟨A', c', w', hrun, h3, h4, h5, h6⟩ := run_app hp o.type hown h2 hb hB
  unfold Oper.wp execOp
  simp only [ho, resolve, invoke, builtin, Sem.run_bind, Sem.run_pure, Result.andThen_ok, List.map_toArray, List.map_cons, List.map_nil, hs, hx, hrun]
  exact h A' c' w' h3 h4 h5 h6
theorem wpList_app (hp : ByP P T e S) {ops : Array Oper} {rest : List Oper} {o : Oper} {a : Act} {Q : Exit → Act → World → Prop} (hgd : o.guard = none) (s x : Operand)
    (ho : o.op = .call { callee := .builtin .append, args := #[s, x], argTypes := #[T, T] }) {B : Nat} (hs : a.eval s = .slice A n c) (hown : Own e B w A n c l)
    {A2 : Option Addr} {m c2 : Nat} {l2 : List UInt8} (hx : a.eval x = .slice A2 m c2) (h2 : Bs w A2 m c2 l2) (hb : n + m ≤ 140737488355328) (hB : B ≤ w.heap.size)
    (h : ∀ A' c' w', Own e B w' A' (n + m) c' (l ++ l2) → Below B w w' → w.grownBy w' (Value.slice A n c).ownBlock →
      ((Value.slice A' (n + m) c').ownBlock = (Value.slice A n c).ownBlock ∨ (Value.slice A' (n + m) c').ownBlock = some w.heap.size) → wpList P ops Q rest (a.put o.dst (.slice A' (n + m) c')) w') : wpList P ops Q (o :: rest) a w :=
  wpList_plain hgd fun _ hK => wp_app hp s x ho hs hown hx h2 hb hB fun A' c' w' h3 h4 h5 h6 => hK _ _ (h A' c' w' h3 h4 h5 h6)
/-- '[]byte{}': a new row, empty. -/
theorem Own.lit0 (e : Nat) (w : World) : Own e w.heap.size (w.alloc (.cells #[] e)) (some ⟨w.heap.size, 0, none⟩) 0 0 [] := World.ownsRow_lit w #[] 0 (Nat.le_refl _) (by unfold maxLen; omega) rfl
/-- '[]byte{x}'. -/
theorem Own.lit1 (e : Nat) (w : World) (x : UInt8) : Own e w.heap.size (w.alloc (.cells #[.int .u8 (x.toNat : Int)] e)) (some ⟨w.heap.size, 0, none⟩) 1 1 [x] := World.ownsRow_lit w #[.int .u8 (x.toNat : Int)] 1 (Nat.le_refl _) (by unfold maxLen; omega) rfl
end
/-- A call that answers bytes of its own, v made of the slice. -/
def RB (e : Nat) (w : World) (n : Nat) (l : List UInt8) (f : Value → Value) (en : Ending) (w' : World) : Prop :=
  ∃ A c, en = .returned (f (.slice A n c)) ∧ Own e w.heap.size w' A n c l ∧ Below w.heap.size w w'
end Go.Proofs.YtoldppbakapohaaGreatDoor.By
end
/- Words for slices of options (a number and a byte slice each), over whatever program: one that reads as a list of options, one whose array the call owns, one whose bytes it owns too. No conditions but those that each theorem names. -/
section
namespace Go.Proofs.YtoldppbakapohaaGreatDoor.By
open Go.RowKit Tl

/-- An option in memory. -/
structure Po where
  code : Int
  A : Option Addr
  c : Nat
  l : List UInt8
def Po.o (p : Po) : O := (p.code, p.l)
def Po.dv (p : Po) : Value := .slice p.A p.l.length p.c
def Po.cells (p : Po) : List Value := [.int .i64 p.code, p.dv]
def cellsP (ps : List Po) : List Value := ps.flatMap Po.cells
def osP (ps : List Po) : List O := ps.map Po.o
def Po.bs (w : World) (p : Po) : Prop := Bs w p.A p.l.length p.c p.l
theorem cellsP_len (ps : List Po) : (cellsP ps).length = ps.length * 2 := by
  unfold cellsP
  induction ps with
  | nil => rfl
  | cons p ps ih => rw [List.flatMap_cons, List.length_append, ih]; simp [Po.cells]; omega
theorem cellsP_app (a b : List Po) : cellsP (a ++ b) = cellsP a ++ cellsP b := by unfold cellsP; rw [List.flatMap_append]
theorem cellsP_get : ∀ {ps : List Po} {i : Nat} (h : i < ps.length), (cellsP ps)[i * 2]? = some (.int .i64 (ps[i]).code) ∧ (cellsP ps)[i * 2 + 1]? = some (ps[i]).dv
  | p :: ps, 0, _ => by simp [cellsP, Po.cells]
  | p :: ps, i + 1, h => by
    have := cellsP_get (ps := ps) (i := i) (by simpa using h)
    have e : cellsP (p :: ps) = p.cells ++ cellsP ps := by simp [cellsP]
    rw [e, show (i + 1) * 2 = i * 2 + 2 by omega]
    simp only [gSu]
    rw [List.getElem?_append_right (by simp [Po.cells]), List.getElem?_append_right (by simp [Po.cells])]
    simpa [Po.cells] using this
theorem cellsP_oneCell (ps : List Po) : ∀ u ∈ cellsP ps, u.oneCell' = true := by
  intro u hu
  obtain ⟨p, _, hp⟩ := List.mem_flatMap.1 hu
  simp [Po.cells, Po.dv] at hp
  rcases hp with rfl | rfl <;> rfl
theorem os_len (ps : List Po) : (osP ps).length = ps.length := by simp [osP]
theorem os_get {ps : List Po} {i : Nat} (h : i < ps.length) : (osP ps)[i]'(by rw [os_len]; exact h) = (ps[i]).o := by simp [osP]
theorem os_take (ps : List Po) (k : Nat) : osP (ps.take k) = (osP ps).take k := by simp [osP, List.map_take]
theorem os_app (a b : List Po) : osP (a ++ b) = osP a ++ osP b := by simp [osP]
theorem os_mem {ps : List Po} {p : Po} (h : p ∈ ps) : p.o ∈ osP ps := List.mem_map.2 ⟨p, h, rfl⟩

/-- The slice '.slice A n c' (two cells an element) reads as the cells xs. -/
def RdC (w : World) (A : Option Addr) (n c : Nat) (xs : List Value) : Prop :=
  xs.length = n * 2 ∧ n ≤ c ∧ c ≤ maxLen ∧ (0 < n → ∃ b o, A = some ⟨b, o, none⟩ ∧ ∀ i (h : i < xs.length), w.cell? ⟨b, o + i, none⟩ = some xs[i])
/-- The slice '.slice A n c' reads as the options ps. -/
def RdO (w : World) (A : Option Addr) (n c : Nat) (ps : List Po) : Prop := RdC w A n c (cellsP ps) ∧ ∀ p ∈ ps, p.bs w
section
variable {w w' : World} {A : Option Addr} {n c : Nat} {xs : List Value} {ps : List Po}
theorem RdC.keep (h : RdC w A n c xs) (hk : ∀ p : Addr, p.block < w.heap.size → w'.cell? p = w.cell? p) : RdC w' A n c xs :=
  ⟨h.1, h.2.1, h.2.2.1, fun hn => by
    obtain ⟨b, o, e, hc⟩ := h.2.2.2 hn
    exact ⟨b, o, e, fun i hi => (hk _ (World.block_lt_of_cell? w _ (hc i hi))).trans (hc i hi)⟩⟩
theorem RdO.keep (h : RdO w A n c ps) (hk : ∀ p : Addr, p.block < w.heap.size → w'.cell? p = w.cell? p) : RdO w' A n c ps := ⟨h.1.keep hk, fun p hp => (h.2 p hp).keep hk⟩
theorem RdO.below (h : RdO w A n c ps) (hb : Below w.heap.size w w') : RdO w' A n c ps := h.keep fun _ hp => hb.cell hp
theorem RdO.alloc (h : RdO w A n c ps) (o : Obj) : RdO (w.alloc o) A n c ps := h.keep fun p hp => World.cell?_alloc_lt w o p hp
theorem RdO.drew (h : RdO w A n c ps) : RdO w.drew A n c ps := h
theorem RdO.len (h : RdO w A n c ps) : ps.length = n := by have := h.1.1; rw [cellsP_len] at this; omega
theorem RdO.cap (h : RdO w A n c ps) : n ≤ c := h.1.2.1
theorem RdO.max (h : RdO w A n c ps) : c ≤ 9223372036854775807 := by have := h.1.2.2.1; unfold maxLen at this; omega
theorem RdO.nil (w : World) : RdO w none 0 0 [] := ⟨⟨rfl, Nat.le_refl _, Nat.zero_le _, fun h => absurd h (by omega)⟩, fun p hp => by cases hp⟩
theorem RdO.cell (h : RdO w A n c ps) {k : Nat} (hk : k < n) : ∃ b o, A = some ⟨b, o, none⟩ ∧ ∀ i (hi : i < ps.length), w.cell? ⟨b, o + i * 2, none⟩ = some (.int .i64 (ps[i]).code) ∧ w.cell? ⟨b, o + i * 2 + 1, none⟩ = some (ps[i]).dv := by
  obtain ⟨b, o, e, hc⟩ := h.1.2.2.2 (by omega)
  refine ⟨b, o, e, fun i hi => ?_⟩
  obtain ⟨g1, g2⟩ := cellsP_get hi
  rw [List.getElem?_eq_getElem (by rw [cellsP_len]; omega)] at g1 g2
  exact ⟨(hc (i * 2) (by rw [cellsP_len]; omega)).trans g1, (by rw [Nat.add_assoc]; exact (hc (i * 2 + 1) (by rw [cellsP_len]; omega)).trans g2)⟩
/-- One option of a slice that is read. -/
theorem RdO.at_ (h : RdO w A n c ps) {k : Nat} (hk : k < n) : ∃ b o code A' m c' l, A = some ⟨b, o, none⟩ ∧ w.cell? ⟨b, o + k * 2, none⟩ = some (.int .i64 code) ∧ w.cell? ⟨b, o + k * 2 + 1, none⟩ = some (.slice A' m c') ∧
    Bs w A' m c' l ∧ Hid (ps[k]? = some ⟨code, A', c', l⟩) ∧ Hid (∃ h : k < (osP ps).length, (osP ps)[k] = (code, l)) ∧ Hid (l.length = m) ∧ m ≤ c' ∧ c' ≤ 9223372036854775807 := by
  obtain ⟨b, o, e, hc⟩ := h.cell hk
  have hkl : k < ps.length := by have := h.len; omega
  have hb := h.2 _ (List.getElem_mem hkl)
  exact ⟨b, o, (ps[k]).code, (ps[k]).A, (ps[k]).l.length, (ps[k]).c, (ps[k]).l, e, (hc k hkl).1, (hc k hkl).2, hb, List.getElem?_eq_getElem hkl, ⟨by rw [os_len]; exact hkl, os_get hkl⟩, rfl, hb.cap, hb.max⟩
/-- 's[:k]' -/
theorem RdO.take (h : RdO w A n c ps) {k : Nat} (hk : k ≤ n) : RdO w (if c = 0 then A else A.map (·.add (0 * 2))) k c (ps.take k) := by
  have hA : 0 < k → (if c = 0 then A else A.map (·.add (0 * 2))) = A := fun h0 => by
    obtain ⟨b, o, e, _⟩ := h.1.2.2.2 (by omega)
    have := h.cap
    rw [if_neg (by omega), e]
    simp [add_none]
  refine ⟨⟨by rw [cellsP_len, List.length_take, h.len]; omega, by have := h.cap; omega, h.1.2.2.1, fun h0 => ?_⟩, fun p hp => h.2 p (List.mem_of_mem_take hp)⟩
  rw [hA h0]
  obtain ⟨b, o, e, hc⟩ := h.1.2.2.2 (by omega)
  refine ⟨b, o, e, fun i hi => ?_⟩
  have e2 : cellsP (ps.take k) = (cellsP ps).take (k * 2) := by
    have e3 : cellsP ps = cellsP (ps.take k) ++ cellsP (ps.drop k) := by rw [← cellsP_app, List.take_append_drop]
    have e4 : (cellsP (ps.take k)).length = k * 2 := by rw [cellsP_len, List.length_take, h.len]; omega
    rw [e3, ← e4, List.take_left]
  have hi2 := hi
  rw [e2, List.length_take] at hi2
  rw [hc i (by omega)]
  simp only [e2, List.getElem_take]
end

/-! ### Owned -/
/-- The array of '.slice A n c' is of the call's own blocks (from B on), of the element type e, and its cells are those of ps. -/
def OwnC (e B : Nat) (w : World) (A : Option Addr) (n c : Nat) (ps : List Po) : Prop := w.ownsRow B e 2 (.slice A n c) n (cellsP ps)
section
variable {w w' : World} {A : Option Addr} {n c : Nat} {ps : List Po} {e u B : Nat}
theorem OwnC.len (h : OwnC e B w A n c ps) : ps.length = n := by have := h.1; rw [cellsP_len] at this; omega
theorem OwnC.rdc (h : OwnC e B w A n c ps) : RdC w A n c (cellsP ps) := by
  have hl := h.1
  rcases h.2 with ⟨h', h0⟩ | ⟨g, cap, cur, h', _, hg, hnc, hcm, _, htake⟩
  · simp only [Value.slice.injEq] at h'
    exact ⟨hl, by omega, by unfold maxLen; omega, fun h => absurd h (by omega)⟩
  · simp only [Value.slice.injEq, true_and] at h'
    obtain ⟨rfl, rfl⟩ := h'
    exact ⟨hl, hnc, hcm, fun _ => ⟨g, 0, rfl, fun i hi => by rw [Nat.zero_add, World.ownsRow.cellAt h i (by omega), List.getElem?_eq_getElem hi]⟩⟩
theorem OwnC.nil (e B : Nat) (w : World) : OwnC e B w none 0 0 [] := World.ownsRow_nil w B e 2
theorem OwnC.mono {B' : Nat} (h : OwnC e B w A n c ps) (hB : B' ≤ B) : OwnC e B' w A n c ps := by
  refine ⟨h.1, ?_⟩
  rcases h.2 with h' | ⟨g, cap, cur, h1, h2, h3⟩
  · exact .inl h'
  · exact .inr ⟨g, cap, cur, h1, by omega, h3⟩
theorem OwnC.below (h : OwnC e B w A n c ps) (hb : Below w.heap.size w w') : OwnC e B w' A n c ps := by
  refine ⟨h.1, ?_⟩
  rcases h.2 with h' | ⟨g, cap, cur, h1, h2, h3, h4⟩
  · exact .inl h'
  · refine .inr ⟨g, cap, cur, h1, h2, ?_, h4⟩
    have hlt : g < w.heap.size := by
      rcases Nat.lt_or_ge g w.heap.size with k | k
      · exact k
      · rw [Array.getElem?_eq_none k] at h3; cases h3
    exact (hb.block g hlt).trans h3
/-- A row of one option or more lies at the head of a block. -/
theorem OwnC.head (h : OwnC e B w A n c ps) (hn : 0 < n) : ∃ g, A = some ⟨g, 0, none⟩ ∧ B ≤ g ∧ g < w.heap.size := by
  obtain ⟨g, cap, hv, hB, hlt⟩ := World.ownsRow.form h hn
  simp only [Value.slice.injEq, true_and] at hv
  exact ⟨g, hv.1, hB, hlt⟩
theorem OwnC.at_ {g : Nat} (h : OwnC e B w (some ⟨g, 0, none⟩) n c ps) {i : Nat} (hi : i < ps.length) : w.cell? ⟨g, i * 2, none⟩ = some (.int .i64 (ps[i]).code) ∧ w.cell? ⟨g, i * 2 + 1, none⟩ = some (ps[i]).dv := by
  obtain ⟨g1, g2⟩ := cellsP_get hi
  have hl := h.len
  rw [World.ownsRow.cellAt h (i * 2) (by omega), World.ownsRow.cellAt h (i * 2 + 1) (by omega)]
  exact ⟨g1, g2⟩
theorem OwnC.frozen {g : Nat} (h : OwnC e B w (some ⟨g, 0, none⟩) n c ps) (j : Nat) : w.frozen? ⟨g, j, none⟩ = false := World.ownsRow.frozenAt h j
theorem own_blk {e B : Nat} {w : World} {A : Option Addr} {n c : Nat} {l : List UInt8} (h : Own e B w A n c l) : ∀ k, (Value.slice A n c).ownBlock = some k → B ≤ k ∧ k < w.heap.size := fun k hk => World.ownsRow.lt h k hk
/-- Rows of different element types do not share a block. -/
theorem rows_apart2 {e e' B B' s s' : Nat} (hne : e ≠ e') {v v' : Value} {n n' : Nat} {xs ys : List Value} (h : w.ownsRow B e s v n xs) (h' : w.ownsRow B' e' s' v' n' ys) : v.ownBlock = none ∨ v.ownBlock ≠ v'.ownBlock := by
  rcases h.2 with ⟨e1, _⟩ | ⟨g, cap, cur, e1, _, hg, _⟩
  · rw [e1]; exact .inl rfl
  · rcases h'.2 with ⟨e2, _⟩ | ⟨g', cap', cur', e2, _, hg', _⟩
    · rw [e1, e2]; exact .inr (by simp [Value.ownBlock])
    · rw [e1, e2]
      refine .inr fun k => ?_
      simp [Value.ownBlock] at k
      subst k
      rw [hg] at hg'
      injection hg' with hg'
      injection hg' with _ ht
      exact hne ht
end

/-- What is asked of the program: a slice type whose elements are options. -/
structure OpP (P : Program) (T e : TypeId) : Prop where
  hT : P.underlying T = some (.slice e)
  hi : (P.info? e).map (fun i => (i.zero, i.size, i.bytes)) = some (some (.agg #[.int .i64 0, .slice none 0 0]), 2, 32)
section
variable {P : Program} {T e : TypeId} {w : World} {A : Option Addr} {n c : Nat} {ps : List Po}
theorem OpP.elem (hp : OpP P T e) : P.elem T = e := by simp [Program.elem, hp.hT]
theorem OpP.under (hp : OpP P T e) : P.underlying T = some (.slice (P.elem T)) := by rw [hp.elem]; exact hp.hT
theorem OpP.size (hp : OpP P T e) (w : World) : (sizeOf e).run P w = .ok 2 w := by
  obtain ⟨i, hi, _, hz, _⟩ := info_parts hp.hi
  simp [sizeOf, typeInfo, hi, hz]
/-- 's[:hi]' -/
theorem OpP.cut_h (hp : OpP P T e) (h : RdO w A n c ps) (hi : Nat) (H : Int) (hH : H = (hi : Int)) (h2 : hi ≤ n) :
    ∃ A', RdO w A' hi c (ps.take hi) ∧ ∀ W, (Instr.slice T (.slice A n c) none (some (.int .i64 H)) none).run P W = .ok (.slice A' hi c) W := by
  subst hH
  refine ⟨_, h.take h2, fun W => ?_⟩
  rw [run_slice_h W T A n c hp.under .i64 hi (by omega) (by have := h.cap; omega), hp.elem, hp.size]
  simp only [Result.andThen, sliced, Int.toNat_natCast, Nat.sub_zero]
theorem run_appO_nil (hp : OpP P T e) {B : Nat} (ty : TypeId) (hown : OwnC e B w A n c ps) (c2 : Nat) : (Builtin.append_ #[T, T] ty #[.slice A n c, .slice none 0 c2]).run P w = .ok (.slice A n c) w := by
  obtain ⟨i, hi, _, hz, _⟩ := info_parts hp.hi
  rcases hown.2 with ⟨h', h0⟩ | ⟨g, cap, cur, h', _, _, hnc, _⟩
  · simp only [Value.slice.injEq] at h'
    obtain ⟨rfl, rfl, rfl⟩ := h'
    simp [Builtin.append_, run_underlying hp.hT, sizeOf, typeInfo, hi, Builtin.lenOf, Builtin.firstCells]
  · simp only [Value.slice.injEq, true_and] at h'
    obtain ⟨rfl, rfl⟩ := h'
    simp [Builtin.append_, run_underlying hp.hT, sizeOf, typeInfo, hi, Builtin.lenOf, Builtin.firstCells, hnc, storeCells]
theorem run_appO (hp : OpP P T e) {B : Nat} (ty : TypeId) (hown : OwnC e B w A n c ps) {A2 : Option Addr} {m c2 : Nat} {qs : List Po} (h2 : RdC w A2 m c2 (cellsP qs))
    (hb : (n + m) * 32 ≤ 140737488355328) (hB : B ≤ w.heap.size) :
    ∃ A' c' w', (Builtin.append_ #[T, T] ty #[.slice A n c, .slice A2 m c2]).run P w = .ok (.slice A' (n + m) c') w' ∧ OwnC e B w' A' (n + m) c' (ps ++ qs) ∧ Below B w w' ∧
      w.grownBy w' (Value.slice A n c).ownBlock := by
  have hlow : ∀ k, (Value.slice A n c).ownBlock = some k → B ≤ k := fun k hk => (World.ownsRow.lt hown k hk).1
  have hl2 := h2.1
  rw [cellsP_len] at hl2
  have hm : n + m ≤ maxLen := by unfold maxLen; omega
  rcases Nat.eq_zero_or_pos m with h0 | h0
  · subst h0
    obtain rfl : qs = [] := List.length_eq_zero_iff.1 (by omega)
    cases A2 with
    | none => exact ⟨A, c, w, run_appO_nil hp ty hown c2, by simpa using hown, Below.refl _ _, World.grownBy.refl w _⟩
    | some ad =>
      obtain ⟨i, hi, hz, hs1, hby⟩ := info_parts hp.hi
      obtain ⟨v', w', hrun, h3, h4, _, h5⟩ := run_append_own_at (P := P) w B T ty e i _ 2 32 hp.hT hi hz hs1 hby rfl (by omega) _ n _ hown ad 0 c2 [] rfl (fun j u hu => by simp at hu) (fun u hu => by cases hu) hm hb hB
      obtain ⟨A', c', rfl⟩ : ∃ A' c', v' = .slice A' (n + 0) c' := by
        rcases h3.2 with ⟨rfl, e0⟩ | ⟨g, cap, cur, rfl, _⟩
        · exact ⟨none, 0, by rw [e0]⟩
        · exact ⟨_, _, rfl⟩
      exact ⟨A', c', w', hrun, by simpa [OwnC] using h3, (Below.refl _ _).grown h4 hB hlow, h4⟩
  · obtain ⟨b, o, rfl, hc⟩ := h2.2.2.2 h0
    obtain ⟨i, hi, hz, hs1, hby⟩ := info_parts hp.hi
    obtain ⟨v', w', hrun, h3, h4, _, h5⟩ := run_append_own_at (P := P) w B T ty e i _ 2 32 hp.hT hi hz hs1 hby rfl (by omega) _ n _ hown ⟨b, o, none⟩ m c2 (cellsP qs) h2.1
      (fun j u hu => by
        obtain ⟨hj, e⟩ := List.getElem?_eq_some_iff.1 hu
        rw [add_none, hc j hj, e])
      (cellsP_oneCell qs) hm hb hB
    obtain ⟨A', c', rfl⟩ : ∃ A' c', v' = .slice A' (n + m) c' := by
      rcases h3.2 with ⟨rfl, e0⟩ | ⟨g, cap, cur, rfl, _⟩
      · omega
      · exact ⟨_, _, rfl⟩
    exact ⟨A', c', w', hrun, by unfold OwnC; rw [cellsP_app]; exact h3, (Below.refl _ _).grown h4 hB hlow, h4⟩
theorem wp_appO (hp : OpP P T e) {o : Oper} {a : Act} {K : Act → World → Prop} {Q : Exit → Act → World → Prop} (s x : Operand)
    (ho : o.op = .call { callee := .builtin .append, args := #[s, x], argTypes := #[T, T] }) {B : Nat} (hs : a.eval s = .slice A n c) (hown : OwnC e B w A n c ps)
    {A2 : Option Addr} {m c2 : Nat} {qs : List Po} (hx : a.eval x = .slice A2 m c2) (h2 : RdC w A2 m c2 (cellsP qs)) (hb : (n + m) * 32 ≤ 140737488355328) (hB : B ≤ w.heap.size)
    (h : ∀ A' c' w', OwnC e B w' A' (n + m) c' (ps ++ qs) → Below B w w' → w.grownBy w' (Value.slice A n c).ownBlock → K (a.put o.dst (.slice A' (n + m) c')) w') : o.wp P a w K Q := by
  obtain ⟨A', c', w', hrun, h3, h4, h5⟩ := run_appO hp o.type hown h2 hb hB
  unfold Oper.wp execOp
  simp only [ho, resolve, invoke, builtin, Sem.run_bind, Sem.run_pure, Result.andThen_ok, List.map_toArray, List.map_cons, List.map_nil, hs, hx, hrun]
  exact h A' c' w' h3 h4 h5
theorem wpList_appO (hp : OpP P T e) {ops : Array Oper} {rest : List Oper} {o : Oper} {a : Act} {Q : Exit → Act → World → Prop} (hgd : o.guard = none) (s x : Operand)
    (ho : o.op = .call { callee := .builtin .append, args := #[s, x], argTypes := #[T, T] }) {B : Nat} (hs : a.eval s = .slice A n c) (hown : OwnC e B w A n c ps)
    {A2 : Option Addr} {m c2 : Nat} {qs : List Po} (hx : a.eval x = .slice A2 m c2) (h2 : RdC w A2 m c2 (cellsP qs)) (hb : (n + m) * 32 ≤ 140737488355328) (hB : B ≤ w.heap.size)
    (h : ∀ A' c' w', OwnC e B w' A' (n + m) c' (ps ++ qs) → Below B w w' → w.grownBy w' (Value.slice A n c).ownBlock → wpList P ops Q rest (a.put o.dst (.slice A' (n + m) c')) w') : wpList P ops Q (o :: rest) a w :=
  wpList_plain hgd fun _ hK => wp_appO hp s x ho hs hown hx h2 hb hB fun A' c' w' h3 h4 h5 => hK _ _ (h A' c' w' h3 h4 h5)
/-- '[]api.Opt{x}': a new row of one option. -/
theorem OwnC.lit1 (e : Nat) (w : World) (p : Po) : OwnC e w.heap.size (w.alloc (.cells #[.int .i64 p.code, p.dv] e)) (some ⟨w.heap.size, 0, none⟩) 1 1 [p] := by
  have := World.ownsRow_lit (size := 2) (e := e) w #[.int .i64 p.code, p.dv] 1 (Nat.le_refl _) (by unfold maxLen; omega) rfl
  simpa [OwnC, cellsP, Po.cells] using this
end
end Go.Proofs.YtoldppbakapohaaGreatDoor.By
end
/- Small words that all layers' walks share. -/
section
namespace Go.Proofs.YtoldppbakapohaaGreatDoor
open Go.RowKit By

theorem own : ownKnob Tryz.prog.godebug = none := by kernel_rfl
theorem ret_int {k : IntKind} {a b : Int} (h : a = b) : Ending.returned (.int k a) = .returned (.int k b) := by rw [h]
theorem ret_bool {a b : Bool} (h : a = b) : Ending.returned (.bool a) = .returned (.bool b) := by rw [h]
/-- A law's walk: it returned true; nothing that was there has turned. -/
def isTrue (w : World) (e : Ending) (w' : World) : Prop := e = .returned (.bool true) ∧ Below w.heap.size w w'
theorem below_drewN {B : Nat} {a w : World} (h : Below B a w) (n : Nat) : Below B a (w.drewN n) := ⟨h.os, h.tape, h.output, h.size, h.block⟩
def lenV : Value → Nat
  | .slice _ m _ => m
  | _ => 0
theorem byP : ByP Tryz.prog 26 5 9 := ⟨Tryz.underlying26, Tryz.underlying5, Tryz.underlying9, by kernel_rfl⟩
end Go.Proofs.YtoldppbakapohaaGreatDoor
end
/- Words for slices whose elements are one cell each, over whatever program: one that reads as a list of values, one that the call owns, what is appended. No conditions but those that each theorem names. -/
section
namespace Go.Proofs.YtoldppbakapohaaGreatDoor.By
open Go.RowKit

/-- The slice '.slice A n c' reads as the values xs. -/
def Rd (w : World) (A : Option Addr) (n c : Nat) (xs : List Value) : Prop :=
  xs.length = n ∧ n ≤ c ∧ c ≤ maxLen ∧ (0 < n → ∃ b o, A = some ⟨b, o, none⟩ ∧ ∀ i (h : i < xs.length), w.cell? ⟨b, o + i, none⟩ = some xs[i])
/-- The slice '.slice A n c' is of the call's own blocks (from B on), of the element type e, and holds the values xs. -/
def OwnV (e B : Nat) (w : World) (A : Option Addr) (n c : Nat) (xs : List Value) : Prop := w.ownsRow B e 1 (.slice A n c) n xs

section
variable {w w' : World} {A : Option Addr} {n c : Nat} {xs : List Value}
theorem Rd.len (h : Rd w A n c xs) : xs.length = n := h.1
theorem Rd.cap (h : Rd w A n c xs) : n ≤ c := h.2.1
theorem Rd.max (h : Rd w A n c xs) : c ≤ 9223372036854775807 := by have := h.2.2.1; unfold maxLen at this; omega
theorem Rd.at_ (h : Rd w A n c xs) {k : Nat} (hk : k < n) : ∃ b o, A = some ⟨b, o, none⟩ ∧ ∀ i (h : i < xs.length), w.cell? ⟨b, o + i, none⟩ = some xs[i] := h.2.2.2 (by omega)
theorem OwnV.len {e B : Nat} (h : OwnV e B w A n c xs) : xs.length = n := by have := h.1; omega
theorem OwnV.rd {e B : Nat} (h : OwnV e B w A n c xs) : Rd w A n c xs := by
  have hl := h.len
  rcases h.2 with ⟨h', h0⟩ | ⟨g, cap, cur, h', _, hg, hnc, hcm, _, htake⟩
  · simp only [Value.slice.injEq] at h'
    exact ⟨hl, by omega, by unfold maxLen; omega, fun h => absurd h (by omega)⟩
  · simp only [Value.slice.injEq, true_and] at h'
    obtain ⟨rfl, rfl⟩ := h'
    exact ⟨hl, hnc, hcm, fun _ => ⟨g, 0, rfl, fun i hi => by rw [Nat.zero_add, World.ownsRow.cellAt h i (by omega), List.getElem?_eq_getElem hi]⟩⟩
theorem OwnV.below {e B : Nat} (h : OwnV e B w A n c xs) (hb : Below w.heap.size w w') : OwnV e B w' A n c xs := by
  refine ⟨h.1, ?_⟩
  rcases h.2 with h' | ⟨g, cap, cur, h1, h2, h3, h4⟩
  · exact .inl h'
  · refine .inr ⟨g, cap, cur, h1, h2, ?_, h4⟩
    have hlt : g < w.heap.size := by
      rcases Nat.lt_or_ge g w.heap.size with k | k
      · exact k
      · rw [Array.getElem?_eq_none k] at h3; cases h3
    exact (hb.block g hlt).trans h3
end

/-- What is asked of the program: a slice type whose elements are one cell. -/
structure ElP (P : Program) (T e : TypeId) (z : Value) (bytes : Nat) : Prop where
  hT : P.underlying T = some (.slice e)
  hi : (P.info? e).map (fun i => (i.zero, i.size, i.bytes)) = some (some z, 1, bytes)
  hz : z.cells.size = 1
section
variable {P : Program} {T e : TypeId} {z : Value} {bytes : Nat} {w : World} {A : Option Addr} {n c : Nat} {xs : List Value}
theorem run_appV_nil (hp : ElP P T e z bytes) {B : Nat} (ty : TypeId) (hown : OwnV e B w A n c xs) (c2 : Nat) : (Builtin.append_ #[T, T] ty #[.slice A n c, .slice none 0 c2]).run P w = .ok (.slice A n c) w := by
  obtain ⟨i, hi, _, hz, _⟩ := info_parts hp.hi
  rcases hown.2 with ⟨h', h0⟩ | ⟨g, cap, cur, h', _, _, hnc, _⟩
  · simp only [Value.slice.injEq] at h'
    obtain ⟨rfl, rfl, rfl⟩ := h'
    simp [Builtin.append_, run_underlying hp.hT, sizeOf, typeInfo, hi, Builtin.lenOf, Builtin.firstCells]
  · simp only [Value.slice.injEq, true_and] at h'
    obtain ⟨rfl, rfl⟩ := h'
    simp [Builtin.append_, run_underlying hp.hT, sizeOf, typeInfo, hi, Builtin.lenOf, Builtin.firstCells, hnc, storeCells]
theorem run_appV (hp : ElP P T e z bytes) {B : Nat} (ty : TypeId) (hown : OwnV e B w A n c xs) {A2 : Option Addr} {m c2 : Nat} {ys : List Value} (h2 : Rd w A2 m c2 ys) (h1 : ∀ u ∈ ys, u.oneCell' = true)
    (hm : n + m ≤ maxLen) (hb : (n + m) * bytes ≤ 140737488355328) (hB : B ≤ w.heap.size) :
    ∃ A' c' w', (Builtin.append_ #[T, T] ty #[.slice A n c, .slice A2 m c2]).run P w = .ok (.slice A' (n + m) c') w' ∧ OwnV e B w' A' (n + m) c' (xs ++ ys) ∧ Below B w w' ∧
      w.grownBy w' (Value.slice A n c).ownBlock ∧ ((Value.slice A' (n + m) c').ownBlock = (Value.slice A n c).ownBlock ∨ (Value.slice A' (n + m) c').ownBlock = some w.heap.size) := by
  have hlow : ∀ k, (Value.slice A n c).ownBlock = some k → B ≤ k := fun k hk => (World.ownsRow.lt hown k hk).1
  have hl2 := h2.len
  rcases Nat.eq_zero_or_pos m with h0 | h0
  · subst h0
    obtain rfl : ys = [] := List.length_eq_zero_iff.1 hl2
    cases A2 with
    | none => exact ⟨A, c, w, run_appV_nil hp ty hown c2, by simpa using hown, Below.refl _ _, World.grownBy.refl w _, .inl rfl⟩
    | some ad =>
      obtain ⟨i, hi, hz, hs1, hby⟩ := info_parts hp.hi
      obtain ⟨v', w', hrun, h3, h4, _, h5⟩ := run_append_own_at (P := P) w B T ty e i _ 1 bytes hp.hT hi hz hs1 hby hp.hz (by omega) _ n _ hown ad 0 c2 [] rfl (fun j u hu => by simp at hu) (fun u hu => by cases hu) hm hb hB
      obtain ⟨A', c', rfl⟩ : ∃ A' c', v' = .slice A' (n + 0) c' := by
        rcases h3.2 with ⟨rfl, e0⟩ | ⟨g, cap, cur, rfl, _⟩
        · exact ⟨none, 0, by rw [e0]⟩
        · exact ⟨_, _, rfl⟩
      exact ⟨A', c', w', hrun, by simpa [OwnV] using h3, (Below.refl _ _).grown h4 hB hlow, h4, h5⟩
  · obtain ⟨b, o, rfl, hc⟩ := h2.2.2.2 h0
    obtain ⟨i, hi, hz, hs1, hby⟩ := info_parts hp.hi
    obtain ⟨v', w', hrun, h3, h4, _, h5⟩ := run_append_own_at (P := P) w B T ty e i _ 1 bytes hp.hT hi hz hs1 hby hp.hz (by omega) _ n _ hown ⟨b, o, none⟩ m c2 ys (by omega)
      (fun j u hu => by
        obtain ⟨hj, e⟩ := List.getElem?_eq_some_iff.1 hu
        rw [add_none, hc j hj, e])
      h1 hm hb hB
    obtain ⟨A', c', rfl⟩ : ∃ A' c', v' = .slice A' (n + m) c' := by
      rcases h3.2 with ⟨rfl, e0⟩ | ⟨g, cap, cur, rfl, _⟩
      · omega
      · exact ⟨_, _, rfl⟩
    exact ⟨A', c', w', hrun, h3, (Below.refl _ _).grown h4 hB hlow, h4, h5⟩
theorem wp_appV (hp : ElP P T e z bytes) {o : Oper} {a : Act} {K : Act → World → Prop} {Q : Exit → Act → World → Prop} (s x : Operand)
    (ho : o.op = .call { callee := .builtin .append, args := #[s, x], argTypes := #[T, T] }) {B : Nat} (hs : a.eval s = .slice A n c) (hown : OwnV e B w A n c xs)
    {A2 : Option Addr} {m c2 : Nat} {ys : List Value} (hx : a.eval x = .slice A2 m c2) (h2 : Rd w A2 m c2 ys) (h1 : ∀ u ∈ ys, u.oneCell' = true) (hm : n + m ≤ maxLen) (hb : (n + m) * bytes ≤ 140737488355328) (hB : B ≤ w.heap.size)
    (h : ∀ A' c' w', OwnV e B w' A' (n + m) c' (xs ++ ys) → Below B w w' → w.grownBy w' (Value.slice A n c).ownBlock →
      ((Value.slice A' (n + m) c').ownBlock = (Value.slice A n c).ownBlock ∨ (Value.slice A' (n + m) c').ownBlock = some w.heap.size) → K (a.put o.dst (.slice A' (n + m) c')) w') : o.wp P a w K Q := by
  obtain ⟨A', c', w', hrun, h3, h4, h5, h6⟩ := run_appV hp o.type hown h2 h1 hm hb hB
  unfold Oper.wp execOp
  simp only [ho, resolve, invoke, builtin, Sem.run_bind, Sem.run_pure, Result.andThen_ok, List.map_toArray, List.map_cons, List.map_nil, hs, hx, hrun]
  exact h A' c' w' h3 h4 h5 h6
theorem wpList_appV (hp : ElP P T e z bytes) {ops : Array Oper} {rest : List Oper} {o : Oper} {a : Act} {Q : Exit → Act → World → Prop} (hgd : o.guard = none) (s x : Operand)
    (ho : o.op = .call { callee := .builtin .append, args := #[s, x], argTypes := #[T, T] }) {B : Nat} (hs : a.eval s = .slice A n c) (hown : OwnV e B w A n c xs)
    {A2 : Option Addr} {m c2 : Nat} {ys : List Value} (hx : a.eval x = .slice A2 m c2) (h2 : Rd w A2 m c2 ys) (h1 : ∀ u ∈ ys, u.oneCell' = true) (hm : n + m ≤ maxLen) (hb : (n + m) * bytes ≤ 140737488355328) (hB : B ≤ w.heap.size)
    (h : ∀ A' c' w', OwnV e B w' A' (n + m) c' (xs ++ ys) → Below B w w' → w.grownBy w' (Value.slice A n c).ownBlock →
      ((Value.slice A' (n + m) c').ownBlock = (Value.slice A n c).ownBlock ∨ (Value.slice A' (n + m) c').ownBlock = some w.heap.size) → wpList P ops Q rest (a.put o.dst (.slice A' (n + m) c')) w') : wpList P ops Q (o :: rest) a w :=
  wpList_plain hgd fun _ hK => wp_appV hp s x ho hs hown hx h2 h1 hm hb hB fun A' c' w' h3 h4 h5 h6 => hK _ _ (h A' c' w' h3 h4 h5 h6)
/-- '[]T{x}': a new row of one value. -/
theorem OwnV.lit1 (e : Nat) (w : World) (x : Value) : OwnV e w.heap.size (w.alloc (.cells #[x] e)) (some ⟨w.heap.size, 0, none⟩) 1 1 [x] := World.ownsRow_lit w #[x] 1 (Nat.le_refl _) (by unfold maxLen; omega) rfl
end
end Go.Proofs.YtoldppbakapohaaGreatDoor.By
end
/- Words for byte slices that lie below a mark (so that what a call makes beyond it leaves them alone), and for a block that is known whole. No conditions but those that each theorem names. -/
section
namespace Go.Proofs.YtoldppbakapohaaGreatDoor.By
open Go.RowKit Tl

/-- The slice '.slice A n c' reads as the bytes l, and its block is below U. -/
def BsU (U : Nat) (w : World) (A : Option Addr) (n c : Nat) (l : List UInt8) : Prop := Bs w A n c l ∧ (0 < n → ∀ a, A = some a → a.block < U)
section
variable {U : Nat} {w w' : World} {A : Option Addr} {n c : Nat} {l : List UInt8}
theorem BsU.bs (h : BsU U w A n c l) : Bs w A n c l := h.1
theorem BsU.len (h : BsU U w A n c l) : l.length = n := h.1.len
theorem BsU.below (h : BsU U w A n c l) (hb : Below U w w') : BsU U w' A n c l :=
  ⟨⟨h.1.1, h.1.2.1, h.1.2.2.1, fun hn => by
    obtain ⟨b, o, e, hc⟩ := h.1.2.2.2 hn
    have hlt : b < U := h.2 hn _ e
    exact ⟨b, o, e, fun i hi => (hb.cell (p := ⟨b, o + i, none⟩) hlt).trans (hc i hi)⟩⟩, h.2⟩
theorem Bs.upto (h : Bs w A n c l) : BsU w.heap.size w A n c l :=
  ⟨h, fun hn a ha => by
    obtain ⟨b, o, e, hc⟩ := h.2.2.2 hn
    rw [e] at ha
    cases ha
    have h0 : 0 < l.length := by have := h.len; omega
    have := World.block_lt_of_cell? w _ (hc 0 h0)
    exact this⟩
theorem BsU.cut (h : BsU U w A n c l) {lo hi : Nat} (h1 : lo ≤ hi) (h2 : hi ≤ n) : BsU U w (if c = lo then A else A.map (·.add (lo * 1))) (hi - lo) (c - lo) ((l.drop lo).take (hi - lo)) := by
  refine ⟨h.1.cut h1 h2, fun hn a ha => ?_⟩
  obtain ⟨b, o, e, _⟩ := h.1.2.2.2 (by omega)
  have hb := h.2 (by omega) _ e
  subst e
  by_cases hc : c = lo
  · rw [if_pos hc] at ha; cases ha; exact hb
  · rw [if_neg hc] at ha
    simp [add_none] at ha
    subst ha
    exact hb
end
section
variable {P : Program} {T e S : TypeId} {U : Nat} {w : World} {A : Option Addr} {n c : Nat} {l : List UInt8}
/-- 's[lo:]' -/
theorem ByP.cutU_l (hp : ByP P T e S) (h : BsU U w A n c l) (lo : Nat) (L : Int) (hL : L = (lo : Int)) (h1 : lo ≤ n) :
    ∃ A', BsU U w A' (n - lo) (c - lo) (l.drop lo) ∧ ∀ W, (Instr.slice T (.slice A n c) (some (.int .i64 L)) none none).run P W = .ok (.slice A' (n - lo) (c - lo)) W := by
  subst hL
  refine ⟨if c = lo then A else A.map (·.add (lo * 1)), ?_, fun W => ?_⟩
  rotate_left
  · rw [run_slice_l W T A n c hp.under .i64 lo (by omega) (by have := h.1.cap; omega), hp.elem, hp.size]
    simp only [Result.andThen, sliced, Int.toNat_natCast]
  · have := h.cut h1 (Nat.le_refl n)
    rwa [List.take_of_length_le (by rw [List.length_drop, h.len]; exact Nat.le_refl _)] at this
/-- 's[:hi]' -/
theorem ByP.cutU_h (hp : ByP P T e S) (h : BsU U w A n c l) (hi : Nat) (H : Int) (hH : H = (hi : Int)) (h2 : hi ≤ n) :
    ∃ A', BsU U w A' hi c (l.take hi) ∧ ∀ W, (Instr.slice T (.slice A n c) none (some (.int .i64 H)) none).run P W = .ok (.slice A' hi c) W := by
  subst hH
  refine ⟨if c = 0 then A else A.map (·.add (0 * 1)), ?_, fun W => ?_⟩
  rotate_left
  · rw [run_slice_h W T A n c hp.under .i64 hi (by omega) (by have := h.1.cap; omega), hp.elem, hp.size]
    simp only [Result.andThen, sliced, Int.toNat_natCast, Nat.sub_zero]
  · have := h.cut (Nat.zero_le hi) h2
    simpa using this
/-- 's[lo:hi]' -/
theorem ByP.cutU_lh (hp : ByP P T e S) (h : BsU U w A n c l) (lo hi : Nat) (L H : Int) (hL : L = (lo : Int)) (hH : H = (hi : Int)) (h1 : lo ≤ hi) (h2 : hi ≤ n) :
    ∃ A', BsU U w A' (hi - lo) (c - lo) ((l.drop lo).take (hi - lo)) ∧
      ∀ W, (Instr.slice T (.slice A n c) (some (.int .i64 L)) (some (.int .i64 H)) none).run P W = .ok (.slice A' (hi - lo) (c - lo)) W := by
  subst hL; subst hH
  refine ⟨_, h.cut h1 h2, fun W => ?_⟩
  rw [run_slice_lh W T A n c hp.under .i64 .i64 lo hi (by omega) (by omega) (by have := h.1.cap; omega), hp.elem, hp.size]
  simp [Result.andThen, sliced]
end
/-- The option k of a slice that was read at an earlier world; nothing below that world's end has turned. -/
theorem RdO.atU {w w' : World} {A : Option Addr} {n c : Nat} {ps : List Po} (h : RdO w A n c ps) (hb : Below w.heap.size w w') {k : Nat} (hk : k < n) :
    ∃ b o code A' m c' l, A = some ⟨b, o, none⟩ ∧ w'.cell? ⟨b, o + k * 2, none⟩ = some (.int .i64 code) ∧ w'.cell? ⟨b, o + k * 2 + 1, none⟩ = some (.slice A' m c') ∧
    BsU w.heap.size w' A' m c' l ∧ Hid (ps[k]? = some ⟨code, A', c', l⟩) ∧ Hid (∃ h : k < (osP ps).length, (osP ps)[k] = (code, l)) ∧ Hid (l.length = m) ∧ m ≤ c' ∧ c' ≤ 9223372036854775807 ∧ b < w.heap.size := by
  obtain ⟨b, o, code, A', m, c', l, e, h1, h2, h3, h4, h5, h6, h7, h8⟩ := h.at_ hk
  have hlt : b < w.heap.size := World.block_lt_of_cell? w _ h1
  exact ⟨b, o, code, A', m, c', l, e, (hb.cell (p := ⟨b, o + k * 2, none⟩) hlt).trans h1, (hb.cell (p := ⟨b, o + k * 2 + 1, none⟩) hlt).trans h2, h3.upto.below hb, h4, h5, h6, h7, h8, hlt⟩

/-! ### A block that is known whole -/
def Cel (w : World) (g : Nat) (t : TypeId) (cs : Array Value) : Prop := w.heap[g]? = some (.cells cs t (0, 0))
section
variable {w w' : World} {g : Nat} {t : TypeId} {cs : Array Value}
theorem Cel.born (w : World) (t : TypeId) (cs : Array Value) : Cel (w.alloc (.cells cs t)) w.heap.size t cs := heap_alloc_new w _
theorem Cel.lt (h : Cel w g t cs) : g < w.heap.size := by
  rcases Nat.lt_or_ge g w.heap.size with k | k
  · exact k
  · unfold Cel at h; rw [Array.getElem?_eq_none k] at h; cases h
theorem Cel.cell (h : Cel w g t cs) (i : Nat) : w.cell? ⟨g, i, none⟩ = cs[i]? := by
  unfold Cel at h
  simp [World.cell?, h]
theorem Cel.grown {row : Option Nat} (h : Cel w g t cs) (hg : w.grownBy w' row) (hne : some g ≠ row) : Cel w' g t cs := (hg.block g h.lt hne).trans h
theorem Cel.below {B : Nat} (h : Cel w g t cs) (hb : Below B w w') (hB : g < B) : Cel w' g t cs := (hb.block g hB).trans h
theorem Cel.not_row {e B s n : Nat} {v : Value} {xs : List Value} (h : Cel w g t cs) (ho : w.ownsRow B e s v n xs) (hne : t ≠ e) : some g ≠ v.ownBlock := by
  intro k
  rcases ho.2 with ⟨rfl, _⟩ | ⟨g', cap, cur, rfl, _, hg', _⟩
  · simp [Value.ownBlock] at k
  · simp [Value.ownBlock] at k
    subst k
    unfold Cel at h
    rw [h] at hg'
    injection hg' with hg'
    injection hg' with _ ht
    exact hne ht
end
theorem grownBy_trans {a b c : World} {r r' : Option Nat} (h : a.grownBy b r) (k : b.grownBy c r') (hr : r' = r ∨ ∃ x, r' = some x ∧ a.heap.size ≤ x) : a.grownBy c r :=
  ⟨k.os.trans h.os, k.tape.trans h.tape, k.output.trans h.output, Nat.le_trans h.size k.size, fun i hi hne => (k.block i (Nat.lt_of_lt_of_le hi h.size) (fun e => by
    rcases hr with hr | ⟨x, hr, hx⟩
    · exact hne (e.trans hr)
    · rw [hr] at e; injection e with e; omega)).trans (h.block i hi hne)⟩
theorem grownBy_of_below {a b : World} (h : Below a.heap.size a b) (r : Option Nat) : a.grownBy b r := ⟨h.os, h.tape, h.output, h.size, fun i hi _ => h.block i hi⟩
theorem Own.lit2 (e : Nat) (w : World) (x y : UInt8) : Own e w.heap.size (w.alloc (.cells #[.int .u8 (x.toNat : Int), .int .u8 (y.toNat : Int)] e)) (some ⟨w.heap.size, 0, none⟩) 2 2 [x, y] :=
  World.ownsRow_lit w #[.int .u8 (x.toNat : Int), .int .u8 (y.toNat : Int)] 2 (Nat.le_refl _) (by unfold maxLen; omega) rfl
end Go.Proofs.YtoldppbakapohaaGreatDoor.By
end
/- What the calls of package addr on prefixes, and the document's own answers to them, come to: for all numbers that an int holds. -/
section
namespace Go.Proofs.YtoldppbakapohaaGreatDoor.Aw
open Go.RowKit Ad

set_option maxHeartbeats 400000 in
theorem right_any (a : Int) (w : World) :
    Calls Tryz.prog 108 #[.int .i64 a] w fun e w' => e = .returned (.bool (rightB a)) ∧ w = w' := by
  go_enter Tryz.func108, Tryz.ntmps108
  go_wp2
  all_goals (go_ret; refine ⟨?_, rfl⟩; simp [rightB]; try omega)

set_option maxHeartbeats 400000 in
theorem refRight_any (a : Int) (w : World) :
    Calls Tryz.prog 66 #[.int .i64 a] w fun e w' => e = .returned (.bool (rightB a)) ∧ w = w' := by
  go_enter Tryz.func66, Tryz.ntmps66
  go_wp2
  all_goals (go_ret; refine ⟨ret_bool ?_, rfl⟩; rw [Bool.eq_iff_iff, rightB_iff]; simp; try omega)

set_option maxHeartbeats 400000 in
theorem bits_any (a : Int) (w : World) :
    Calls Tryz.prog 214 #[.int .i64 a] w fun e w' => e = .returned (.bool (bitsB a)) ∧ w = w' := by
  go_enter Tryz.func214, Tryz.ntmps214
  go_wp2
  all_goals (go_ret; refine ⟨?_, rfl⟩; simp [bitsB]; try omega)

set_option maxHeartbeats 400000 in
theorem size_any (k : Int) (w : World) (h0 : 0 ≤ k) (h1 : k ≤ 32) :
    Calls Tryz.prog 209 #[.int .i64 k] w fun e w' => e = .returned (.int .i64 (sz k)) ∧ w = w' := by
  go_enter Tryz.func209, Tryz.ntmps209
  go_wp2
  go_ret
  have h2 := sz_pos (k := k)
  have h3 := sz_le h0
  exact ⟨ret_int (IntWalk.wrap64_in (sz k) (by omega)), rfl⟩

/-- The document's size, by doubling. -/
theorem sz_step {k : Int} (h : k < 32) : sz k = sz (k + 1) * 2 := by
  unfold sz
  rw [show (32 - k).toNat = (32 - (k + 1)).toNat + 1 by omega, Int.pow_succ]
theorem sz_top : sz 32 = 1 := rfl

set_option maxHeartbeats 400000 in
theorem refSize_any (k : Int) (w : World) (h0 : 0 ≤ k) (h1 : k ≤ 32) :
    Calls Tryz.prog 113 #[.int .i64 k] w fun e w' => e = .returned (.int .i64 (sz k)) ∧ w = w' := by
  have HK := Lib.hid (sz_le h0)
  go_enter Tryz.func113, Tryz.ntmps113
  go_wp2
  go_loop [3, 4] (fun n i => ∃ j p : Int, k ≤ j ∧ j ≤ 32 ∧ 1 ≤ p ∧ Hid (p * sz j = sz k) ∧ i = .int .i64 j ∧ n = .int .i64 p) (fun _ i => (32 - intOf i).toNat)
  case atStart => exact ⟨k, 1, by omega, h1, by omega, Lib.hid (by omega), rfl, rfl⟩
  case round =>
    obtain ⟨j, p, hj, hj2, hp, hs, rfl, rfl⟩ := hrel
    have hp2 : p ≤ 4294967296 := by
      have := sz_pos (k := j)
      have h4 := HK.out
      have : p * 1 ≤ p * sz j := Int.mul_le_mul_of_nonneg_left (by omega) (by omega)
      have := hs.out
      omega
    by_cases hlt : j < 32
    · go_wp2
      go_round
      case rel =>
        refine ⟨j + 1, p * 2, by omega, by omega, by omega, Lib.hid ?_, rfl, rfl⟩
        rw [← hs.out, sz_step hlt, Int.mul_assoc, Int.mul_comm 2]
      case measure => simp [intOf]; omega
    · go_wp2
      go_ret
      have : j = 32 := by omega
      subst this
      have := hs.out
      rw [sz_top, Int.mul_one] at this
      rw [this]
      exact ⟨rfl, rfl⟩

theorem bits_false {k : Int} (h : ¬ bitsB k = true) : bitsB k = false := by simpa using h
theorem right_false {k : Int} (h : ¬ rightB k = true) : rightB k = false := by simpa using h
theorem fair_false {b k : Int} (h : ¬ fairB b k = true) : fairB b k = false := by simpa using h

set_option maxHeartbeats 400000 in
theorem fair_any (b k : Int) (w : World) :
    Calls Tryz.prog 177 #[.int .i64 b, .int .i64 k] w fun e w' => e = .returned (.bool (fairB b k)) ∧ w = w' := by
  by_cases hk : bitsB k = true
  · by_cases hb : rightB b = true
    · obtain ⟨hk0, hk1⟩ := bitsB_iff.1 hk
      obtain ⟨hb0, hb1⟩ := rightB_iff.1 hb
      have h2 := sz_pos (k := k)
      have h3 := sz_le hk0
      go_enter Tryz.func177, Tryz.ntmps177
      go_wp2_with (first
        | (go_at_call 214; refine (bits_any _ _).mono ?_; rintro e w' ⟨rfl, rfl⟩)
        | (go_at_call 108; refine (right_any _ _).mono ?_; rintro e w' ⟨rfl, rfl⟩)
        | (go_at_call 209; refine (size_any _ _ hk0 hk1).mono ?_; rintro e w' ⟨rfl, rfl⟩))
      go_ret
      exact ⟨ret_bool (by simp [fairB, hk, hb]; rfl), rfl⟩
    · have hb' := right_false hb
      clear hb
      go_enter Tryz.func177, Tryz.ntmps177
      go_wp2_with (first
        | (go_at_call 214; refine (bits_any _ _).mono ?_; rintro e w' ⟨rfl, rfl⟩)
        | (go_at_call 108; refine (right_any _ _).mono ?_; rintro e w' ⟨rfl, rfl⟩))
      go_ret
      exact ⟨ret_bool (by simp [fairB, hb']), rfl⟩
  · have hk' := bits_false hk
    clear hk
    go_enter Tryz.func177, Tryz.ntmps177
    go_wp2_with (first
      | (go_at_call 214; refine (bits_any _ _).mono ?_; rintro e w' ⟨rfl, rfl⟩))
    go_ret
    exact ⟨ret_bool (by simp [fairB, hk']), rfl⟩

set_option maxHeartbeats 400000 in
theorem refFair_any (b k : Int) (w : World) :
    Calls Tryz.prog 112 #[.int .i64 b, .int .i64 k] w fun e w' => e = .returned (.bool (fairB b k)) ∧ w = w' := by
  by_cases hk : bitsB k = true
  · obtain ⟨hk0, hk1⟩ := bitsB_iff.1 hk
    by_cases hb : rightB b = true
    · obtain ⟨hb0, hb1⟩ := rightB_iff.1 hb
      have h2 := sz_pos (k := k)
      have h3 := sz_le hk0
      go_enter Tryz.func112, Tryz.ntmps112
      go_wp2_with (first
        | (go_at_call 66; refine (refRight_any _ _).mono ?_; rintro e w' ⟨rfl, rfl⟩)
        | (go_at_call 113; refine (refSize_any _ _ hk0 hk1).mono ?_; rintro e w' ⟨rfl, rfl⟩))
      go_ret
      exact ⟨ret_bool (by simp [fairB, hk, hb]; rfl), rfl⟩
    · have hb' := right_false hb
      clear hb
      go_enter Tryz.func112, Tryz.ntmps112
      go_wp2_with (first
        | (go_at_call 66; refine (refRight_any _ _).mono ?_; rintro e w' ⟨rfl, rfl⟩))
      go_ret
      exact ⟨ret_bool (by simp [fairB, hb']), rfl⟩
  · have hk' := bits_false hk
    have hk2 : ¬ (0 ≤ k ∧ k ≤ 32) := fun h => hk (bitsB_iff.2 h)
    clear hk
    by_cases hk0 : 0 ≤ k
    · have hd : decide (k ≤ 32) = false := by simp; omega
      clear hk2
      go_enter Tryz.func112, Tryz.ntmps112
      go_wp2
      go_ret
      exact ⟨ret_bool (by simp [fairB, hk']), rfl⟩
    · have hd : decide (0 ≤ k) = false := by simp; omega
      clear hk2 hk0
      go_enter Tryz.func112, Tryz.ntmps112
      go_wp2
      go_ret
      exact ⟨ret_bool (by simp [fairB, hk']), rfl⟩

set_option maxHeartbeats 400000 in
theorem mask_yes (k : Int) (w : World) (hk : bitsB k = true) :
    Calls Tryz.prog 238 #[.int .i64 k] w fun e w' => e = .returned (.tuple #[.int .i64 (4294967296 - sz k), .int .i64 0]) ∧ w = w' := by
  obtain ⟨hk0, hk1⟩ := bitsB_iff.1 hk
  have h2 := sz_pos (k := k)
  have h3 := sz_le hk0
  go_enter Tryz.func238, Tryz.ntmps238
  go_wp2_with (first
    | (go_at_call 214; refine (bits_any _ _).mono ?_; rintro e w' ⟨rfl, rfl⟩)
    | (go_at_call 209; refine (size_any _ _ hk0 hk1).mono ?_; rintro e w' ⟨rfl, rfl⟩))
  go_ret2
  exact ⟨rfl, rfl⟩

set_option maxHeartbeats 400000 in
theorem last_yes (b k : Int) (w : World) (h : fairB b k = true) :
    Calls Tryz.prog 217 #[.int .i64 b, .int .i64 k] w fun e w' => e = .returned (.tuple #[.int .i64 (b + sz k - 1), .int .i64 0]) ∧ w = w' := by
  have h' := fairB_iff.1 h
  have hk0 := h'.1.1
  have hk1 := h'.1.2
  have hb0 := h'.2.1.1
  have hb1 := h'.2.1.2
  clear h'
  have h2 := sz_pos (k := k)
  have h3 := sz_le hk0
  go_enter Tryz.func217, Tryz.ntmps217
  go_wp2_with (first
    | (go_at_call 177; refine (fair_any _ _ _).mono ?_; rintro e w' ⟨rfl, rfl⟩)
    | (go_at_call 209; refine (size_any _ _ hk0 hk1).mono ?_; rintro e w' ⟨rfl, rfl⟩))
  go_ret2
  exact ⟨rfl, rfl⟩
set_option maxHeartbeats 400000 in
theorem refLast_any (b k : Int) (w : World) (h : fairB b k = true) :
    Calls Tryz.prog 160 #[.int .i64 b, .int .i64 k] w fun e w' => e = .returned (.int .i64 (b + sz k - 1)) ∧ w = w' := by
  have h' := fairB_iff.1 h
  have hk0 := h'.1.1
  have hk1 := h'.1.2
  have hb0 := h'.2.1.1
  have hb1 := h'.2.1.2
  clear h'
  have h2 := sz_pos (k := k)
  have h3 := sz_le hk0
  go_enter Tryz.func160, Tryz.ntmps160
  go_wp2_with (first
    | (go_at_call 113; refine (refSize_any _ _ hk0 hk1).mono ?_; rintro e w' ⟨rfl, rfl⟩))
  go_ret
  exact ⟨rfl, rfl⟩

set_option maxHeartbeats 400000 in
theorem has_any (b k a : Int) (w : World) :
    Calls Tryz.prog 167 #[.int .i64 b, .int .i64 k, .int .i64 a] w fun e w' => e = .returned (.bool (hasB b k a)) ∧ w = w' := by
  by_cases hf : fairB b k = true
  · by_cases ha : rightB a = true
    · have h' := fairB_iff.1 hf
      have hk0 := h'.1.1
      have hk1 := h'.1.2
      clear h'
      obtain ⟨ha0, ha1⟩ := rightB_iff.1 ha
      have h2 := sz_pos (k := k)
      have h3 := sz_le hk0
      have h4 := Int.emod_nonneg a (b := sz k) (by omega)
      have h5 := Int.emod_lt_of_pos a (b := sz k) (by omega)
      have HC := Lib.hid (has_code (a := a) hf)
      go_enter Tryz.func167, Tryz.ntmps167
      go_wp2_with (first
        | (go_at_call 177; refine (fair_any _ _ _).mono ?_; rintro e w' ⟨rfl, rfl⟩)
        | (go_at_call 108; refine (right_any _ _).mono ?_; rintro e w' ⟨rfl, rfl⟩)
        | (go_at_call 209; refine (size_any _ _ hk0 hk1).mono ?_; rintro e w' ⟨rfl, rfl⟩))
      go_ret
      refine ⟨ret_bool ?_, rfl⟩
      show (a - a % sz k == b) = _
      rw [Bool.eq_iff_iff, hasB_iff, beq_iff_eq, HC.out]
      exact ⟨fun h => ⟨hf, ⟨ha0, ha1⟩, h⟩, fun h => h.2.2⟩
    · have ha' := right_false ha
      clear ha
      go_enter Tryz.func167, Tryz.ntmps167
      go_wp2_with (first
        | (go_at_call 177; refine (fair_any _ _ _).mono ?_; rintro e w' ⟨rfl, rfl⟩)
        | (go_at_call 108; refine (right_any _ _).mono ?_; rintro e w' ⟨rfl, rfl⟩))
      go_ret
      exact ⟨ret_bool (by simp [hasB, ha']), rfl⟩
  · have hf' := fair_false hf
    clear hf
    go_enter Tryz.func167, Tryz.ntmps167
    go_wp2_with (first
      | (go_at_call 177; refine (fair_any _ _ _).mono ?_; rintro e w' ⟨rfl, rfl⟩))
    go_ret
    exact ⟨ret_bool (by simp [hasB, hf']), rfl⟩

set_option maxHeartbeats 400000 in
theorem refHas_any (b k a : Int) (w : World) :
    Calls Tryz.prog 68 #[.int .i64 b, .int .i64 k, .int .i64 a] w fun e w' => e = .returned (.bool (hasB b k a)) ∧ w = w' := by
  by_cases hf : fairB b k = true
  · by_cases ha : rightB a = true
    · have h' := fairB_iff.1 hf
      have hk0 := h'.1.1
      have hk1 := h'.1.2
      have hb0 := h'.2.1.1
      have hb1 := h'.2.1.2
      clear h'
      have HA := Lib.hid (rightB_iff.1 ha)
      have h2 := sz_pos (k := k)
      have h3 := sz_le hk0
      by_cases hba : b ≤ a
      · go_enter Tryz.func68, Tryz.ntmps68
        go_wp2_with (first
          | (go_at_call 112; refine (refFair_any _ _ _).mono ?_; rintro e w' ⟨rfl, rfl⟩)
          | (go_at_call 66; refine (refRight_any _ _).mono ?_; rintro e w' ⟨rfl, rfl⟩)
          | (go_at_call 113; refine (refSize_any _ _ hk0 hk1).mono ?_; rintro e w' ⟨rfl, rfl⟩))
        go_ret
        exact ⟨ret_bool (by simp [hasB, hf, ha, hba]), rfl⟩
      · have hd : decide (b ≤ a) = false := by simp; omega
        go_enter Tryz.func68, Tryz.ntmps68
        go_wp2_with (first
          | (go_at_call 112; refine (refFair_any _ _ _).mono ?_; rintro e w' ⟨rfl, rfl⟩)
          | (go_at_call 66; refine (refRight_any _ _).mono ?_; rintro e w' ⟨rfl, rfl⟩))
        go_ret
        exact ⟨ret_bool (by simp [hasB]; intros; omega), rfl⟩
    · have ha' := right_false ha
      clear ha
      go_enter Tryz.func68, Tryz.ntmps68
      go_wp2_with (first
        | (go_at_call 112; refine (refFair_any _ _ _).mono ?_; rintro e w' ⟨rfl, rfl⟩)
        | (go_at_call 66; refine (refRight_any _ _).mono ?_; rintro e w' ⟨rfl, rfl⟩))
      go_ret
      exact ⟨ret_bool (by simp [hasB, ha']), rfl⟩
  · have hf' := fair_false hf
    clear hf
    go_enter Tryz.func68, Tryz.ntmps68
    go_wp2_with (first
      | (go_at_call 112; refine (refFair_any _ _ _).mono ?_; rintro e w' ⟨rfl, rfl⟩))
    go_ret
    exact ⟨ret_bool (by simp [hasB, hf']), rfl⟩

set_option maxHeartbeats 400000 in
theorem meet_any (b k c l : Int) (w : World) :
    Calls Tryz.prog 219 #[.int .i64 b, .int .i64 k, .int .i64 c, .int .i64 l] w fun e w' => e = .returned (.bool (meetB b k c l)) ∧ w = w' := by
  by_cases hf : fairB b k = true
  · by_cases hg : fairB c l = true
    · have HM := Lib.hid (meet_code hf hg)
      cases h1 : hasB b k c
      · go_enter Tryz.func219, Tryz.ntmps219
        go_wp2_with (first
          | (go_at_call 177; refine (fair_any _ _ _).mono ?_; rintro e w' ⟨rfl, rfl⟩)
          | (go_at_call 167; refine (has_any _ _ _ _).mono ?_; rintro e w' ⟨rfl, rfl⟩))
        go_ret
        exact ⟨ret_bool (by rw [← HM.out, h1]; rfl), rfl⟩
      · go_enter Tryz.func219, Tryz.ntmps219
        go_wp2_with (first
          | (go_at_call 177; refine (fair_any _ _ _).mono ?_; rintro e w' ⟨rfl, rfl⟩)
          | (go_at_call 167; refine (has_any _ _ _ _).mono ?_; rintro e w' ⟨rfl, rfl⟩))
        go_ret
        exact ⟨ret_bool (by rw [← HM.out, h1]; rfl), rfl⟩
    · have hg' := fair_false hg
      clear hg
      go_enter Tryz.func219, Tryz.ntmps219
      go_wp2_with (first
        | (go_at_call 177; refine (fair_any _ _ _).mono ?_; rintro e w' ⟨rfl, rfl⟩))
      go_ret
      exact ⟨ret_bool (by simp [meetB, hg']), rfl⟩
  · have hf' := fair_false hf
    clear hf
    go_enter Tryz.func219, Tryz.ntmps219
    go_wp2_with (first
      | (go_at_call 177; refine (fair_any _ _ _).mono ?_; rintro e w' ⟨rfl, rfl⟩))
    go_ret
    exact ⟨ret_bool (by simp [meetB, hf']), rfl⟩

set_option maxHeartbeats 400000 in
theorem refMeet_any (b k c l : Int) (w : World) :
    Calls Tryz.prog 101 #[.int .i64 b, .int .i64 k, .int .i64 c, .int .i64 l] w fun e w' => e = .returned (.bool (meetB b k c l)) ∧ w = w' := by
  by_cases hf : fairB b k = true
  · by_cases hg : fairB c l = true
    · by_cases h1 : b ≤ c + sz l - 1
      · go_enter Tryz.func101, Tryz.ntmps101
        go_wp2_with (first
          | (go_at_call 112; refine (refFair_any _ _ _).mono ?_; rintro e w' ⟨rfl, rfl⟩)
          | (go_at_call 160; refine (refLast_any _ _ _ (by assumption)).mono ?_; rintro e w' ⟨rfl, rfl⟩))
        go_ret
        exact ⟨ret_bool (by simp [meetB, hf, hg, h1]), rfl⟩
      · have hd : decide (b ≤ c + sz l - 1) = false := by simp; omega
        go_enter Tryz.func101, Tryz.ntmps101
        go_wp2_with (first
          | (go_at_call 112; refine (refFair_any _ _ _).mono ?_; rintro e w' ⟨rfl, rfl⟩)
          | (go_at_call 160; refine (refLast_any _ _ _ (by assumption)).mono ?_; rintro e w' ⟨rfl, rfl⟩))
        go_ret
        exact ⟨ret_bool (by simp [meetB]; intros; omega), rfl⟩
    · have hg' := fair_false hg
      clear hg
      go_enter Tryz.func101, Tryz.ntmps101
      go_wp2_with (first
        | (go_at_call 112; refine (refFair_any _ _ _).mono ?_; rintro e w' ⟨rfl, rfl⟩))
      go_ret
      exact ⟨ret_bool (by simp [meetB, hg']), rfl⟩
  · have hf' := fair_false hf
    clear hf
    go_enter Tryz.func101, Tryz.ntmps101
    go_wp2_with (first
      | (go_at_call 112; refine (refFair_any _ _ _).mono ?_; rintro e w' ⟨rfl, rfl⟩))
    go_ret
    exact ⟨ret_bool (by simp [meetB, hf']), rfl⟩
end Go.Proofs.YtoldppbakapohaaGreatDoor.Aw
end
/- Words for slices of structs of a fixed number of one-cell fields, over whatever program: one that reads as a list, one whose array the call owns; what is cut and appended. An element a lies in the cells 'cs a'. No conditions but those that each theorem names. -/
section
namespace Go.Proofs.YtoldppbakapohaaGreatDoor.By
open Go.RowKit

/-- How an element lies in memory: s cells, each of one cell. -/
structure Lay (α : Type) where
  s : Nat
  cs : α → List Value
  len : ∀ a, (cs a).length = s
  one : ∀ a, ∀ u ∈ cs a, u.oneCell' = true
section
variable {α : Type} (Y : Lay α)
def Lay.cells (l : List α) : List Value := l.flatMap Y.cs
theorem Lay.cells_len (l : List α) : (Y.cells l).length = l.length * Y.s := by
  unfold Lay.cells
  induction l with
  | nil => simp
  | cons a l ih => rw [List.flatMap_cons, List.length_append, ih, Y.len, List.length_cons, Nat.add_mul]; omega
theorem Lay.cells_app (a b : List α) : Y.cells (a ++ b) = Y.cells a ++ Y.cells b := by unfold Lay.cells; rw [List.flatMap_append]
theorem Lay.cells_one (a : α) : Y.cells [a] = Y.cs a := by simp [Lay.cells]
theorem Lay.cells_get : ∀ {l : List α} {i : Nat} (h : i < l.length) {j : Nat} {v : Value}, (Y.cs l[i])[j]? = some v → (Y.cells l)[i * Y.s + j]? = some v
  | a :: l, 0, _, j, v, hv => by
    have e : Y.cells (a :: l) = Y.cs a ++ Y.cells l := by simp [Lay.cells]
    have hj : j < (Y.cs a).length := (List.getElem?_eq_some_iff.1 hv).1
    rw [e, Nat.zero_mul, Nat.zero_add, List.getElem?_append_left hj]
    exact hv
  | a :: l, i + 1, h, j, v, hv => by
    have e : Y.cells (a :: l) = Y.cs a ++ Y.cells l := by simp [Lay.cells]
    have := Lay.cells_get (l := l) (i := i) (by simpa using h) (j := j) (v := v) (by simpa using hv)
    rw [e, show (i + 1) * Y.s + j = Y.s + (i * Y.s + j) by rw [Nat.add_mul]; omega, List.getElem?_append_right (by rw [Y.len]; omega), Y.len, Nat.add_sub_cancel_left]
    exact this
theorem Lay.cells_oneCell (l : List α) : ∀ u ∈ Y.cells l, u.oneCell' = true := by
  intro u hu
  obtain ⟨a, _, ha⟩ := List.mem_flatMap.1 hu
  exact Y.one a u ha
theorem Lay.cells_drop (l : List α) (k : Nat) (h : k ≤ l.length) : Y.cells (l.drop k) = (Y.cells l).drop (k * Y.s) := by
  have e : Y.cells l = Y.cells (l.take k) ++ Y.cells (l.drop k) := by rw [← Y.cells_app, List.take_append_drop]
  have e2 : (Y.cells (l.take k)).length = k * Y.s := by rw [Y.cells_len, List.length_take, Nat.min_eq_left h]
  rw [e, ← e2, List.drop_left]
theorem Lay.cells_take (l : List α) (k : Nat) (h : k ≤ l.length) : Y.cells (l.take k) = (Y.cells l).take (k * Y.s) := by
  have e : Y.cells l = Y.cells (l.take k) ++ Y.cells (l.drop k) := by rw [← Y.cells_app, List.take_append_drop]
  have e2 : (Y.cells (l.take k)).length = k * Y.s := by rw [Y.cells_len, List.length_take, Nat.min_eq_left h]
  rw [e, ← e2, List.take_left]
/-- The slice '.slice A n c' reads as the elements l; its block is below U. -/
def RdG (U : Nat) (w : World) (A : Option Addr) (n c : Nat) (l : List α) : Prop :=
  l.length = n ∧ n ≤ c ∧ c ≤ maxLen ∧ (0 < n → ∃ b o, A = some ⟨b, o, none⟩ ∧ b < U ∧ ∀ i (h : i < (Y.cells l).length), w.cell? ⟨b, o + i, none⟩ = some (Y.cells l)[i])
/-- The array of '.slice A n c' is of the call's own blocks (from B on), of the element type e, and holds the elements l. -/
def OwnG (e B : Nat) (w : World) (A : Option Addr) (n c : Nat) (l : List α) : Prop := w.ownsRow B e Y.s (.slice A n c) n (Y.cells l) ∧ l.length = n
end
section
variable {α : Type} {Y : Lay α} {U e B : Nat} {w w' : World} {A : Option Addr} {n c : Nat} {l : List α}
theorem RdG.len (h : RdG Y U w A n c l) : l.length = n := h.1
theorem RdG.cap (h : RdG Y U w A n c l) : n ≤ c := h.2.1
theorem RdG.max (h : RdG Y U w A n c l) : c ≤ 9223372036854775807 := by have := h.2.2.1; unfold maxLen at this; omega
theorem RdG.nil (U : Nat) (w : World) : RdG Y U w none 0 0 ([] : List α) := ⟨rfl, Nat.le_refl _, Nat.zero_le _, fun h => absurd h (by omega)⟩
theorem RdG.below (h : RdG Y U w A n c l) (hb : Below U w w') : RdG Y U w' A n c l :=
  ⟨h.1, h.2.1, h.2.2.1, fun hn => by
    obtain ⟨b, o, e, hU, hc⟩ := h.2.2.2 hn
    exact ⟨b, o, e, hU, fun i hi => (hb.cell (p := ⟨b, o + i, none⟩) hU).trans (hc i hi)⟩⟩
theorem RdG.mono {V : Nat} (h : RdG Y U w A n c l) (hV : U ≤ V) : RdG Y V w A n c l :=
  ⟨h.1, h.2.1, h.2.2.1, fun hn => by
    obtain ⟨b, o, e, hU, hc⟩ := h.2.2.2 hn
    exact ⟨b, o, e, by omega, hc⟩⟩
/-- One element of a slice that is read. -/
theorem RdG.at_ (h : RdG Y U w A n c l) {k : Nat} (hk : k < n) : ∃ b o, A = some ⟨b, o, none⟩ ∧ b < U ∧ ∃ a, Hid (l[k]? = some a) ∧ ∀ j v, (Y.cs a)[j]? = some v → w.cell? ⟨b, o + k * Y.s + j, none⟩ = some v := by
  obtain ⟨b, o, e, hU, hc⟩ := h.2.2.2 (by omega)
  have hkl : k < l.length := by have := h.1; omega
  refine ⟨b, o, e, hU, l[k], List.getElem?_eq_getElem hkl, fun j v hv => ?_⟩
  obtain ⟨hi, hg⟩ := List.getElem?_eq_some_iff.1 (Y.cells_get hkl hv)
  rw [Nat.add_assoc, hc _ hi, hg]
theorem RdG.cut (h : RdG Y U w A n c l) {lo hi : Nat} (h1 : lo ≤ hi) (h2 : hi ≤ n) :
    RdG Y U w (if c = lo then A else A.map (·.add (lo * Y.s))) (hi - lo) (c - lo) ((l.drop lo).take (hi - lo)) := by
  obtain ⟨hl, hc, hm, hcell⟩ := h
  refine ⟨by rw [List.length_take, List.length_drop]; omega, by omega, by omega, fun hn => ?_⟩
  obtain ⟨b, o, rfl, hU, hcl⟩ := hcell (by omega)
  refine ⟨b, o + lo * Y.s, by rw [if_neg (by omega)]; exact congrArg some (add_none b o _), hU, fun i hi' => ?_⟩
  have e : Y.cells ((l.drop lo).take (hi - lo)) = ((Y.cells l).drop (lo * Y.s)).take ((hi - lo) * Y.s) := by
    rw [Y.cells_take _ _ (by rw [List.length_drop]; omega), Y.cells_drop _ _ (by omega)]
  have hi2 := hi'
  rw [e, List.length_take, List.length_drop] at hi2
  rw [Nat.add_assoc, hcl (lo * Y.s + i) (by omega)]
  simp only [e, List.getElem_take, List.getElem_drop]
theorem OwnG.len (h : OwnG Y e B w A n c l) : l.length = n := h.2
theorem OwnG.rd (h : OwnG Y e B w A n c l) : RdG Y w.heap.size w A n c l := by
  have hl := h.2
  rcases h.1.2 with ⟨h', h0⟩ | ⟨g, cap, cur, h', _, hg, hnc, hcm, _, _⟩
  · simp only [Value.slice.injEq] at h'
    exact ⟨hl, by omega, by unfold maxLen; omega, fun h => absurd h (by omega)⟩
  · simp only [Value.slice.injEq, true_and] at h'
    obtain ⟨rfl, rfl⟩ := h'
    have hlt : g < w.heap.size := by
      rcases Nat.lt_or_ge g w.heap.size with k | k
      · exact k
      · rw [Array.getElem?_eq_none k] at hg; cases hg
    refine ⟨hl, hnc, hcm, fun _ => ⟨g, 0, rfl, hlt, fun i hi => ?_⟩⟩
    have hi2 := hi
    rw [Y.cells_len, hl] at hi2
    rw [Nat.zero_add, World.ownsRow.cellAt h.1 i hi2, List.getElem?_eq_getElem hi]
theorem OwnG.nil (e B : Nat) (w : World) : OwnG Y e B w none 0 0 ([] : List α) := ⟨World.ownsRow_nil w B e Y.s, rfl⟩
theorem OwnG.mono {B' : Nat} (h : OwnG Y e B w A n c l) (hB : B' ≤ B) : OwnG Y e B' w A n c l := by
  refine ⟨⟨h.1.1, ?_⟩, h.2⟩
  rcases h.1.2 with h' | ⟨g, cap, cur, h1, h2, h3⟩
  · exact .inl h'
  · exact .inr ⟨g, cap, cur, h1, by omega, h3⟩
theorem OwnG.below (h : OwnG Y e B w A n c l) (hb : Below w.heap.size w w') : OwnG Y e B w' A n c l := by
  refine ⟨⟨h.1.1, ?_⟩, h.2⟩
  rcases h.1.2 with h' | ⟨g, cap, cur, h1, h2, h3, h4⟩
  · exact .inl h'
  · refine .inr ⟨g, cap, cur, h1, h2, ?_, h4⟩
    have hlt : g < w.heap.size := by
      rcases Nat.lt_or_ge g w.heap.size with k | k
      · exact k
      · rw [Array.getElem?_eq_none k] at h3; cases h3
    exact (hb.block g hlt).trans h3
/-- A literal of elements: a new row. -/
theorem OwnG.lit (e : Nat) (w : World) (l : List α) (hn : l.length ≤ 1000) : OwnG Y e w.heap.size (w.alloc (.cells (Y.cells l).toArray e)) (some ⟨w.heap.size, 0, none⟩) l.length l.length l := by
  refine ⟨?_, rfl⟩
  have := World.ownsRow_lit (size := Y.s) (e := e) w (Y.cells l).toArray l.length (Nat.le_refl _) (by unfold maxLen; omega) (by simp [Y.cells_len])
  simpa using this
end
/-- What is asked of the program: a slice type whose elements lie so. -/
structure RgP {α : Type} (P : Program) (T e : TypeId) (Y : Lay α) (z : Value) (by_ : Nat) : Prop where
  hT : P.underlying T = some (.slice e)
  hi : (P.info? e).map (fun i => (i.zero, i.size, i.bytes)) = some (some z, Y.s, by_)
section
variable {α : Type} {Y : Lay α} {P : Program} {T e : TypeId} {z : Value} {y : Nat} {w : World} {A : Option Addr} {n c U : Nat} {l : List α}
theorem RgP.elem (hp : RgP P T e Y z y) : P.elem T = e := by simp [Program.elem, hp.hT]
theorem RgP.under (hp : RgP P T e Y z y) : P.underlying T = some (.slice (P.elem T)) := by rw [hp.elem]; exact hp.hT
theorem RgP.size (hp : RgP P T e Y z y) (w : World) : (sizeOf e).run P w = .ok Y.s w := by
  obtain ⟨i, hi, _, hz, _⟩ := info_parts hp.hi
  simp [sizeOf, typeInfo, hi, hz]
/-- 's[lo:]' -/
theorem RgP.cut_l (hp : RgP P T e Y z y) (h : RdG Y U w A n c l) (lo : Nat) (L : Int) (hL : L = (lo : Int)) (h1 : lo ≤ n) :
    ∃ A', RdG Y U w A' (n - lo) (c - lo) (l.drop lo) ∧ ∀ W, (Instr.slice T (.slice A n c) (some (.int .i64 L)) none none).run P W = .ok (.slice A' (n - lo) (c - lo)) W := by
  subst hL
  refine ⟨if c = lo then A else A.map (·.add (lo * Y.s)), ?_, fun W => ?_⟩
  rotate_left
  · rw [run_slice_l W T A n c hp.under .i64 lo (by omega) (by have := h.cap; omega), hp.elem, hp.size]
    simp only [Result.andThen, sliced, Int.toNat_natCast]
  · have := h.cut h1 (Nat.le_refl n)
    rwa [List.take_of_length_le (by rw [List.length_drop, h.len]; exact Nat.le_refl _)] at this
/-- 's[:hi]' -/
theorem RgP.cut_h (hp : RgP P T e Y z y) (h : RdG Y U w A n c l) (hi : Nat) (H : Int) (hH : H = (hi : Int)) (h2 : hi ≤ n) :
    ∃ A', RdG Y U w A' hi c (l.take hi) ∧ ∀ W, (Instr.slice T (.slice A n c) none (some (.int .i64 H)) none).run P W = .ok (.slice A' hi c) W := by
  subst hH
  refine ⟨if c = 0 then A else A.map (·.add (0 * Y.s)), ?_, fun W => ?_⟩
  rotate_left
  · rw [run_slice_h W T A n c hp.under .i64 hi (by omega) (by have := h.cap; omega), hp.elem, hp.size]
    simp only [Result.andThen, sliced, Int.toNat_natCast, Nat.sub_zero]
  · have := h.cut (Nat.zero_le hi) h2
    simpa using this

/-! ### Appending -/
theorem run_appG_nil (hp : RgP P T e Y z y) {B : Nat} (ty : TypeId) (hown : OwnG Y e B w A n c l) (c2 : Nat) : (Builtin.append_ #[T, T] ty #[.slice A n c, .slice none 0 c2]).run P w = .ok (.slice A n c) w := by
  obtain ⟨i, hi, _, hz, _⟩ := info_parts hp.hi
  rcases hown.1.2 with ⟨h', h0⟩ | ⟨g, cap, cur, h', _, _, hnc, _⟩
  · simp only [Value.slice.injEq] at h'
    obtain ⟨rfl, rfl, rfl⟩ := h'
    simp [Builtin.append_, run_underlying hp.hT, sizeOf, typeInfo, hi, Builtin.lenOf, Builtin.firstCells]
  · simp only [Value.slice.injEq, true_and] at h'
    obtain ⟨rfl, rfl⟩ := h'
    simp [Builtin.append_, run_underlying hp.hT, sizeOf, typeInfo, hi, Builtin.lenOf, Builtin.firstCells, hnc, storeCells]
/-- What an append leaves: the row, longer; no old block below B has turned, and none but the row's own. -/
def AppG (Y : Lay α) (e B : Nat) (w : World) (A : Option Addr) (n c m : Nat) (l : List α) (A' : Option Addr) (c' : Nat) (w' : World) : Prop :=
  OwnG Y e B w' A' (n + m) c' l ∧ Below B w w' ∧ w.grownBy w' (Value.slice A n c).ownBlock ∧ ((Value.slice A' (n + m) c').ownBlock = (Value.slice A n c).ownBlock ∨ (Value.slice A' (n + m) c').ownBlock = some w.heap.size)
theorem run_appG (hp : RgP P T e Y z y) (hs0 : 0 < Y.s) (hy : 0 < y) (hyz : z.cells.size = Y.s) {B : Nat} (ty : TypeId) (hown : OwnG Y e B w A n c l) {A2 : Option Addr} {m c2 : Nat} {l2 : List α} (h2 : RdG Y U w A2 m c2 l2)
    (hb : (n + m) * y ≤ 140737488355328) (hB : B ≤ w.heap.size) :
    ∃ A' c' w', (Builtin.append_ #[T, T] ty #[.slice A n c, .slice A2 m c2]).run P w = .ok (.slice A' (n + m) c') w' ∧ AppG Y e B w A n c m (l ++ l2) A' c' w' := by
  have hlow : ∀ k, (Value.slice A n c).ownBlock = some k → B ≤ k := fun k hk => (World.ownsRow.lt hown.1 k hk).1
  have hl2 := h2.1
  have hm : n + m ≤ maxLen := by
    have := Nat.le_mul_of_pos_right (n + m) hy
    unfold maxLen
    omega
  have hll : (l ++ l2).length = n + m := by rw [List.length_append, hown.2, hl2]
  obtain ⟨i, hi, hz, hs1, hby⟩ := info_parts hp.hi
  rcases Nat.eq_zero_or_pos m with h0 | h0
  · subst h0
    obtain rfl : l2 = [] := List.length_eq_zero_iff.1 hl2
    cases A2 with
    | none => exact ⟨A, c, w, run_appG_nil hp ty hown c2, ⟨by simpa using hown, Below.refl _ _, World.grownBy.refl w _, .inl rfl⟩⟩
    | some ad =>
      obtain ⟨v', w', hrun, h3, h4, _, h5⟩ := run_append_own_at (P := P) w B T ty e i _ Y.s y hp.hT hi hz hs1 hby hyz hs0 _ n _ hown.1 ad 0 c2 [] (by simp) (fun j u hu => by simp at hu) (fun u hu => by cases hu) hm hb hB
      obtain ⟨A', c', rfl⟩ : ∃ A' c', v' = .slice A' (n + 0) c' := by
        rcases h3.2 with ⟨rfl, e0⟩ | ⟨g, cap, cur, rfl, _⟩
        · exact ⟨none, 0, by rw [e0]⟩
        · exact ⟨_, _, rfl⟩
      exact ⟨A', c', w', hrun, ⟨⟨by simpa using h3, hll⟩, (Below.refl _ _).grown h4 hB hlow, h4, h5⟩⟩
  · obtain ⟨b, o, rfl, _, hc⟩ := h2.2.2.2 h0
    obtain ⟨v', w', hrun, h3, h4, _, h5⟩ := run_append_own_at (P := P) w B T ty e i _ Y.s y hp.hT hi hz hs1 hby hyz hs0 _ n _ hown.1 ⟨b, o, none⟩ m c2 (Y.cells l2) (by rw [Y.cells_len, hl2])
      (fun j u hu => by
        obtain ⟨hj, e⟩ := List.getElem?_eq_some_iff.1 hu
        rw [add_none, hc j hj, e])
      (Y.cells_oneCell l2) hm hb hB
    obtain ⟨A', c', rfl⟩ : ∃ A' c', v' = .slice A' (n + m) c' := by
      rcases h3.2 with ⟨rfl, e0⟩ | ⟨g, cap, cur, rfl, _⟩
      · omega
      · exact ⟨_, _, rfl⟩
    exact ⟨A', c', w', hrun, ⟨⟨by rw [Y.cells_app]; exact h3, hll⟩, (Below.refl _ _).grown h4 hB hlow, h4, h5⟩⟩
theorem wp_appG (hp : RgP P T e Y z y) (hs0 : 0 < Y.s) (hy : 0 < y) (hyz : z.cells.size = Y.s) {o : Oper} {a : Act} {K : Act → World → Prop} {Q : Exit → Act → World → Prop} (s x : Operand)
    (ho : o.op = .call { callee := .builtin .append, args := #[s, x], argTypes := #[T, T] }) {B : Nat} (hs : a.eval s = .slice A n c) (hown : OwnG Y e B w A n c l)
    {A2 : Option Addr} {m c2 : Nat} {l2 : List α} (hx : a.eval x = .slice A2 m c2) (h2 : RdG Y U w A2 m c2 l2) (hb : (n + m) * y ≤ 140737488355328) (hB : B ≤ w.heap.size)
    (h : ∀ A' c' w', AppG Y e B w A n c m (l ++ l2) A' c' w' → K (a.put o.dst (.slice A' (n + m) c')) w') : o.wp P a w K Q := by
  obtain ⟨A', c', w', hrun, h3⟩ := run_appG hp hs0 hy hyz o.type hown h2 hb hB
  unfold Oper.wp execOp
  simp only [ho, resolve, invoke, builtin, Sem.run_bind, Sem.run_pure, Result.andThen_ok, List.map_toArray, List.map_cons, List.map_nil, hs, hx, hrun]
  exact h A' c' w' h3
theorem wpList_appG (hp : RgP P T e Y z y) (hs0 : 0 < Y.s) (hy : 0 < y) (hyz : z.cells.size = Y.s) {ops : Array Oper} {rest : List Oper} {o : Oper} {a : Act} {Q : Exit → Act → World → Prop} (hgd : o.guard = none) (s x : Operand)
    (ho : o.op = .call { callee := .builtin .append, args := #[s, x], argTypes := #[T, T] }) {B : Nat} (hs : a.eval s = .slice A n c) (hown : OwnG Y e B w A n c l)
    {A2 : Option Addr} {m c2 : Nat} {l2 : List α} (hx : a.eval x = .slice A2 m c2) (h2 : RdG Y U w A2 m c2 l2) (hb : (n + m) * y ≤ 140737488355328) (hB : B ≤ w.heap.size)
    (h : ∀ A' c' w', AppG Y e B w A n c m (l ++ l2) A' c' w' → wpList P ops Q rest (a.put o.dst (.slice A' (n + m) c')) w') : wpList P ops Q (o :: rest) a w :=
  wpList_plain hgd fun _ hK => wp_appG hp hs0 hy hyz s x ho hs hown hx h2 hb hB fun A' c' w' h3 => hK _ _ (h A' c' w' h3)
end
end Go.Proofs.YtoldppbakapohaaGreatDoor.By
end
/- Words for strings by value, and for memory that has grown by one block. No conditions but those that each theorem names. -/
section
set_option maxRecDepth 8000
namespace Go.Proofs.YtoldppbakapohaaGreatDoor.Dw
open Go.RowKit By

/-! ### Strings -/
/-- A name as a string. -/
def ba (l : List UInt8) : ByteArray := ⟨l.toArray⟩
theorem ba_data (l : List UInt8) : (ba l).data.toList = l := rfl
theorem ba_list (l : List UInt8) : (ba l).toList = l := by rw [ByteArray.toList_eq]; rfl
theorem ba_size (l : List UInt8) : (ba l).size = l.length := rfl
theorem alloc_more (w : World) (o : Obj) : Below w.heap.size w (w.alloc o) := (Below.refl _ _).alloc (Nat.le_refl _) _
end Go.Proofs.YtoldppbakapohaaGreatDoor.Dw
end
/- What the small functions of key and of the document's own come to: Right, withLetter, valueOf; Right, hex, value. Conditions: for valueOf, that the table of digits holds what the program's text lays. -/
section
set_option maxRecDepth 8000
namespace Go.Proofs.YtoldppbakapohaaGreatDoor.Kw
open Go.RowKit Tl By Ky

theorem size_list (s : ByteArray) : s.data.toList.length = s.size := by rw [Array.length_toList]; rfl
theorem drop_at (s : ByteArray) (pos : Nat) (h : pos < s.size) : s.data.toList.drop pos = s[pos] :: s.data.toList.drop (pos + 1) := by
  rw [List.drop_eq_getElem_cons (by simpa using h)]; rfl
theorem not_empty (s : ByteArray) (h : 1 ≤ s.size) : s.toList.isEmpty = false := by
  rw [ByteArray.toList_eq]
  cases hl : s.data.toList with
  | nil => have := size_list s; rw [hl] at this; simp at this; omega
  | cons _ _ => rfl
theorem is_empty (s : ByteArray) (h : s.size = 0) : s.toList.isEmpty = true := by
  rw [ByteArray.toList_eq]
  cases hl : s.data.toList with
  | nil => rfl
  | cons _ _ => have := size_list s; rw [hl] at this; simp at this; omega

/-! ### Which keys are right -/
theorem right_at (s : ByteArray) (h : 0 < s.size) : rightK s.data.toList = ((s[0] == 105 && decide (2 ≤ s.size - 1 ∧ s.size - 1 ≤ 255)) || (s[0] == 104 && decide (2 ≤ s.size - 1 ∧ s.size - 1 ≤ 17))) := by
  have e := drop_at s 0 h
  rw [List.drop_zero] at e
  have hl := size_list s
  rw [e, List.length_cons] at hl
  rw [e]
  show ((s[0] == 105 && decide (2 ≤ (s.data.toList.drop (0 + 1)).length ∧ (s.data.toList.drop (0 + 1)).length ≤ 255)) || (s[0] == 104 && decide (2 ≤ (s.data.toList.drop (0 + 1)).length ∧ (s.data.toList.drop (0 + 1)).length ≤ 17))) = _
  rw [show (s.data.toList.drop (0 + 1)).length = s.size - 1 by omega]
theorem byte_eq {x : UInt8} {n : Nat} (h : (x.toNat : Int) = (n : Int)) (hn : n < 256) : x = UInt8.ofNat n := UInt8.toNat_inj.1 (by rw [UInt8.toNat_ofNat']; omega)
theorem byte_ne {x : UInt8} {n : Nat} (h : ¬ (x.toNat : Int) = (n : Int)) (hn : n < 256) : (x == UInt8.ofNat n) = false := by
  rw [beq_eq_false_iff_ne]
  intro e
  apply h
  rw [e, UInt8.toNat_ofNat']
  omega

set_option maxHeartbeats 400000 in
theorem right_any (s : ByteArray) (w : World) (hs : s.size ≤ 9223372036854775807) :
    Calls Tryz.prog 110 #[.string s] w fun e w' => e = .returned (.bool (rightK s.data.toList)) ∧ w = w' := by
  by_cases h0 : 0 < s.size
  · have HR := Lib.hid (right_at s h0)
    have n0 := not_empty s (by omega)
    generalize hx : s[0]'h0 = x at HR
    by_cases h1 : (x.toNat : Int) = 105
    · obtain rfl : x = 105 := byte_eq (n := 105) h1 (by omega)
      have H : Hid (rightK s.data.toList = decide (2 ≤ s.size - 1 ∧ s.size - 1 ≤ 255)) := by show _ = _; rw [HR.out]; simp
      by_cases h2 : 2 ≤ (s.size : Int) - 1
      · go_enter Tryz.func110, Tryz.ntmps110
        go_wp2
        go_ret
        exact ⟨ret_bool (by rw [H.out]; first | (rw [decide_eq_decide]; omega) | (simp; omega)), rfl⟩
      · go_enter Tryz.func110, Tryz.ntmps110
        go_wp2
        go_ret
        exact ⟨ret_bool (by rw [H.out]; first | (rw [decide_eq_decide]; omega) | (simp; omega)), rfl⟩
    have b1 : ((x.toNat : Int) == 105) = false := by simpa using h1
    by_cases h2 : (x.toNat : Int) = 104
    · obtain rfl : x = 104 := byte_eq (n := 104) h2 (by omega)
      have H : Hid (rightK s.data.toList = decide (2 ≤ s.size - 1 ∧ s.size - 1 ≤ 17)) := by show _ = _; rw [HR.out]; simp
      clear h1 b1
      by_cases h2 : 2 ≤ (s.size : Int) - 1
      · go_enter Tryz.func110, Tryz.ntmps110
        go_wp2
        go_ret
        exact ⟨ret_bool (by rw [H.out]; first | (rw [decide_eq_decide]; omega) | (simp; omega)), rfl⟩
      · go_enter Tryz.func110, Tryz.ntmps110
        go_wp2
        go_ret
        exact ⟨ret_bool (by rw [H.out]; first | (rw [decide_eq_decide]; omega) | (simp; omega)), rfl⟩
    have b2 : ((x.toNat : Int) == 104) = false := by simpa using h2
    have H : Hid (rightK s.data.toList = false) := by
      show _ = _
      rw [HR.out, show (x == 105) = false from byte_ne (n := 105) h1 (by omega), show (x == 104) = false from byte_ne (n := 104) h2 (by omega)]
      simp
    clear h1 h2
    go_enter Tryz.func110, Tryz.ntmps110
    go_wp2
    go_ret
    exact ⟨ret_bool H.out.symm, rfl⟩
  · have n0 := is_empty s (by omega)
    have H : Hid (rightK s.data.toList = false) := by
      show _ = _
      have := size_list s
      rw [List.length_eq_zero_iff.1 (show s.data.toList.length = 0 by omega)]
      rfl
    clear h0
    go_enter Tryz.func110, Tryz.ntmps110
    go_wp2
    go_ret
    exact ⟨ret_bool H.out.symm, rfl⟩

set_option maxHeartbeats 400000 in
theorem refRight_any (s : ByteArray) (w : World) (hs : s.size ≤ 9223372036854775807) :
    Calls Tryz.prog 67 #[.string s] w fun e w' => e = .returned (.bool (rightK s.data.toList)) ∧ w = w' := by
  by_cases h0 : (s.size : Int) < 3
  · have H : Hid (rightK s.data.toList = false) := by
      show _ = _
      cases hr : rightK s.data.toList with
      | false => rfl
      | true =>
        have := text_len hr
        have := size_list s
        omega
    go_enter Tryz.func67, Tryz.ntmps67
    go_wp2
    go_ret
    exact ⟨ret_bool H.out.symm, rfl⟩
  · have h00 : 0 < s.size := by omega
    have HR := Lib.hid (right_at s h00)
    generalize hx : s[0]'h00 = x at HR
    by_cases h1 : (x.toNat : Int) = 105
    · obtain rfl : x = 105 := byte_eq (n := 105) h1 (by omega)
      have H : Hid (rightK s.data.toList = decide (2 ≤ s.size - 1 ∧ s.size - 1 ≤ 255)) := by show _ = _; rw [HR.out]; simp
      by_cases h2 : (s.size : Int) ≤ 256
      · go_enter Tryz.func67, Tryz.ntmps67
        go_wp2
        go_ret
        exact ⟨ret_bool (by rw [H.out]; first | (rw [decide_eq_decide]; omega) | (simp; omega)), rfl⟩
      · go_enter Tryz.func67, Tryz.ntmps67
        go_wp2
        go_ret
        exact ⟨ret_bool (by rw [H.out]; first | (rw [decide_eq_decide]; omega) | (simp; omega)), rfl⟩
    have b1 : ((x.toNat : Int) == 105) = false := by simpa using h1
    by_cases h2 : (x.toNat : Int) = 104
    · obtain rfl : x = 104 := byte_eq (n := 104) h2 (by omega)
      have H : Hid (rightK s.data.toList = decide (2 ≤ s.size - 1 ∧ s.size - 1 ≤ 17)) := by show _ = _; rw [HR.out]; simp
      clear h1 b1
      go_enter Tryz.func67, Tryz.ntmps67
      go_wp2
      go_ret
      exact ⟨ret_bool (by rw [H.out]; first | (rw [decide_eq_decide]; omega) | (simp; omega)), rfl⟩
    have b2 : ((x.toNat : Int) == 104) = false := by simpa using h2
    have H : Hid (rightK s.data.toList = false) := by
      show _ = _
      rw [HR.out, show (x == 105) = false from byte_ne (n := 105) h1 (by omega), show (x == 104) = false from byte_ne (n := 104) h2 (by omega)]
      simp
    clear h1 h2
    go_enter Tryz.func67, Tryz.ntmps67
    go_wp2
    go_ret
    exact ⟨ret_bool H.out.symm, rfl⟩

/-! ### A letter ahead -/
set_option maxHeartbeats 400000 in
theorem withLetter_any (x : UInt8) (A : Option Addr) (n c : Nat) (l : List UInt8) (w : World) (h : Bs w A n c l) (hn : n ≤ 1000000) :
    Calls Tryz.prog 135 #[.int .u8 (x.toNat : Int), .slice A n c] w fun e w' => e = .returned (.string ⟨(x :: l).toArray⟩) ∧ Below w.heap.size w w' := by
  go_enter Tryz.func135, Tryz.ntmps135
  go_wp2_with (at_builtin; refine wpList_app byP rfl (.tmp 6) (.tmp 7) rfl rfl (Own.lit1 5 w x) rfl (h.alloc _) (by omega) (by simp) ?_; intro A1 c1 w1 hown1 hb1 _ _; have hcv := byP.str hown1.bs)
  go_ret
  exact ⟨rfl, ((Below.refl _ _).alloc (Nat.le_refl _) _).trans hb1⟩

/-! ### What a digit stands for -/

/-! ### The document's hex and value -/
end Go.Proofs.YtoldppbakapohaaGreatDoor.Kw
end
