/- Words for slices of options (a number and a byte slice each), over whatever program: one that reads as a list of options, one whose array the call owns, one whose bytes it owns too. No conditions but those that each theorem names. -/
import Derived.Test.YtoobijefjljnjaaByKit
import Derived.Test.YtoobijefjljnjaaTlMath
namespace Go.Proofs.Ytoobijefjljnjaa.By
open Go.RowKit Tl

/-- An option in memory. -/
structure Po where
  code : Int
  A : Option Addr
  c : Nat
  l : List UInt8
def Po.o (p : Po) : O := (p.code, p.l)
def Po.dv (p : Po) : Value := .slice p.A p.l.length p.c
def Po.cells (p : Po) : List Value := [.int .i64 p.code, p.dv]
def Po.v (p : Po) : Value := .agg #[.int .i64 p.code, p.dv]
def cellsP (ps : List Po) : List Value := ps.flatMap Po.cells
def osP (ps : List Po) : List O := ps.map Po.o
def Po.bs (w : World) (p : Po) : Prop := Bs w p.A p.l.length p.c p.l
theorem cellsP_len (ps : List Po) : (cellsP ps).length = ps.length * 2 := by
  unfold cellsP
  induction ps with
  | nil => rfl
  | cons p ps ih => rw [List.flatMap_cons, List.length_append, ih]; simp [Po.cells]; omega
theorem cellsP_app (a b : List Po) : cellsP (a ++ b) = cellsP a ++ cellsP b := by unfold cellsP; rw [List.flatMap_append]
theorem cellsP_one (p : Po) : cellsP [p] = p.cells := by simp [cellsP]
theorem cellsP_get : ∀ {ps : List Po} {i : Nat} (h : i < ps.length), (cellsP ps)[i * 2]? = some (.int .i64 (ps[i]).code) ∧ (cellsP ps)[i * 2 + 1]? = some (ps[i]).dv
  | p :: ps, 0, _ => by simp [cellsP, Po.cells]
  | p :: ps, i + 1, h => by
    have := cellsP_get (ps := ps) (i := i) (by simpa using h)
    have e : cellsP (p :: ps) = p.cells ++ cellsP ps := by simp [cellsP]
    rw [e, show (i + 1) * 2 = i * 2 + 2 by omega]
    simp only [List.getElem_cons_succ]
    rw [List.getElem?_append_right (by simp [Po.cells]), List.getElem?_append_right (by simp [Po.cells])]
    simpa [Po.cells] using this
theorem cellsP_oneCell (ps : List Po) : ∀ u ∈ cellsP ps, u.oneCell' = true := by
  intro u hu
  obtain ⟨p, _, hp⟩ := List.mem_flatMap.1 hu
  simp [Po.cells, Po.dv] at hp
  rcases hp with rfl | rfl <;> rfl
theorem cellsP_set (ps : List Po) (i : Nat) (h : i < ps.length) (q : Po) (hq : q.code = (ps[i]).code) : (cellsP ps).set (i * 2 + 1) q.dv = cellsP (ps.set i q) := by
  apply List.ext_getElem
  · simp [cellsP_len]
  · intro j h1 h2
    rw [List.length_set, cellsP_len] at h1
    rw [List.getElem_set]
    have g2 := fun (k : Nat) (hk : k < ps.length) => cellsP_get (ps := ps.set i q) (i := k) (by simpa using hk)
    have g1 := fun (k : Nat) (hk : k < ps.length) => cellsP_get (ps := ps) (i := k) hk
    obtain ⟨k, hk2⟩ : ∃ k, j = 2 * k ∨ j = 2 * k + 1 := ⟨j / 2, by omega⟩
    rcases hk2 with rfl | rfl
    · have hk : k < ps.length := by omega
      rw [if_neg (by omega)]
      have a := (g1 k hk).1
      have b := (g2 k hk).1
      rw [Nat.mul_comm] at a b
      rw [List.getElem?_eq_getElem (by rw [cellsP_len]; omega)] at a
      rw [List.getElem?_eq_getElem (by rw [cellsP_len]; simp; omega)] at b
      injection a with a
      injection b with b
      rw [a, b, List.getElem_set]
      split
      · next e => subst e; rw [hq]
      · rfl
    · have hk : k < ps.length := by omega
      have a := (g1 k hk).2
      have b := (g2 k hk).2
      rw [Nat.mul_comm] at a b
      rw [List.getElem?_eq_getElem (by rw [cellsP_len]; omega)] at a
      rw [List.getElem?_eq_getElem (by rw [cellsP_len]; simp; omega)] at b
      injection a with a
      injection b with b
      rw [a, b, List.getElem_set]
      by_cases e : i = k
      · subst e; rw [if_pos (by omega), if_pos rfl]
      · rw [if_neg (by omega), if_neg e]
theorem os_len (ps : List Po) : (osP ps).length = ps.length := by simp [osP]
theorem os_get {ps : List Po} {i : Nat} (h : i < ps.length) : (osP ps)[i]'(by rw [os_len]; exact h) = (ps[i]).o := by simp [osP]
theorem os_take (ps : List Po) (k : Nat) : osP (ps.take k) = (osP ps).take k := by simp [osP, List.map_take]
theorem os_app (a b : List Po) : osP (a ++ b) = osP a ++ osP b := by simp [osP]
theorem os_mem {ps : List Po} {p : Po} (h : p ∈ ps) : p.o ∈ osP ps := List.mem_map.2 ⟨p, h, rfl⟩

/-- The slice '.slice A n c' (two cells an element) reads as the cells xs. -/
def RdC (w : World) (A : Option Addr) (n c : Nat) (xs : List Value) : Prop :=
  xs.length = n * 2 ∧ n ≤ c ∧ c ≤ maxLen ∧ (0 < n → ∃ b o, A = some ⟨b, o, none⟩ ∧ ∀ i (h : i < xs.length), w.cell? ⟨b, o + i, none⟩ = some xs[i])
/-- The slice '.slice A n c' reads as the options ps. -/
def RdO (w : World) (A : Option Addr) (n c : Nat) (ps : List Po) : Prop := RdC w A n c (cellsP ps) ∧ ∀ p ∈ ps, p.bs w
section
variable {w w' : World} {A : Option Addr} {n c : Nat} {xs : List Value} {ps : List Po}
theorem RdC.keep (h : RdC w A n c xs) (hk : ∀ p : Addr, p.block < w.heap.size → w'.cell? p = w.cell? p) : RdC w' A n c xs :=
  ⟨h.1, h.2.1, h.2.2.1, fun hn => by
    obtain ⟨b, o, e, hc⟩ := h.2.2.2 hn
    exact ⟨b, o, e, fun i hi => (hk _ (World.block_lt_of_cell? w _ (hc i hi))).trans (hc i hi)⟩⟩
theorem RdO.keep (h : RdO w A n c ps) (hk : ∀ p : Addr, p.block < w.heap.size → w'.cell? p = w.cell? p) : RdO w' A n c ps := ⟨h.1.keep hk, fun p hp => (h.2 p hp).keep hk⟩
theorem RdO.below (h : RdO w A n c ps) (hb : Below w.heap.size w w') : RdO w' A n c ps := h.keep fun _ hp => hb.cell hp
theorem RdO.alloc (h : RdO w A n c ps) (o : Obj) : RdO (w.alloc o) A n c ps := h.keep fun p hp => World.cell?_alloc_lt w o p hp
theorem RdO.drew (h : RdO w A n c ps) : RdO w.drew A n c ps := h
theorem RdO.len (h : RdO w A n c ps) : ps.length = n := by have := h.1.1; rw [cellsP_len] at this; omega
theorem RdO.cap (h : RdO w A n c ps) : n ≤ c := h.1.2.1
theorem RdO.max (h : RdO w A n c ps) : c ≤ 9223372036854775807 := by have := h.1.2.2.1; unfold maxLen at this; omega
theorem RdO.nil (w : World) : RdO w none 0 0 [] := ⟨⟨rfl, Nat.le_refl _, Nat.zero_le _, fun h => absurd h (by omega)⟩, fun p hp => by cases hp⟩
theorem RdO.cell (h : RdO w A n c ps) {k : Nat} (hk : k < n) : ∃ b o, A = some ⟨b, o, none⟩ ∧ ∀ i (hi : i < ps.length), w.cell? ⟨b, o + i * 2, none⟩ = some (.int .i64 (ps[i]).code) ∧ w.cell? ⟨b, o + i * 2 + 1, none⟩ = some (ps[i]).dv := by
  obtain ⟨b, o, e, hc⟩ := h.1.2.2.2 (by omega)
  refine ⟨b, o, e, fun i hi => ?_⟩
  obtain ⟨g1, g2⟩ := cellsP_get hi
  rw [List.getElem?_eq_getElem (by rw [cellsP_len]; omega)] at g1 g2
  exact ⟨(hc (i * 2) (by rw [cellsP_len]; omega)).trans g1, (by rw [Nat.add_assoc]; exact (hc (i * 2 + 1) (by rw [cellsP_len]; omega)).trans g2)⟩
/-- One option of a slice that is read. -/
theorem RdO.at_ (h : RdO w A n c ps) {k : Nat} (hk : k < n) : ∃ b o code A' m c' l, A = some ⟨b, o, none⟩ ∧ w.cell? ⟨b, o + k * 2, none⟩ = some (.int .i64 code) ∧ w.cell? ⟨b, o + k * 2 + 1, none⟩ = some (.slice A' m c') ∧
    Bs w A' m c' l ∧ Hid (ps[k]? = some ⟨code, A', c', l⟩) ∧ Hid (∃ h : k < (osP ps).length, (osP ps)[k] = (code, l)) ∧ Hid (l.length = m) ∧ m ≤ c' ∧ c' ≤ 9223372036854775807 := by
  obtain ⟨b, o, e, hc⟩ := h.cell hk
  have hkl : k < ps.length := by have := h.len; omega
  have hb := h.2 _ (List.getElem_mem hkl)
  exact ⟨b, o, (ps[k]).code, (ps[k]).A, (ps[k]).l.length, (ps[k]).c, (ps[k]).l, e, (hc k hkl).1, (hc k hkl).2, hb, List.getElem?_eq_getElem hkl, ⟨by rw [os_len]; exact hkl, os_get hkl⟩, rfl, hb.cap, hb.max⟩
/-- 's[:k]' -/
theorem RdO.take (h : RdO w A n c ps) {k : Nat} (hk : k ≤ n) : RdO w (if c = 0 then A else A.map (·.add (0 * 2))) k c (ps.take k) := by
  have hA : 0 < k → (if c = 0 then A else A.map (·.add (0 * 2))) = A := fun h0 => by
    obtain ⟨b, o, e, _⟩ := h.1.2.2.2 (by omega)
    have := h.cap
    rw [if_neg (by omega), e]
    simp [add_none]
  refine ⟨⟨by rw [cellsP_len, List.length_take, h.len]; omega, by have := h.cap; omega, h.1.2.2.1, fun h0 => ?_⟩, fun p hp => h.2 p (List.mem_of_mem_take hp)⟩
  rw [hA h0]
  obtain ⟨b, o, e, hc⟩ := h.1.2.2.2 (by omega)
  refine ⟨b, o, e, fun i hi => ?_⟩
  have e2 : cellsP (ps.take k) = (cellsP ps).take (k * 2) := by
    have e3 : cellsP ps = cellsP (ps.take k) ++ cellsP (ps.drop k) := by rw [← cellsP_app, List.take_append_drop]
    have e4 : (cellsP (ps.take k)).length = k * 2 := by rw [cellsP_len, List.length_take, h.len]; omega
    rw [e3, ← e4, List.take_left]
  have hi2 := hi
  rw [e2, List.length_take] at hi2
  rw [hc i (by omega)]
  simp only [e2, List.getElem_take]
end

/-! ### Owned -/
/-- The array of '.slice A n c' is of the call's own blocks (from B on), of the element type e, and its cells are those of ps. -/
def OwnC (e B : Nat) (w : World) (A : Option Addr) (n c : Nat) (ps : List Po) : Prop := w.ownsRow B e 2 (.slice A n c) n (cellsP ps)
def Po.blk (p : Po) : Option Nat := p.dv.ownBlock
/-- Two options whose bytes do not share a block. -/
def Po.apart (p q : Po) : Prop := p.blk = none ∨ p.blk ≠ q.blk
/-- Array and bytes are of the call's own blocks; no two options share one. -/
def OwnO (e u B : Nat) (w : World) (A : Option Addr) (n c : Nat) (ps : List Po) : Prop :=
  OwnC e B w A n c ps ∧ (∀ p ∈ ps, Own u B w p.A p.l.length p.c p.l) ∧ ∀ i j (hi : i < ps.length) (hj : j < ps.length), i ≠ j → (ps[i]).apart ps[j]
section
variable {w w' : World} {A : Option Addr} {n c : Nat} {ps : List Po} {e u B : Nat}
theorem OwnC.len (h : OwnC e B w A n c ps) : ps.length = n := by have := h.1; rw [cellsP_len] at this; omega
theorem OwnC.rdc (h : OwnC e B w A n c ps) : RdC w A n c (cellsP ps) := by
  have hl := h.1
  rcases h.2 with ⟨h', h0⟩ | ⟨g, cap, cur, h', _, hg, hnc, hcm, _, htake⟩
  · simp only [Value.slice.injEq] at h'
    exact ⟨hl, by omega, by unfold maxLen; omega, fun h => absurd h (by omega)⟩
  · simp only [Value.slice.injEq, true_and] at h'
    obtain ⟨rfl, rfl⟩ := h'
    exact ⟨hl, hnc, hcm, fun _ => ⟨g, 0, rfl, fun i hi => by rw [Nat.zero_add, World.ownsRow.cellAt h i (by omega), List.getElem?_eq_getElem hi]⟩⟩
theorem OwnC.nil (e B : Nat) (w : World) : OwnC e B w none 0 0 [] := World.ownsRow_nil w B e 2
theorem OwnC.mono {B' : Nat} (h : OwnC e B w A n c ps) (hB : B' ≤ B) : OwnC e B' w A n c ps := by
  refine ⟨h.1, ?_⟩
  rcases h.2 with h' | ⟨g, cap, cur, h1, h2, h3⟩
  · exact .inl h'
  · exact .inr ⟨g, cap, cur, h1, by omega, h3⟩
theorem OwnC.below (h : OwnC e B w A n c ps) (hb : Below w.heap.size w w') : OwnC e B w' A n c ps := by
  refine ⟨h.1, ?_⟩
  rcases h.2 with h' | ⟨g, cap, cur, h1, h2, h3, h4⟩
  · exact .inl h'
  · refine .inr ⟨g, cap, cur, h1, h2, ?_, h4⟩
    have hlt : g < w.heap.size := by
      rcases Nat.lt_or_ge g w.heap.size with k | k
      · exact k
      · rw [Array.getElem?_eq_none k] at h3; cases h3
    exact (hb.block g hlt).trans h3
/-- A row of one option or more lies at the head of a block. -/
theorem OwnC.head (h : OwnC e B w A n c ps) (hn : 0 < n) : ∃ g, A = some ⟨g, 0, none⟩ ∧ B ≤ g ∧ g < w.heap.size := by
  obtain ⟨g, cap, hv, hB, hlt⟩ := World.ownsRow.form h hn
  simp only [Value.slice.injEq, true_and] at hv
  exact ⟨g, hv.1, hB, hlt⟩
theorem OwnC.at_ {g : Nat} (h : OwnC e B w (some ⟨g, 0, none⟩) n c ps) {i : Nat} (hi : i < ps.length) : w.cell? ⟨g, i * 2, none⟩ = some (.int .i64 (ps[i]).code) ∧ w.cell? ⟨g, i * 2 + 1, none⟩ = some (ps[i]).dv := by
  obtain ⟨g1, g2⟩ := cellsP_get hi
  have hl := h.len
  rw [World.ownsRow.cellAt h (i * 2) (by omega), World.ownsRow.cellAt h (i * 2 + 1) (by omega)]
  exact ⟨g1, g2⟩
theorem OwnC.frozen {g : Nat} (h : OwnC e B w (some ⟨g, 0, none⟩) n c ps) (j : Nat) : w.frozen? ⟨g, j, none⟩ = false := World.ownsRow.frozenAt h j
theorem OwnO.rd (h : OwnO e u B w A n c ps) : RdO w A n c ps := ⟨h.1.rdc, fun p hp => (h.2.1 p hp).bs⟩
theorem OwnO.nil (e u B : Nat) (w : World) : OwnO e u B w none 0 0 [] := ⟨OwnC.nil e B w, (fun p hp => by cases hp), fun i j hi => absurd hi (Nat.not_lt_zero i)⟩
theorem OwnO.mono {B' : Nat} (h : OwnO e u B w A n c ps) (hB : B' ≤ B) : OwnO e u B' w A n c ps := ⟨h.1.mono hB, fun p hp => (h.2.1 p hp).mono hB, h.2.2⟩
theorem OwnO.below (h : OwnO e u B w A n c ps) (hb : Below w.heap.size w w') : OwnO e u B w' A n c ps := ⟨h.1.below hb, fun p hp => (h.2.1 p hp).below hb, h.2.2⟩
theorem own_blk {e B : Nat} {w : World} {A : Option Addr} {n c : Nat} {l : List UInt8} (h : Own e B w A n c l) : ∀ k, (Value.slice A n c).ownBlock = some k → B ≤ k ∧ k < w.heap.size := fun k hk => World.ownsRow.lt h k hk
/-- Rows of different element types do not share a block. -/
theorem rows_apart2 {e e' B B' s s' : Nat} (hne : e ≠ e') {v v' : Value} {n n' : Nat} {xs ys : List Value} (h : w.ownsRow B e s v n xs) (h' : w.ownsRow B' e' s' v' n' ys) : v.ownBlock = none ∨ v.ownBlock ≠ v'.ownBlock := by
  rcases h.2 with ⟨e1, _⟩ | ⟨g, cap, cur, e1, _, hg, _⟩
  · rw [e1]; exact .inl rfl
  · rcases h'.2 with ⟨e2, _⟩ | ⟨g', cap', cur', e2, _, hg', _⟩
    · rw [e1, e2]; exact .inr (by simp [Value.ownBlock])
    · rw [e1, e2]
      refine .inr fun k => ?_
      simp [Value.ownBlock] at k
      subst k
      rw [hg] at hg'
      injection hg' with hg'
      injection hg' with _ ht
      exact hne ht
/-- One option more, of no bytes. -/
theorem OwnO.snoc_nil (h : OwnO e u B w A n c ps) {A' : Option Addr} {c' : Nat} {code : Int} (hne : u ≠ e) (h2 : OwnC e B w' A' (n + 1) c' (ps ++ [⟨code, none, 0, []⟩])) (hg : w.grownBy w' (Value.slice A n c).ownBlock) :
    OwnO e u B w' A' (n + 1) c' (ps ++ [⟨code, none, 0, []⟩]) := by
  refine ⟨h2, fun p hp => ?_, fun i j hi hj hij => ?_⟩
  · rcases List.mem_append.1 hp with hp | hp
    · exact World.ownsRow.kept (h.2.1 p hp) hg (rows_apart2 hne (h.2.1 p hp) h.1)
    · simp at hp; subst hp; exact Own.nil _ _ _
  · simp only [List.length_append, List.length_singleton] at hi hj
    by_cases h1 : i < ps.length
    · rw [List.getElem_append_left h1]
      by_cases h2 : j < ps.length
      · rw [List.getElem_append_left h2]
        exact h.2.2 i j h1 h2 hij
      · rw [List.getElem_append_right (by omega)]
        have e0 : j - ps.length = 0 := by omega
        simp only [e0, List.getElem_singleton]
        by_cases k : (ps[i]).blk = none
        · exact .inl k
        · exact .inr k
    · rw [List.getElem_append_right (by omega)]
      have e0 : i - ps.length = 0 := by omega
      simp only [e0, List.getElem_singleton]
      exact .inl rfl
/-- The bytes of one option are appended to, and stored back. -/
theorem OwnO.grow (h : OwnO e u B w A n c ps) {g i : Nat} (hA : A = some ⟨g, 0, none⟩) (hi : i < ps.length) {A2 : Option Addr} {n2 c2 : Nat} {l2 : List UInt8} (hne : u ≠ e) (hl2 : l2.length = n2) (h2 : Own u B w' A2 n2 c2 l2)
    (hg : w.grownBy w' (ps[i]).blk) (hat : (Value.slice A2 n2 c2).ownBlock = (ps[i]).blk ∨ (Value.slice A2 n2 c2).ownBlock = some w.heap.size) :
    OwnO e u B (w'.setCell ⟨g, i * 2 + 1, none⟩ (.slice A2 n2 c2)) A n c (ps.set i ⟨(ps[i]).code, A2, c2, l2⟩) := by
  subst hA
  subst hl2
  have hcap : OwnC e B w' (some ⟨g, 0, none⟩) n c ps := World.ownsRow.kept h.1 hg (by
    have := rows_apart2 (Ne.symm hne) h.1 (h.2.1 _ (List.getElem_mem hi))
    exact this)
  have hst := (World.ownsRow.stored hcap (i * 2 + 1) (.slice A2 l2.length c2)).1
  have hkeep : ∀ {B' n' c' : Nat} {A' : Option Addr} {l' : List UInt8}, Own u B' w' A' n' c' l' → Own u B' (w'.setCell ⟨g, i * 2 + 1, none⟩ (.slice A2 l2.length c2)) A' n' c' l' := fun {B' n' c' A' l'} ho => by
    have hap := rows_apart2 hne ho hcap
    refine ⟨ho.1, ?_⟩
    rcases ho.2 with k | ⟨g', cap, cur, k1, k2, k3, k4⟩
    · exact .inl k
    · refine .inr ⟨g', cap, cur, k1, k2, ?_, k4⟩
      rw [Below.heap_setCell]
      · exact k3
      · intro k
        rw [k1] at hap
        rcases hap with hap | hap
        · simp [Value.ownBlock] at hap
        · exact hap (by simp [Value.ownBlock]; exact k)
  refine ⟨?_, fun p hp => ?_, fun j k hj hk hjk => ?_⟩
  · unfold OwnC
    rw [← cellsP_set ps i hi ⟨(ps[i]).code, A2, c2, l2⟩ rfl]
    exact hst
  · obtain ⟨j, hj, rfl⟩ := List.mem_iff_getElem.1 hp
    rw [List.getElem_set]
    by_cases hij : i = j
    · rw [if_pos hij]
      exact hkeep h2
    · rw [if_neg hij]
      have hjl : j < ps.length := by simpa using hj
      refine hkeep (World.ownsRow.kept (h.2.1 _ (List.getElem_mem hjl)) hg ?_)
      exact h.2.2 j i hjl hi (Ne.symm hij)
  · have hjl : j < ps.length := by simpa using hj
    have hkl : k < ps.length := by simpa using hk
    rw [List.getElem_set, List.getElem_set]
    have hold : ∀ m (hm : m < ps.length), ∀ b, (ps[m]).blk = some b → b < w.heap.size := fun m hm b hb => (own_blk (h.2.1 _ (List.getElem_mem hm)) b hb).2
    by_cases h1 : i = j
    · rw [if_pos h1]
      have h2 : ¬ i = k := fun e => hjk (h1 ▸ e)
      rw [if_neg h2]
      rcases hat with hat | hat
      · have := h.2.2 i k hi hkl h2
        unfold Po.apart at this ⊢
        have e1 : Po.blk ⟨(ps[i]).code, A2, c2, l2⟩ = (ps[i]).blk := hat
        rw [e1]
        exact this
      · refine .inr fun e1 => ?_
        have e2 : Po.blk ⟨(ps[i]).code, A2, c2, l2⟩ = some w.heap.size := hat
        rw [e2] at e1
        have := hold k hkl _ e1.symm
        omega
    · rw [if_neg h1]
      by_cases h2 : i = k
      · rw [if_pos h2]
        rcases hat with hat | hat
        · have := h.2.2 j i hjl hi (Ne.symm h1)
          unfold Po.apart at this ⊢
          have e1 : Po.blk ⟨(ps[i]).code, A2, c2, l2⟩ = (ps[i]).blk := hat
          rw [e1]
          exact this
        · refine .inr fun e1 => ?_
          have e2 : Po.blk ⟨(ps[i]).code, A2, c2, l2⟩ = some w.heap.size := hat
          rw [e2] at e1
          have := hold j hjl _ e1
          omega
      · rw [if_neg h2]
        exact h.2.2 j k hjl hkl hjk
theorem os_set {ps : List Po} {i : Nat} (h : i < ps.length) (A2 : Option Addr) (c2 : Nat) (l2 : List UInt8) : osP (ps.set i ⟨(ps[i]).code, A2, c2, l2⟩) = (osP ps).set i ((ps[i]).code, l2) := by
  simp [osP, List.map_set, Po.o]
end

/-- What is asked of the program: a slice type whose elements are options. -/
structure OpP (P : Program) (T e : TypeId) : Prop where
  hT : P.underlying T = some (.slice e)
  hi : (P.info? e).map (fun i => (i.zero, i.size, i.bytes)) = some (some (.agg #[.int .i64 0, .slice none 0 0]), 2, 32)
section
variable {P : Program} {T e : TypeId} {w : World} {A : Option Addr} {n c : Nat} {ps : List Po}
theorem OpP.elem (hp : OpP P T e) : P.elem T = e := by simp [Program.elem, hp.hT]
theorem OpP.under (hp : OpP P T e) : P.underlying T = some (.slice (P.elem T)) := by rw [hp.elem]; exact hp.hT
theorem OpP.size (hp : OpP P T e) (w : World) : (sizeOf e).run P w = .ok 2 w := by
  obtain ⟨i, hi, _, hz, _⟩ := info_parts hp.hi
  simp [sizeOf, typeInfo, hi, hz]
/-- 's[:hi]' -/
theorem OpP.cut_h (hp : OpP P T e) (h : RdO w A n c ps) (hi : Nat) (H : Int) (hH : H = (hi : Int)) (h2 : hi ≤ n) :
    ∃ A', RdO w A' hi c (ps.take hi) ∧ ∀ W, (Instr.slice T (.slice A n c) none (some (.int .i64 H)) none).run P W = .ok (.slice A' hi c) W := by
  subst hH
  refine ⟨_, h.take h2, fun W => ?_⟩
  rw [run_slice_h W T A n c hp.under .i64 hi (by omega) (by have := h.cap; omega), hp.elem, hp.size]
  simp only [Result.andThen, sliced, Int.toNat_natCast, Nat.sub_zero]
theorem run_appO_nil (hp : OpP P T e) {B : Nat} (ty : TypeId) (hown : OwnC e B w A n c ps) (c2 : Nat) : (Builtin.append_ #[T, T] ty #[.slice A n c, .slice none 0 c2]).run P w = .ok (.slice A n c) w := by
  obtain ⟨i, hi, _, hz, _⟩ := info_parts hp.hi
  rcases hown.2 with ⟨h', h0⟩ | ⟨g, cap, cur, h', _, _, hnc, _⟩
  · simp only [Value.slice.injEq] at h'
    obtain ⟨rfl, rfl, rfl⟩ := h'
    simp [Builtin.append_, run_underlying hp.hT, sizeOf, typeInfo, hi, Builtin.lenOf, Builtin.firstCells]
  · simp only [Value.slice.injEq, true_and] at h'
    obtain ⟨rfl, rfl⟩ := h'
    simp [Builtin.append_, run_underlying hp.hT, sizeOf, typeInfo, hi, Builtin.lenOf, Builtin.firstCells, hnc, storeCells]
theorem run_appO (hp : OpP P T e) {B : Nat} (ty : TypeId) (hown : OwnC e B w A n c ps) {A2 : Option Addr} {m c2 : Nat} {qs : List Po} (h2 : RdC w A2 m c2 (cellsP qs))
    (hb : (n + m) * 32 ≤ 140737488355328) (hB : B ≤ w.heap.size) :
    ∃ A' c' w', (Builtin.append_ #[T, T] ty #[.slice A n c, .slice A2 m c2]).run P w = .ok (.slice A' (n + m) c') w' ∧ OwnC e B w' A' (n + m) c' (ps ++ qs) ∧ Below B w w' ∧
      w.grownBy w' (Value.slice A n c).ownBlock := by
  have hlow : ∀ k, (Value.slice A n c).ownBlock = some k → B ≤ k := fun k hk => (World.ownsRow.lt hown k hk).1
  have hl2 := h2.1
  rw [cellsP_len] at hl2
  have hm : n + m ≤ maxLen := by unfold maxLen; omega
  rcases Nat.eq_zero_or_pos m with h0 | h0
  · subst h0
    obtain rfl : qs = [] := List.length_eq_zero_iff.1 (by omega)
    cases A2 with
    | none => exact ⟨A, c, w, run_appO_nil hp ty hown c2, by simpa using hown, Below.refl _ _, World.grownBy.refl w _⟩
    | some ad =>
      obtain ⟨i, hi, hz, hs1, hby⟩ := info_parts hp.hi
      obtain ⟨v', w', hrun, h3, h4, _, h5⟩ := run_append_own_at (P := P) w B T ty e i _ 2 32 hp.hT hi hz hs1 hby rfl (by omega) _ n _ hown ad 0 c2 [] rfl (fun j u hu => by simp at hu) (fun u hu => by cases hu) hm hb hB
      obtain ⟨A', c', rfl⟩ : ∃ A' c', v' = .slice A' (n + 0) c' := by
        rcases h3.2 with ⟨rfl, e0⟩ | ⟨g, cap, cur, rfl, _⟩
        · exact ⟨none, 0, by rw [e0]⟩
        · exact ⟨_, _, rfl⟩
      exact ⟨A', c', w', hrun, by simpa [OwnC] using h3, (Below.refl _ _).grown h4 hB hlow, h4⟩
  · obtain ⟨b, o, rfl, hc⟩ := h2.2.2.2 h0
    obtain ⟨i, hi, hz, hs1, hby⟩ := info_parts hp.hi
    obtain ⟨v', w', hrun, h3, h4, _, h5⟩ := run_append_own_at (P := P) w B T ty e i _ 2 32 hp.hT hi hz hs1 hby rfl (by omega) _ n _ hown ⟨b, o, none⟩ m c2 (cellsP qs) h2.1
      (fun j u hu => by
        obtain ⟨hj, e⟩ := List.getElem?_eq_some_iff.1 hu
        rw [add_none, hc j hj, e])
      (cellsP_oneCell qs) hm hb hB
    obtain ⟨A', c', rfl⟩ : ∃ A' c', v' = .slice A' (n + m) c' := by
      rcases h3.2 with ⟨rfl, e0⟩ | ⟨g, cap, cur, rfl, _⟩
      · omega
      · exact ⟨_, _, rfl⟩
    exact ⟨A', c', w', hrun, by unfold OwnC; rw [cellsP_app]; exact h3, (Below.refl _ _).grown h4 hB hlow, h4⟩
theorem wp_appO (hp : OpP P T e) {o : Oper} {a : Act} {K : Act → World → Prop} {Q : Exit → Act → World → Prop} (s x : Operand)
    (ho : o.op = .call { callee := .builtin .append, args := #[s, x], argTypes := #[T, T] }) {B : Nat} (hs : a.eval s = .slice A n c) (hown : OwnC e B w A n c ps)
    {A2 : Option Addr} {m c2 : Nat} {qs : List Po} (hx : a.eval x = .slice A2 m c2) (h2 : RdC w A2 m c2 (cellsP qs)) (hb : (n + m) * 32 ≤ 140737488355328) (hB : B ≤ w.heap.size)
    (h : ∀ A' c' w', OwnC e B w' A' (n + m) c' (ps ++ qs) → Below B w w' → w.grownBy w' (Value.slice A n c).ownBlock → K (a.put o.dst (.slice A' (n + m) c')) w') : o.wp P a w K Q := by
  obtain ⟨A', c', w', hrun, h3, h4, h5⟩ := run_appO hp o.type hown h2 hb hB
  unfold Oper.wp execOp
  simp only [ho, resolve, invoke, builtin, Sem.run_bind, Sem.run_pure, Result.andThen_ok, List.map_toArray, List.map_cons, List.map_nil, hs, hx, hrun]
  exact h A' c' w' h3 h4 h5
theorem wpList_appO (hp : OpP P T e) {ops : Array Oper} {rest : List Oper} {o : Oper} {a : Act} {Q : Exit → Act → World → Prop} (hgd : o.guard = none) (s x : Operand)
    (ho : o.op = .call { callee := .builtin .append, args := #[s, x], argTypes := #[T, T] }) {B : Nat} (hs : a.eval s = .slice A n c) (hown : OwnC e B w A n c ps)
    {A2 : Option Addr} {m c2 : Nat} {qs : List Po} (hx : a.eval x = .slice A2 m c2) (h2 : RdC w A2 m c2 (cellsP qs)) (hb : (n + m) * 32 ≤ 140737488355328) (hB : B ≤ w.heap.size)
    (h : ∀ A' c' w', OwnC e B w' A' (n + m) c' (ps ++ qs) → Below B w w' → w.grownBy w' (Value.slice A n c).ownBlock → wpList P ops Q rest (a.put o.dst (.slice A' (n + m) c')) w') : wpList P ops Q (o :: rest) a w :=
  wpList_plain hgd fun _ hK => wp_appO hp s x ho hs hown hx h2 hb hB fun A' c' w' h3 h4 h5 => hK _ _ (h A' c' w' h3 h4 h5)
/-- '[]api.Opt{x}': a new row of one option. -/
theorem OwnC.lit1 (e : Nat) (w : World) (p : Po) : OwnC e w.heap.size (w.alloc (.cells #[.int .i64 p.code, p.dv] e)) (some ⟨w.heap.size, 0, none⟩) 1 1 [p] := by
  have := World.ownsRow_lit (size := 2) (e := e) w #[.int .i64 p.code, p.dv] 1 (Nat.le_refl _) (by unfold maxLen; omega) rfl
  simpa [OwnC, cellsP, Po.cells] using this
end
end Go.Proofs.Ytoobijefjljnjaa.By
