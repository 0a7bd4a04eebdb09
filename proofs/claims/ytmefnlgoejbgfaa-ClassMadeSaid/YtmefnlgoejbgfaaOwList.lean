/- What opts.Listed and opts.Wants come to, the generic function that they go through, and the document's own. For lists whose options have 1000 bytes at most. -/
import Derived.Test.YtmefnlgoejbgfaaOwLeaf
import Derived.Test.YtmefnlgoejbgfaaElKit
import Derived.OwnWalk
import Derived.Deep.QuietTactic
set_option maxRecDepth 8000
namespace Go.Proofs.Ytmefnlgoejbgfaa.Ow
open Go.RowKit Tl Ms Co By

def intsL (l : List UInt8) : List Value := l.map fun b => .int .i64 (b.toNat : Int)
theorem ints_len (l : List UInt8) : (intsL l).length = l.length := by simp [intsL]
theorem ints_get {l : List UInt8} {k : Nat} (h : k < l.length) : (intsL l)[k]'(by rw [ints_len]; exact h) = .int .i64 ((l[k]).toNat : Int) := by simp [intsL]
theorem ints_next {l : List UInt8} {k : Nat} (h : k < l.length) : intsL (l.take (k + 1)) = intsL (l.take k) ++ [.int .i64 ((l[k]).toNat : Int)] := by
  unfold intsL
  rw [List.take_succ_eq_append_getElem h, List.map_append]
  rfl
def listedL (l : List O) : List UInt8 := (findL l 55).getD []
def hasB (l : List UInt8) (c : Int) : Bool := l.any fun x => (x.toNat : Int) == c
def RI (w : World) (l : List UInt8) (e : Ending) (w' : World) : Prop := ∃ A m c, e = .returned (.slice A m c) ∧ Rd w' A m c (intsL l) ∧ Below w.heap.size w w'
theorem find_len {ps : List Po} (h : ∀ p ∈ ps, p.l.length ≤ 1000) (c : Int) : ((findL (osP ps) c).getD []).length ≤ 1000 := by
  unfold findL
  cases hf : (osP ps).find? fun o => o.1 == c with
  | none => simp
  | some o =>
    have hm := List.mem_of_find?_eq_some hf
    obtain ⟨p, hp, rfl⟩ := List.mem_map.1 hm
    exact h p hp
theorem has_hit {l : List UInt8} {k : Nat} {c : Int} (h : k < l.length) (e : ((l[k]).toNat : Int) = c) : hasB l c = true := by
  unfold hasB
  rw [List.any_eq_true]
  exact ⟨l[k], List.getElem_mem h, by simpa using e⟩
def noneTo (l : List UInt8) (c : Int) (k : Nat) : Prop := hasB (l.take k) c = false
theorem none_next {l : List UInt8} {k : Nat} {c : Int} (hs : noneTo l c k) (h : k < l.length) (e : ((l[k]).toNat : Int) ≠ c) : noneTo l c (k + 1) := by
  unfold noneTo hasB at *
  rw [List.take_succ_eq_append_getElem h, List.any_append, hs]
  simpa using e
theorem none_end {l : List UInt8} {k : Nat} {c : Int} (hs : noneTo l c k) (h : l.length ≤ k) : hasB l c = false := by
  unfold noneTo at hs
  rwa [List.take_of_length_le h] at hs

def StI (l : List UInt8) (n : Nat) (w : World) (v i : Value) (wr : World) : Prop :=
  ∃ (k : Nat) (A1 : Option Addr) (c1 : Nat), k ≤ n ∧ i = .int .i64 k ∧ v = .slice A1 k c1 ∧ OwnV 3 w.heap.size wr A1 k c1 (intsL (l.take k)) ∧ Below w.heap.size w wr
end Go.Proofs.Ytmefnlgoejbgfaa.Ow
