/- msg.within, rightNumbers, overloaded, Right: which messages are right. For all inputs. -/
import Derived.Test.YtoobijefjljnjaaMwKit
import Derived.Test.YtoobijefjljnjaaAdNum
import Derived.Test.YtoobijefjljnjaaTlRight
set_option maxRecDepth 8000
namespace Go.Proofs.Ytoobijefjljnjaa.Mw
open Go.RowKit Tl Ms By

def withinB (k : Int) (vs : List Int) : Bool := vs.all fun v => decide (0 ≤ v ∧ v ≤ k)
theorem within_bad {k : Int} {vs : List Int} {j : Nat} (h : j < vs.length) (hv : ¬ (0 ≤ vs[j] ∧ vs[j] ≤ k)) : withinB k vs = false := by
  unfold withinB
  rw [List.all_eq_false]
  exact ⟨vs[j], List.getElem_mem h, by simpa using hv⟩
theorem within_next {k : Int} {vs : List Int} {j : Nat} (h : j < vs.length) (ht : withinB k (vs.take j) = true) (hv : 0 ≤ vs[j] ∧ vs[j] ≤ k) : withinB k (vs.take (j + 1)) = true := by
  unfold withinB at ht ⊢
  rw [List.take_succ_eq_append_getElem h, List.all_append, ht]
  simp [hv]
theorem cells1 (w : World) (t : TypeId) (a : Int) (g : Nat) (hg : g = w.heap.size) : ∀ i (h : i < [a].length), (w.alloc (.cells #[.int .i64 a] t)).cell? ⟨g, i, none⟩ = some (.int .i64 [a][i]) := by
  subst hg
  intro i hi
  match i, hi with
  | 0, _ => simp
theorem cells2 (w : World) (t : TypeId) (a b : Int) (g : Nat) (hg : g = w.heap.size) : ∀ i (h : i < [a, b].length), (w.alloc (.cells #[.int .i64 a, .int .i64 b] t)).cell? ⟨g, i, none⟩ = some (.int .i64 [a, b][i]) := by
  subst hg
  intro i hi
  match i, hi with
  | 0, _ => simp
  | 1, _ => simp
theorem cells3 (w : World) (t : TypeId) (a b c : Int) (g : Nat) (hg : g = w.heap.size) : ∀ i (h : i < [a, b, c].length), (w.alloc (.cells #[.int .i64 a, .int .i64 b, .int .i64 c] t)).cell? ⟨g, i, none⟩ = some (.int .i64 [a, b, c][i]) := by
  subst hg
  intro i hi
  match i, hi with
  | 0, _ => simp
  | 1, _ => simp
  | 2, _ => simp

def headB (x : M) : Bool := withinB 255 [x.op, x.htype, x.hops] && withinB 16 [x.hlen] && withinB 4294967295 [x.xid] && withinB 65535 [x.secs, x.flags] && Ad.rightB x.ci && Ad.rightB x.yi && Ad.rightB x.si && Ad.rightB x.gi
theorem headB_iff (x : M) : headB x = decide (HeadOk x) := by
  rw [Bool.eq_iff_iff, decide_eq_true_iff]
  unfold headB HeadOk withinB
  simp only [Bool.and_eq_true, List.all_cons, List.all_nil, decide_eq_true_eq, Ad.rightB_iff, and_true]
  omega

theorem box_at {x : Mv} {t : TypeId} {w w1 : World} {B : Nat} (hB : w.heap.size < B) (hb : Below B (w.alloc (.cells x.cells t)) w1) : Cel w1 w.heap.size t x.cells := (Cel.born w t x.cells).below hb hB
theorem right_small {ps : List Po} (h : rightL (osP ps) = true) : ∀ p ∈ ps, p.l.length ≤ 1000 := fun p hp => by
  have := right_fit h (os_mem hp)
  have e : p.o.2.length = p.l.length := rfl
  omega
theorem find_has {l : List O} {c : Int} : (findL l c).isSome = false ↔ hasL l c = 0 := by
  rw [has_zero]
  constructor
  · intro h hm
    obtain ⟨i, hi, hp, hcode, hno⟩ := place_mem hm
    rw [find_hit hi hcode hno] at h
    cases h
  · intro h
    rw [find_none h]
    rfl

end Go.Proofs.Ytoobijefjljnjaa.Mw
