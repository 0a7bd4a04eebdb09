/- What the document's Same comes to. For all inputs. -/
import Derived.Test.YtoobijefjljnjaaTlLeaf
namespace Go.Proofs.Ytoobijefjljnjaa.Tw
open Go.RowKit Tl By

def sameL (l m : List O) : Bool := decide (l = m)
def sameTo (l m : List O) (k : Nat) : Prop := l.take k = m.take k
theorem same_len {l m : List O} (h : l.length ≠ m.length) : sameL l m = false := decide_eq_false fun e => h (by rw [e])
theorem same_not {l m : List O} {k : Nat} (h1 : k < l.length) (h2 : k < m.length) (h : l[k] ≠ m[k]) : sameL l m = false := decide_eq_false fun e => h (by subst e; rfl)
theorem same_next {l m : List O} {k : Nat} (hs : sameTo l m k) (h1 : k < l.length) (h2 : k < m.length) (h : l[k] = m[k]) : sameTo l m (k + 1) := by
  unfold sameTo
  rw [take_snocO h1, take_snocO h2, hs, h]
theorem same_end {l m : List O} {k : Nat} (hs : sameTo l m k) (h1 : l.length ≤ k) (h2 : m.length ≤ k) : sameL l m = true := by
  unfold sameTo at hs
  rw [List.take_of_length_le h1, List.take_of_length_le h2] at hs
  exact decide_eq_true hs

end Go.Proofs.Ytoobijefjljnjaa.Tw
