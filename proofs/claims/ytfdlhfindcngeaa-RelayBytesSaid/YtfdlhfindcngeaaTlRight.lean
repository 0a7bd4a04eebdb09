/- What the program's Right and Find come to, and bytes.Clone. For all inputs. -/
import Derived.Test.YtfdlhfindcngeaaTlPlace
import Derived.Lib.AppendZeros
import Derived.Lib.SliceRun
import Derived.Deep.RegionWith
namespace Go.Proofs.Ytfdlhfindcngeaa.Tw
open Go.RowKit Tl By

set_option maxHeartbeats 400000 in
theorem clone_any (A : Option Addr) (n c : Nat) (l : List UInt8) (w : World) (h : Bs w A n c l) (hn : n ≤ 140737488355328) :
    Calls Try.prog 18 #[.slice A n c] w (RB 5 w n l fun x => x) := by
  have q : ∀ (w : World) (a : Option Addr) (n c n' c' : Nat), (binOp .eql 22 (.slice a n c) (.slice none n' c')).run Try.prog w = .ok (.bool a.isNone) w := fun w a n c n' c' => Lib.run_eql_slice_nil w _ _ a n c n' c' Try.underlying22
  have hl := Lib.hid h.len
  cases A with
  | none =>
    have h0 : n = 0 := by
      rcases Nat.eq_zero_or_pos n with h0 | h0
      · exact h0
      · obtain ⟨b, o, e, _⟩ := h.at_ h0
        cases e
    subst h0
    obtain rfl : l = [] := List.length_eq_zero_iff.1 hl.out
    clear hl
    go_enter Try.func18, Try.ntmps18
    go_wp2
    go_ret
    exact ⟨none, 0, rfl, Own.nil _ _ _, Below.refl _ _⟩
  | some a =>
    go_enter Try.func18, Try.ntmps18
    go_wp2_with (at_builtin; refine wpList_app byP rfl (.tmp 5) (.tmp 6) rfl rfl (Own.lit0 5 w) rfl (h.alloc _) (by omega) (by simp) ?_; intro A' c' w2 hown2 hb2 _ _)
    go_ret
    exact ⟨A', c', by simp, by simpa using hown2, ((Below.refl _ _).alloc (Nat.le_refl _) _).trans hb2⟩

/-- What the program's Find answers. -/
def FoundB (w : World) (r : Option (List UInt8)) (e : Ending) (w' : World) : Prop := ∃ A m c, e = .returned (.tuple #[.slice A m c, .bool r.isSome]) ∧ Bs w' A m c (r.getD []) ∧ Below w.heap.size w w'
end Go.Proofs.Ytfdlhfindcngeaa.Tw
