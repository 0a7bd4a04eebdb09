/- What the document's SameLeases comes to, at lists that are alike and at lists of different lengths; and the walk of JournalReads. -/
import Derived.Test.YtlefpodonkdbeaaGreatJwKnows
import Derived.Test.YtlefpodonkdbeaaGreatJwRefRead
import Derived.Test.YtlefpodonkdbeaaGreatDwAs
import Derived.Test.YtlefpodonkdbeaaGreatDwE
import Derived.Laws.StructEq
set_option maxRecDepth 8000
namespace Go.Proofs.YtlefpodonkdbeaaGreat.Jw
open Go.RowKit Co By Ky Rc Dk Jn Ew
open Dw (ba ba_size ba_data ba_list Dv RdD Sm alloc_more)

theorem lneq_self (l : L) (W : World) : (binOp .neq 56 (lv l) (lv l)).run Tryz.prog W = .ok (.bool false) W := by
  have hS : Tryz.prog.underlying 56 = some (.struct (Tryz.prog.fieldsOf 56)) := by kernel_rfl
  have hp : Tryz.prog.stoodInHeld 56 = false := by kernel_rfl
  have u3 := Tryz.underlying3
  have a3 := Tryz.isAgg3
  have z3 := Tryz.sizeOf3
  have u9 := Tryz.underlying9
  have a9 := Tryz.isAgg9
  have z9 := Tryz.sizeOf9
  rw [run_neq_struct, show (10000 : Nat) = 9999 + 1 from rfl, run_equalIn_agg W 9999 56 _ _ hS hp]
  simp only [Program.fieldsOf, Tryz.underlying56]
  go_simp
def isB (b : Bool) (w : World) (e : Ending) (w' : World) : Prop := e = .returned (.bool b) ∧ Below w.heap.size w w'
set_option maxHeartbeats 1000000 in
theorem sameLeases_yes (A : Option Addr) (n c : Nat) (A' : Option Addr) (n' c' : Nat) (l : List L) (w : World) (h : RdLs w.heap.size w A n c l) (h' : RdLs w.heap.size w A' n' c' l) :
    Calls Tryz.prog 10 #[.slice A n c, .slice A' n' c'] w (isB true w) := by
  have hl := h.len
  have hl' := h'.len
  have hnn : n' = n := by omega
  subst hnn
  have hmx := h.max
  have hcap := h.cap
  clear hl hl'
  go_enter Tryz.func10, Tryz.ntmps10
  go_wp2
  go_loopw [5] (fun i wr => ∃ k : Nat, k ≤ n' ∧ i = .int .i64 k ∧ Below w.heap.size w wr) (fun i _ => n' - (intOf i).toNat)
  case atStart => exact ⟨0, by omega, rfl, Below.refl _ _⟩
  case round =>
    obtain ⟨k, hk, rfl, hbw⟩ := hrel
    by_cases hlt : k < n'
    · obtain ⟨b, o, u, rfl, _, HE, d1, d2, d3, d4⟩ := atL (h.below hbw) hlt
      obtain ⟨b', o', u', rfl, _, HE', e1, e2, e3, e4⟩ := atL (h'.below hbw) hlt
      obtain rfl : u = u' := by
        have q := HE.out.symm.trans HE'.out
        injection q
      have hkz : (k : Int) < (n' : Int) := by omega
      have HQ := fun W => lneq_self u W
      clear HE HE'
      go_wp2_with fail
      go_quiet (fail)
      go_wp2
      go_roundw
      case rel => exact ⟨k + 1, by omega, by go_num, below_drewN hbw _⟩
      case measure => simp [intOf]; omega
    · obtain rfl : k = n' := by omega
      go_wp2
      go_ret
      exact ⟨rfl, hbw⟩
theorem sameLeases_len (A : Option Addr) (n c : Nat) (A' : Option Addr) (n' c' : Nat) (w : World) (_ : n ≤ 9223372036854775807) (_ : n' ≤ 9223372036854775807) (hne : n ≠ n') :
    Calls Tryz.prog 10 #[.slice A n c, .slice A' n' c'] w (isB false w) := by
  have hb : ((n : Int) != (n' : Int)) = true := by simp; omega
  have hb2 : (n != n') = true := by simpa using hne
  clear hne
  go_enter Tryz.func10, Tryz.ntmps10
  go_wp2
  go_ret
  exact ⟨rfl, Below.refl _ _⟩
end Go.Proofs.YtlefpodonkdbeaaGreat.Jw
