/- Words for leases by value, and which leases are right: what record's rightState and Right, and the document's own Right, come to. For all leases whose keys fit. -/
import Derived.Test.YtniocdbapkkdhaaRcMath
import Derived.Test.YtniocdbapkkdhaaBaKit
import Derived.Test.YtniocdbapkkdhaaKwLeaf
import Derived.Test.YtniocdbapkkdhaaAdNum
set_option maxRecDepth 8000
namespace Go.Proofs.Ytniocdbapkkdhaa.Ew
open Go.RowKit Co By Ky Rc
open Dw (ba ba_size ba_data ba_list)

/-- A lease by value. -/
@[reducible] def lv (l : L) : Value := .agg #[.int .i64 l.addr, .int .i64 l.state, .int .i64 l.till, .string (ba l.key)]
@[reducible] def lcs (l : L) : Array Value := #[.int .i64 l.addr, .int .i64 l.state, .int .i64 l.till, .string (ba l.key)]
/-- A lease's key is a string that fits. -/
def Fk (l : L) : Prop := l.key.length ≤ 9223372036854775807
theorem keyRight_any (k : List UInt8) (w : World) (hs : k.length ≤ 9223372036854775807) :
    Calls Try.prog 43 #[.string (ba k)] w fun e w' => e = .returned (.bool (rightK k)) ∧ w = w' := Kw.right_any (ba k) w hs
theorem refKeyRight_any (k : List UInt8) (w : World) (hs : k.length ≤ 9223372036854775807) :
    Calls Try.prog 39 #[.string (ba k)] w fun e w' => e = .returned (.bool (rightK k)) ∧ w = w' := Kw.refRight_any (ba k) w hs
def stB (s : Int) : Bool := decide (1 ≤ s ∧ s ≤ 3)
theorem rightState_any (s : Int) (w : World) :
    Calls Try.prog 42 #[.int .i64 s] w fun e w' => e = .returned (.bool (stB s)) ∧ w = w' := by
  have H : Hid (stB s = decide (1 ≤ s ∧ s ≤ 3)) := rfl
  by_cases h1 : s = 1
  · subst h1
    go_enter Try.func42, Try.ntmps42
    go_wp2
    go_ret
    exact ⟨rfl, rfl⟩
  by_cases h2 : s = 2
  · subst h2
    go_enter Try.func42, Try.ntmps42
    go_wp2
    go_ret
    exact ⟨rfl, rfl⟩
  by_cases h3 : s = 3
  · subst h3
    go_enter Try.func42, Try.ntmps42
    go_wp2
    go_ret
    exact ⟨rfl, rfl⟩
  have b1 : (s == 1) = false := by simpa using h1
  have b2 : (s == 2) = false := by simpa using h2
  have b3 : (s == 3) = false := by simpa using h3
  have HF : Hid (stB s = false) := by show _ = _; rw [H.out]; exact decide_eq_false (by omega)
  clear h1 h2 h3 H
  go_enter Try.func42, Try.ntmps42
  go_wp2
  go_ret
  exact ⟨ret_bool HF.out.symm, rfl⟩
theorem rightR_iff (l : L) : rightR l = (Ad.rightB l.addr && stB l.state && decide (0 ≤ l.till) && decide (l.till ≤ 1125899906842624) && rightK l.key) := by
  rw [Bool.eq_iff_iff, show rightR l = true ↔ RightR l from decide_eq_true_iff]
  unfold RightR stB
  simp only [Bool.and_eq_true, decide_eq_true_eq, Ad.rightB_iff]
  constructor
  · rintro ⟨a, b, ⟨c, d⟩, e⟩
    exact ⟨⟨⟨⟨a, b⟩, c⟩, d⟩, e⟩
  · rintro ⟨⟨⟨⟨a, b⟩, c⟩, d⟩, e⟩
    exact ⟨a, b, ⟨c, d⟩, e⟩
end Go.Proofs.Ytniocdbapkkdhaa.Ew
