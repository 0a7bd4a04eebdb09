/- What the document's SameLeases comes to: at lists that are alike, at lists of different lengths, and that it answers at any two. -/
import Derived.Test.YtniocdbapkkdhaaJlKit
import Derived.Laws.StructEq
import Derived.Deep.QuietTactic
set_option maxRecDepth 8000
namespace Go.Proofs.Ytniocdbapkkdhaa.Jw
open Go.RowKit Co By Ky Rc Ew
open Dw (ba ba_size ba_data ba_list)

theorem lneq_self (l : L) (W : World) : (binOp .neq 26 (lv l) (lv l)).run Try.prog W = .ok (.bool false) W := by
  have hS : Try.prog.underlying 26 = some (.struct (Try.prog.fieldsOf 26)) := by kernel_rfl
  have hp : Try.prog.stoodInHeld 26 = false := by kernel_rfl
  have u3 := Try.underlying3
  have a3 := Try.isAgg3
  have z3 := Try.sizeOf3
  have u9 := Try.underlying9
  have a9 := Try.isAgg9
  have z9 := Try.sizeOf9
  rw [run_neq_struct, show (10000 : Nat) = 9999 + 1 from rfl, run_equalIn_agg W 9999 26 _ _ hS hp]
  simp only [Program.fieldsOf, Try.underlying26]
  go_simp
def isB (b : Bool) (w : World) (e : Ending) (w' : World) : Prop := e = .returned (.bool b) ∧ Below w.heap.size w w'
set_option maxHeartbeats 1000000 in
theorem sameLeases_yes (A : Option Addr) (n c : Nat) (A' : Option Addr) (n' c' : Nat) (l : List L) (w : World) (h : RdLs w.heap.size w A n c l) (h' : RdLs w.heap.size w A' n' c' l) :
    Calls Try.prog 15 #[.slice A n c, .slice A' n' c'] w (isB true w) := by
  have hl := h.len
  have hl' := h'.len
  have hnn : n' = n := by omega
  subst hnn
  have hmx := h.max
  have hcap := h.cap
  clear hl hl'
  go_enter Try.func15, Try.ntmps15
  go_wp2
  go_loopw [5] (fun i wr => ∃ k : Nat, k ≤ n' ∧ i = .int .i64 k ∧ Below w.heap.size w wr) (fun i _ => n' - (intOf i).toNat)
  case atStart => exact ⟨0, by omega, rfl, Below.refl _ _⟩
  case round =>
    obtain ⟨k, hk, rfl, hbw⟩ := hrel
    by_cases hlt : k < n'
    · obtain ⟨b, o, u, rfl, _, HE, d1, d2, d3, d4⟩ := atL (h.below hbw) hlt
      obtain ⟨b', o', u', rfl, _, HE', e1, e2, e3, e4⟩ := atL (h'.below hbw) hlt
      obtain rfl : u = u' := by
        have q := HE.out.symm.trans HE'.out
        injection q
      have hkz : (k : Int) < (n' : Int) := by omega
      have HQ := fun W => lneq_self u W
      clear HE HE'
      go_wp2_with fail
      go_quiet (fail)
      go_wp2
      go_roundw
      case rel => exact ⟨k + 1, by omega, by go_num, below_drewN hbw _⟩
      case measure => simp [intOf]; omega
    · obtain rfl : k = n' := by omega
      go_wp2
      go_ret
      exact ⟨rfl, hbw⟩
theorem sameLeases_len (A : Option Addr) (n c : Nat) (A' : Option Addr) (n' c' : Nat) (w : World) (_ : n ≤ 9223372036854775807) (_ : n' ≤ 9223372036854775807) (hne : n ≠ n') :
    Calls Try.prog 15 #[.slice A n c, .slice A' n' c'] w (isB false w) := by
  have hb : ((n : Int) != (n' : Int)) = true := by simp; omega
  have hb2 : (n != n') = true := by simpa using hne
  clear hne
  go_enter Try.func15, Try.ntmps15
  go_wp2
  go_ret
  exact ⟨rfl, Below.refl _ _⟩
theorem lneq_some (l m : L) : ∃ b, ∀ W, (binOp .neq 26 (lv l) (lv m)).run Try.prog W = .ok (.bool b) W := by
  have hS : Try.prog.underlying 26 = some (.struct (Try.prog.fieldsOf 26)) := by kernel_rfl
  have hp : Try.prog.stoodInHeld 26 = false := by kernel_rfl
  have u3 := Try.underlying3
  have a3 := Try.isAgg3
  have z3 := Try.sizeOf3
  have u9 := Try.underlying9
  have a9 := Try.isAgg9
  have z9 := Try.sizeOf9
  by_cases h1 : l.addr = m.addr
  · by_cases h2 : l.state = m.state
    · by_cases h3 : l.till = m.till
      · by_cases h4 : l.key = m.key
        · refine ⟨false, fun W => ?_⟩
          rw [run_neq_struct, show (10000 : Nat) = 9999 + 1 from rfl, run_equalIn_agg W 9999 26 _ _ hS hp]
          simp only [Program.fieldsOf, Try.underlying26, h1, h2, h3, h4]
          go_simp
        · refine ⟨true, fun W => ?_⟩
          rw [run_neq_struct, show (10000 : Nat) = 9999 + 1 from rfl, run_equalIn_agg W 9999 26 _ _ hS hp]
          simp only [Program.fieldsOf, Try.underlying26, h1, h2, h3]
          go_simp
          rw [ba_list, ba_list]
          exact h4
      · refine ⟨true, fun W => ?_⟩
        have b4 : (l.till == m.till) = false := by simpa using h3
        rw [run_neq_struct, show (10000 : Nat) = 9999 + 1 from rfl, run_equalIn_agg W 9999 26 _ _ hS hp]
        simp only [Program.fieldsOf, Try.underlying26, h1, h2]
        go_simp
    · refine ⟨true, fun W => ?_⟩
      have b4 : (l.state == m.state) = false := by simpa using h2
      rw [run_neq_struct, show (10000 : Nat) = 9999 + 1 from rfl, run_equalIn_agg W 9999 26 _ _ hS hp]
      simp only [Program.fieldsOf, Try.underlying26, h1]
      go_simp
  · refine ⟨true, fun W => ?_⟩
    have b4 : (l.addr == m.addr) = false := by simpa using h1
    rw [run_neq_struct, show (10000 : Nat) = 9999 + 1 from rfl, run_equalIn_agg W 9999 26 _ _ hS hp]
    simp only [Program.fieldsOf, Try.underlying26]
    go_simp
def SomeB (w : World) (e : Ending) (w' : World) : Prop := ∃ b : Bool, e = .returned (.bool b) ∧ Below w.heap.size w w'
set_option maxHeartbeats 1000000 in
theorem sameLeases_some (A : Option Addr) (n c : Nat) (A' : Option Addr) (n' c' : Nat) (l l' : List L) (w : World) (h : RdLs w.heap.size w A n c l) (h' : RdLs w.heap.size w A' n' c' l') :
    Calls Try.prog 15 #[.slice A n c, .slice A' n' c'] w (SomeB w) := by
  have hmx := h.max
  have hcap := h.cap
  have hmx' := h'.max
  have hcap' := h'.cap
  by_cases hne : n = n'
  rotate_left
  · exact (sameLeases_len A n c A' n' c' w (by omega) (by omega) hne).mono fun e w' hh => ⟨false, hh.1, hh.2⟩
  subst hne
  have HX := Lib.hid h
  have HY := Lib.hid h'
  clear h h'
  go_enter Try.func15, Try.ntmps15
  go_wp2
  go_loopw [5] (fun i wr => ∃ k : Nat, k ≤ n ∧ i = .int .i64 k ∧ Hid (Below w.heap.size w wr)) (fun i _ => n - (intOf i).toNat)
  case atStart => exact ⟨0, by omega, rfl, Below.refl _ _⟩
  case round =>
    obtain ⟨k, hk, rfl, HB⟩ := hrel
    by_cases hlt : k < n
    · obtain ⟨b, o, u, rfl, _, HE, d1, d2, d3, d4⟩ := atL (HX.out.below HB.out) hlt
      obtain ⟨b', o', u', rfl, _, HE', e1, e2, e3, e4⟩ := atL (HY.out.below HB.out) hlt
      have hkz : (k : Int) < (n : Int) := by omega
      obtain ⟨r, HQ⟩ := lneq_some u u'
      clear HE HE'
      cases r with
      | false =>
        go_wp2_with fail
        go_quiet (fail)
        go_wp2
        go_roundw
        case rel => exact ⟨k + 1, by omega, by go_num, below_drewN HB.out _⟩
        case measure => simp [intOf]; omega
      | true =>
        go_wp2_with fail
        go_quiet (fail)
        go_wp2
        go_ret
        exact ⟨false, rfl, below_drewN HB.out _⟩
    · obtain rfl : k = n := by omega
      go_wp2
      go_ret
      exact ⟨true, rfl, HB.out⟩
end Go.Proofs.Ytniocdbapkkdhaa.Jw
