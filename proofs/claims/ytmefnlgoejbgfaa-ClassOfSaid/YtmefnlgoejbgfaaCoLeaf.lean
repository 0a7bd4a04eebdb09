/- What the calls that make no memory come to: widths, powers, eight bits of the sum, the sum, the number of bytes. For all inputs. -/
import Derived.Test.YtmefnlgoejbgfaaCoMath
import Derived.Test.YtmefnlgoejbgfaaByKit
import Derived.Test.YtmefnlgoejbgfaaBase
import Derived.WalkSpells
import Derived.WalkLawsBesides
import Derived.IntWalk
import Derived.Laws.BitsAllLaws
namespace Go.Proofs.Ytmefnlgoejbgfaa.Cw
open Go.RowKit Co By


def wideB (n : Int) : Bool := decide (1 ≤ n) && decide (n ≤ 7)
theorem rightWidth_any (n : Int) (w : World) :
    Calls Try.prog 28 #[.int .i64 n] w fun e w' => e = .returned (.bool (wideB n)) ∧ w = w' := by
  have H : Hid (wideB n = (decide (1 ≤ n) && decide (n ≤ 7))) := rfl
  by_cases h1 : 1 ≤ n
  · by_cases h2 : n ≤ 7
    · go_enter Try.func28, Try.ntmps28
      go_wp2
      go_ret
      exact ⟨ret_bool (by rw [H.out]; simp [h1, h2]), rfl⟩
    · go_enter Try.func28, Try.ntmps28
      go_wp2
      go_ret
      exact ⟨ret_bool (by rw [H.out]; simp [h1, h2]), rfl⟩
  · go_enter Try.func28, Try.ntmps28
    go_wp2
    go_ret
    exact ⟨ret_bool (by rw [H.out]; simp; omega), rfl⟩

theorem and_one (x : Nat) (hx : x < 4294967296) : bits .and .u32 (x : Int) 1 = ((x % 2 : Nat) : Int) := by
  have := u32_and_nat x 1 hx (by omega)
  rw [nat_mask1] at this
  exact this
theorem xor_poly (x : Nat) (hx : x < 4294967296) : bits .xor .u32 ((x : Int) / 2) 3988292384 = ((x / 2 ^^^ polyN : Nat) : Int) := by
  have := u32_xor_nat (x / 2) polyN (by omega) (by unfold polyN; omega)
  simpa [polyN] using this
theorem stepN_odd {x : Nat} (h : x % 2 = 1) : stepN x = x / 2 ^^^ polyN := by unfold stepN; rw [if_pos h]
theorem stepN_even {x : Nat} (h : ¬ x % 2 = 1) : stepN x = x / 2 := by unfold stepN; rw [if_neg h]

def fairB (v n : Int) : Bool := decide (1 ≤ n ∧ n ≤ 7 ∧ 0 ≤ v ∧ v < ((p256 n.toNat : Nat) : Int))
theorem take_next {l : List UInt8} {k : Nat} (h : k < l.length) : l.take (k + 1) = l.take k ++ [l[k]] := List.take_succ_eq_append_getElem h
theorem crc_next {l : List UInt8} {k : Nat} (c : Nat) (h : k < l.length) : crcFrom c (l.take (k + 1)) = stepsN 8 (crcFrom c (l.take k) ^^^ (l[k]).toNat) := by rw [take_next h, crcFrom_snoc]
theorem xor_byte (x : Nat) (b : UInt8) (hx : x < 4294967296) : bits .xor .u32 (x : Int) (b.toNat : Int) = ((x ^^^ b.toNat : Nat) : Int) := u32_xor_nat x b.toNat hx (by have := b.toNat_lt; omega)

theorem xor_ones32 (x : Nat) (hx : x < 4294967296) : bits .xor .u32 (x : Int) 4294967295 = ((x ^^^ 4294967295 : Nat) : Int) := u32_xor_nat x 4294967295 hx (by omega)
theorem xor_max (x : Nat) (hx : x < 4294967296) : bits .xor .u32 IntKind.u32.max (x : Int) = ((x ^^^ 4294967295 : Nat) : Int) := by
  have := u32_xor_nat 4294967295 x (by omega) hx
  rw [Nat.xor_comm] at this
  exact this
theorem val_next {l : List UInt8} {k : Nat} (h : k < l.length) : valL (l.take (k + 1)) = valL (l.take k) * 256 + (l[k]).toNat := by rw [take_next h, valL_snoc]
set_option maxHeartbeats 400000 in
theorem value_any (A : Option Addr) (n c : Nat) (l : List UInt8) (w : World) (h : Bs w A n c l) (hn : n ≤ 7) :
    Calls Try.prog 24 #[.slice A n c] w fun e w' => e = .returned (.int .i64 (valL l : Nat)) ∧ w = w' := by
  have hl := Lib.hid h.len
  have hm := h.max
  have hcap := h.cap
  go_enter Try.func24, Try.ntmps24
  go_wp2
  go_loop [3, 4] (fun v i => ∃ k : Nat, k ≤ n ∧ i = .int .i64 k ∧ v = .int .i64 (valL (l.take k) : Nat)) (fun _ i => n - (intOf i).toNat)
  case atStart => exact ⟨0, by omega, rfl, rfl⟩
  case round =>
    obtain ⟨k, hk, rfl, rfl⟩ := hrel
    by_cases hlt : k < n
    · obtain ⟨b, o, rfl, hc⟩ := h.at_ hlt
      have hkl : k < l.length := by have := hl.out; omega
      have hcell := hc k hkl
      have H := Lib.hid (val_next hkl)
      have hs : valL (l.take k) < 281474976710656 := Nat.lt_of_lt_of_le (valL_lt _) (p256_le (n := 6) (by rw [List.length_take]; omega))
      generalize valL (l.take k) = x at hs H
      clear hc
      generalize l[k] = y at hcell H
      clear hkl
      have hy := y.toNat_lt
      go_wp2
      go_round
      case rel => exact ⟨k + 1, by omega, by go_num, by rw [H.out]; go_num⟩
      case measure => simp [intOf]; omega
    · obtain rfl : k = n := by omega
      have H : Hid (valL l = valL (l.take k)) := by rw [List.take_of_length_le (by have := hl.out; omega)]; rfl
      generalize valL (l.take k) = x at H
      go_wp2
      go_ret
      exact ⟨ret_int (by rw [H.out]), rfl⟩

def getOk (len at_ n : Int) : Prop := 1 ≤ n ∧ n ≤ 7 ∧ 0 ≤ at_ ∧ at_ + n ≤ len
theorem get_arg (A : Option Addr) (len c : Nat) (at_ n : Int) (w : World) (hb : ¬ (1 ≤ n ∧ n ≤ 7 ∧ 0 ≤ at_)) :
    Calls Try.prog 35 #[.slice A len c, .int .i64 at_, .int .i64 n] w fun e w' => e = .returned (.tuple #[.int .i64 0, .int .i64 1]) ∧ w = w' := by
  by_cases h1 : 1 ≤ n ∧ n ≤ 7
  · have h3 : at_ < 0 := by omega
    have hw : wideB n = true := by unfold wideB; simp; omega
    go_enter Try.func35, Try.ntmps35
    go_wp2_with fail
    refine (rightWidth_any n _).mono ?_
    rintro e w' ⟨rfl, rfl⟩
    go_wp2
    go_ret2
    exact ⟨rfl, rfl⟩
  · have hw : wideB n = false := by unfold wideB; simp; omega
    go_enter Try.func35, Try.ntmps35
    go_wp2_with fail
    refine (rightWidth_any n _).mono ?_
    rintro e w' ⟨rfl, rfl⟩
    go_wp2
    go_ret2
    exact ⟨rfl, rfl⟩
theorem get_more (A : Option Addr) (len c : Nat) (at_ n : Int) (w : World) (hl : len ≤ 9223372036854775807) (h1 : 1 ≤ n) (h2 : n ≤ 7) (h3 : 0 ≤ at_) (h4 : (len : Int) - n < at_) :
    Calls Try.prog 35 #[.slice A len c, .int .i64 at_, .int .i64 n] w fun e w' => e = .returned (.tuple #[.int .i64 0, .int .i64 4]) ∧ w = w' := by
  have hw : wideB n = true := by unfold wideB; simp; omega
  go_enter Try.func35, Try.ntmps35
  go_wp2_with fail
  refine (rightWidth_any n _).mono ?_
  rintro e w' ⟨rfl, rfl⟩
  go_wp2
  go_ret2
  exact ⟨rfl, rfl⟩
theorem or8 (a v : Nat) (h1 : a < 281474976710656) (h3 : v < 256) : bits .or .i64 ((a : Int) * 256) (v : Int) = ((a * 256 + v : Nat) : Int) := by
  have e1 : (BitVec.ofInt 64 ((a : Int) * 256)).toNat = 2 ^ 8 * a := by
    rw [BitVec.toNat_ofInt]; omega
  have e2 : (BitVec.ofInt 64 (v : Int)).toNat = v := by
    rw [BitVec.toNat_ofInt]; omega
  show IntKind.i64.wrap ((BitVec.ofInt 64 ((a : Int) * 256) ||| BitVec.ofInt 64 (v : Int)).toNat : Nat) = _
  rw [BitVec.toNat_or, e1, e2, ← Nat.two_pow_add_eq_or_of_lt (by omega : v < 2 ^ 8), IntKind.wrap_i64]
  omega
theorem val_next_at {l : List UInt8} {at_ k : Nat} (h : at_ + k < l.length) : valL ((l.drop at_).take (k + 1)) = valL ((l.drop at_).take k) * 256 + (l[at_ + k]).toNat := by
  rw [val_next (by rw [List.length_drop]; omega)]
  simp
set_option maxHeartbeats 800000 in
theorem get_ok (A : Option Addr) (len c : Nat) (l : List UInt8) (at_ n : Nat) (w : World) (h : Bs w A len c l) (h1 : 1 ≤ n) (h2 : n ≤ 7) (h4 : at_ + n ≤ len) :
    Calls Try.prog 35 #[.slice A len c, .int .i64 (at_ : Int), .int .i64 (n : Int)] w fun e w' => e = .returned (.tuple #[.int .i64 (valL ((l.drop at_).take n) : Nat), .int .i64 0]) ∧ w = w' := by
  have hw : wideB (n : Int) = true := by unfold wideB; simp; omega
  have hl := Lib.hid h.len
  have hm := h.max
  have hcap := h.cap
  obtain ⟨b, o, rfl, hc0⟩ := h.at_ (k := at_) (by omega)
  have hc := Lib.hid hc0
  clear hc0
  go_enter Try.func35, Try.ntmps35
  go_wp2_with fail
  refine (rightWidth_any n _).mono ?_
  rintro e w' ⟨rfl, rfl⟩
  go_wp2
  go_loop [8, 24] (fun v i => ∃ k : Nat, k ≤ n ∧ i = .int .i64 k ∧ v = .int .i64 (valL ((l.drop at_).take k) : Nat)) (fun _ i => n - (intOf i).toNat)
  case atStart => exact ⟨0, by omega, rfl, rfl⟩
  case round =>
    obtain ⟨k, hk, rfl, rfl⟩ := hrel
    by_cases hlt : k < n
    · have hkl : at_ + k < l.length := by have := hl.out; omega
      have hcell := hc.out (at_ + k) hkl
      have H := Lib.hid (val_next_at hkl)
      have hs : valL ((l.drop at_).take k) < 281474976710656 := Nat.lt_of_lt_of_le (valL_lt _) (p256_le (n := 6) (by rw [List.length_take]; omega))
      generalize valL ((l.drop at_).take k) = x at hs H
      generalize l[at_ + k] = y at hcell H
      clear hkl
      have hy := y.toNat_lt
      have ho := or8 x y.toNat hs hy
      go_wp2
      go_round
      case rel => exact ⟨k + 1, by omega, by go_num, by rw [H.out]; go_num⟩
      case measure => simp [intOf]; omega
    · obtain rfl : k = n := by omega
      go_wp2
      go_ret2
      exact ⟨rfl, rfl⟩
end Go.Proofs.Ytmefnlgoejbgfaa.Cw
