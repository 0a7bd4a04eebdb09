/- What the calls that make no memory come to: widths, powers, eight bits of the sum, the sum, the number of bytes. For all inputs. -/
import Derived.Test.YtmgecfbfabhghaaCoMath
import Derived.Test.YtmgecfbfabhghaaByKit
import Derived.Test.YtmgecfbfabhghaaBase
import Derived.WalkSpells
import Derived.WalkLawsBesides
import Derived.IntWalk
import Derived.Laws.BitsAllLaws
namespace Go.Proofs.Ytmgecfbfabhghaa.Cw
open Go.RowKit Co By


def wideB (n : Int) : Bool := decide (1 ≤ n) && decide (n ≤ 7)
theorem and_one (x : Nat) (hx : x < 4294967296) : bits .and .u32 (x : Int) 1 = ((x % 2 : Nat) : Int) := by
  have := u32_and_nat x 1 hx (by omega)
  rw [nat_mask1] at this
  exact this
theorem xor_poly (x : Nat) (hx : x < 4294967296) : bits .xor .u32 ((x : Int) / 2) 3988292384 = ((x / 2 ^^^ polyN : Nat) : Int) := by
  have := u32_xor_nat (x / 2) polyN (by omega) (by unfold polyN; omega)
  simpa [polyN] using this
theorem stepN_odd {x : Nat} (h : x % 2 = 1) : stepN x = x / 2 ^^^ polyN := by unfold stepN; rw [if_pos h]
theorem stepN_even {x : Nat} (h : ¬ x % 2 = 1) : stepN x = x / 2 := by unfold stepN; rw [if_neg h]

def fairB (v n : Int) : Bool := decide (1 ≤ n ∧ n ≤ 7 ∧ 0 ≤ v ∧ v < ((p256 n.toNat : Nat) : Int))
theorem take_next {l : List UInt8} {k : Nat} (h : k < l.length) : l.take (k + 1) = l.take k ++ [l[k]] := List.take_succ_eq_append_getElem h
theorem crc_next {l : List UInt8} {k : Nat} (c : Nat) (h : k < l.length) : crcFrom c (l.take (k + 1)) = stepsN 8 (crcFrom c (l.take k) ^^^ (l[k]).toNat) := by rw [take_next h, crcFrom_snoc]
theorem xor_byte (x : Nat) (b : UInt8) (hx : x < 4294967296) : bits .xor .u32 (x : Int) (b.toNat : Int) = ((x ^^^ b.toNat : Nat) : Int) := u32_xor_nat x b.toNat hx (by have := b.toNat_lt; omega)

theorem xor_ones32 (x : Nat) (hx : x < 4294967296) : bits .xor .u32 (x : Int) 4294967295 = ((x ^^^ 4294967295 : Nat) : Int) := u32_xor_nat x 4294967295 hx (by omega)
theorem xor_max (x : Nat) (hx : x < 4294967296) : bits .xor .u32 IntKind.u32.max (x : Int) = ((x ^^^ 4294967295 : Nat) : Int) := by
  have := u32_xor_nat 4294967295 x (by omega) hx
  rw [Nat.xor_comm] at this
  exact this
theorem val_next {l : List UInt8} {k : Nat} (h : k < l.length) : valL (l.take (k + 1)) = valL (l.take k) * 256 + (l[k]).toNat := by rw [take_next h, valL_snoc]
def getOk (len at_ n : Int) : Prop := 1 ≤ n ∧ n ≤ 7 ∧ 0 ≤ at_ ∧ at_ + n ≤ len
theorem or8 (a v : Nat) (h1 : a < 281474976710656) (h3 : v < 256) : bits .or .i64 ((a : Int) * 256) (v : Int) = ((a * 256 + v : Nat) : Int) := by
  have e1 : (BitVec.ofInt 64 ((a : Int) * 256)).toNat = 2 ^ 8 * a := by
    rw [BitVec.toNat_ofInt]; omega
  have e2 : (BitVec.ofInt 64 (v : Int)).toNat = v := by
    rw [BitVec.toNat_ofInt]; omega
  show IntKind.i64.wrap ((BitVec.ofInt 64 ((a : Int) * 256) ||| BitVec.ofInt 64 (v : Int)).toNat : Nat) = _
  rw [BitVec.toNat_or, e1, e2, ← Nat.two_pow_add_eq_or_of_lt (by omega : v < 2 ^ 8), IntKind.wrap_i64]
  omega
theorem val_next_at {l : List UInt8} {at_ k : Nat} (h : at_ + k < l.length) : valL ((l.drop at_).take (k + 1)) = valL ((l.drop at_).take k) * 256 + (l[at_ + k]).toNat := by
  rw [val_next (by rw [List.length_drop]; omega)]
  simp
end Go.Proofs.Ytmgecfbfabhghaa.Cw
