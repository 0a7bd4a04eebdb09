/- What the calls that make no memory come to: widths, powers, eight bits of the sum, the sum, the number of bytes. For all inputs. -/
import Derived.Test.YtabjcgchcnnjjaaGreatMathA
import Derived.Test.YtabjcgchcnnjjaaGreatKitA
import Derived.WalkSpells
import Derived.WalkLawsBesides
import Derived.IntWalk
import Derived.Laws.BitsAllLaws
section
namespace Go.Proofs.YtabjcgchcnnjjaaGreat.Cw
open Go.RowKit Co By


def wideB (n : Int) : Bool := decide (1 ≤ n) && decide (n ≤ 7)
theorem rightWidth_any (n : Int) (w : World) :
    Calls Tryz.prog 106 #[.int .i64 n] w fun e w' => e = .returned (.bool (wideB n)) ∧ w = w' := by
  have H : Hid (wideB n = (decide (1 ≤ n) && decide (n ≤ 7))) := rfl
  by_cases h1 : 1 ≤ n
  · by_cases h2 : n ≤ 7
    · go_enter Tryz.func106, Tryz.ntmps106
      go_wp2
      go_ret
      exact ⟨ret_bool (by rw [H.out]; simp [h1, h2]), rfl⟩
    · go_enter Tryz.func106, Tryz.ntmps106
      go_wp2
      go_ret
      exact ⟨ret_bool (by rw [H.out]; simp [h1, h2]), rfl⟩
  · go_enter Tryz.func106, Tryz.ntmps106
    go_wp2
    go_ret
    exact ⟨ret_bool (by rw [H.out]; simp; omega), rfl⟩

theorem and_one (x : Nat) (hx : x < 4294967296) : bits .and .u32 (x : Int) 1 = ((x % 2 : Nat) : Int) := by
  have := u32_and_nat x 1 hx (by omega)
  rw [nat_mask1] at this
  exact this
theorem xor_poly (x : Nat) (hx : x < 4294967296) : bits .xor .u32 ((x : Int) / 2) 3988292384 = ((x / 2 ^^^ polyN : Nat) : Int) := by
  have := u32_xor_nat (x / 2) polyN (by omega) (by unfold polyN; omega)
  simpa [polyN] using this
theorem stepN_odd {x : Nat} (h : x % 2 = 1) : stepN x = x / 2 ^^^ polyN := by unfold stepN; rw [if_pos h]
theorem stepN_even {x : Nat} (h : ¬ x % 2 = 1) : stepN x = x / 2 := by unfold stepN; rw [if_neg h]

def fairB (v n : Int) : Bool := decide (1 ≤ n ∧ n ≤ 7 ∧ 0 ≤ v ∧ v < ((p256 n.toNat : Nat) : Int))
theorem take_next {l : List UInt8} {k : Nat} (h : k < l.length) : l.take (k + 1) = l.take k ++ [l[k]] := List.take_succ_eq_append_getElem h
theorem crc_next {l : List UInt8} {k : Nat} (c : Nat) (h : k < l.length) : crcFrom c (l.take (k + 1)) = stepsN 8 (crcFrom c (l.take k) ^^^ (l[k]).toNat) := by rw [take_next h, crcFrom_snoc]
theorem xor_byte (x : Nat) (b : UInt8) (hx : x < 4294967296) : bits .xor .u32 (x : Int) (b.toNat : Int) = ((x ^^^ b.toNat : Nat) : Int) := u32_xor_nat x b.toNat hx (by have := b.toNat_lt; omega)

theorem xor_ones32 (x : Nat) (hx : x < 4294967296) : bits .xor .u32 (x : Int) 4294967295 = ((x ^^^ 4294967295 : Nat) : Int) := u32_xor_nat x 4294967295 hx (by omega)
theorem xor_max (x : Nat) (hx : x < 4294967296) : bits .xor .u32 IntKind.u32.max (x : Int) = ((x ^^^ 4294967295 : Nat) : Int) := by
  have := u32_xor_nat 4294967295 x (by omega) hx
  rw [Nat.xor_comm] at this
  exact this
theorem val_next {l : List UInt8} {k : Nat} (h : k < l.length) : valL (l.take (k + 1)) = valL (l.take k) * 256 + (l[k]).toNat := by rw [take_next h, valL_snoc]
def getOk (len at_ n : Int) : Prop := 1 ≤ n ∧ n ≤ 7 ∧ 0 ≤ at_ ∧ at_ + n ≤ len
theorem or8 (a v : Nat) (h1 : a < 281474976710656) (h3 : v < 256) : bits .or .i64 ((a : Int) * 256) (v : Int) = ((a * 256 + v : Nat) : Int) := by
  have e1 : (BitVec.ofInt 64 ((a : Int) * 256)).toNat = 2 ^ 8 * a := by
    rw [BitVec.toNat_ofInt]; omega
  have e2 : (BitVec.ofInt 64 (v : Int)).toNat = v := by
    rw [BitVec.toNat_ofInt]; omega
  show IntKind.i64.wrap ((BitVec.ofInt 64 ((a : Int) * 256) ||| BitVec.ofInt 64 (v : Int)).toNat : Nat) = _
  rw [BitVec.toNat_or, e1, e2, ← Nat.two_pow_add_eq_or_of_lt (by omega : v < 2 ^ 8), IntKind.wrap_i64]
  omega
theorem val_next_at {l : List UInt8} {at_ k : Nat} (h : at_ + k < l.length) : valL ((l.drop at_).take (k + 1)) = valL ((l.drop at_).take k) * 256 + (l[at_ + k]).toNat := by
  rw [val_next (by rw [List.length_drop]; omega)]
  simp
end Go.Proofs.YtabjcgchcnnjjaaGreat.Cw
end
/- What code.Put and the document's own Put come to. For all numbers. -/
section
namespace Go.Proofs.YtabjcgchcnnjjaaGreat.Cw
open Go.RowKit Co By

theorem two_pow (m : Nat) (h : m ≤ 7) : wrap64 (2 ^ (8 * m)) = ((p256 m : Nat) : Int) := by
  have h1 : p256 m ≤ 72057594037927936 := p256_le h
  have e : ((2 : Int) ^ (8 * m)) = ((p256 m : Nat) : Int) := by rw [p256_two]; simp
  rw [e]
  exact IntWalk.wrap64_in _ ⟨by omega, by omega⟩
set_option maxHeartbeats 400000 in
theorem put_no (v : Int) (n : Int) (w : World) (hb : ¬ fairB v n = true) :
    Calls Tryz.prog 63 #[.int .i64 v, .int .i64 n] w fun e w' => e = .returned (.tuple #[.slice none 0 0, .int .i64 1]) ∧ w = w' := by
  have hf : ¬ (1 ≤ n ∧ n ≤ 7 ∧ 0 ≤ v ∧ v < ((p256 n.toNat : Nat) : Int)) := by simpa [fairB] using hb
  have HF := Lib.hid hf
  clear hb hf
  by_cases h1 : 1 ≤ n ∧ n ≤ 7
  · have hw : wideB n = true := by unfold wideB; simp; omega
    obtain ⟨h1, h2⟩ := h1
    by_cases h3 : v < 0
    · go_enter Tryz.func63, Tryz.ntmps63
      go_wp2_with fail
      refine (rightWidth_any n _).mono ?_
      rintro e w' ⟨rfl, rfl⟩
      go_wp2
      go_ret2
      exact ⟨rfl, rfl⟩
    · obtain ⟨m, rfl⟩ := Int.eq_ofNat_of_zero_le (show 0 ≤ n by omega)
      have hsh : decide (wrap64 (2 ^ (8 * m)) ≤ v) = true := by
        rw [two_pow m (by omega)]
        have := HF.out
        rw [Int.toNat_natCast] at this
        exact decide_eq_true (by omega)
      go_enter Tryz.func63, Tryz.ntmps63
      go_wp2_with fail
      refine (rightWidth_any m _).mono ?_
      rintro e w' ⟨rfl, rfl⟩
      go_wp2
      go_ret2
      exact ⟨rfl, rfl⟩
  · have hw : wideB n = false := by unfold wideB; simp; omega
    go_enter Tryz.func63, Tryz.ntmps63
    go_wp2_with fail
    refine (rightWidth_any n _).mono ?_
    rintro e w' ⟨rfl, rfl⟩
    go_wp2
    go_ret2
    exact ⟨rfl, rfl⟩

set_option maxRecDepth 8000 in
set_option maxHeartbeats 1000000 in
theorem put_ok (v n : Nat) (w : World) (h1 : 1 ≤ n) (h2 : n ≤ 7) (h3 : v < p256 n) :
    Calls Tryz.prog 63 #[.int .i64 (v : Int), .int .i64 (n : Int)] w (RB 5 w n (putL v n) fun x => .tuple #[x, .int .i64 0]) := by
  have hw : wideB (n : Int) = true := by unfold wideB; simp; omega
  have hsh : decide (wrap64 (2 ^ (8 * n)) ≤ (v : Int)) = false := by
    rw [two_pow n h2]
    exact decide_eq_false (by omega)
  have hv : v < 72057594037927936 := Nat.lt_of_lt_of_le h3 (p256_le h2)
  have h3' := Lib.hid h3
  clear h3
  obtain ⟨i0, hi0, hz0, hz1, hz2⟩ := info_parts byP.hi
  have HI := Lib.hid hi0
  have HZ0 := Lib.hid hz0
  have HZ1 := Lib.hid hz1
  have HZ2 := Lib.hid hz2
  clear hi0 hz0 hz1 hz2
  go_enter Tryz.func63, Tryz.ntmps63
  go_wp2_with fail
  refine (rightWidth_any n _).mono ?_
  rintro e w' ⟨rfl, rfl⟩
  go_wp2_with (refine wpList_make_full _ rfl (.tmp 22) (.tmp 22) 25 rfl w.heap.size 5 i0 _ 1 Tryz.underlying25 HI.out HZ0.out HZ1.out .i64 .i64 n n n rfl rfl rfl rfl (by rw [HZ2.out]; omega) (by unfold maxLen; omega) (Nat.le_refl _) ?_; intro w1 hown hgr)
  have hown0 : Own 5 w.heap.size w1 (some ⟨w.heap.size, 0, none⟩) n n (partL v n 0) := by
    have e : (madeCells (Value.int IntKind.u8 0).cells (n * 1)).toList = cellsU (partL v n 0) := by
      rw [Nat.mul_one, show (Value.int IntKind.u8 0).cells = #[.int .u8 0] from rfl, toList_madeCells_one]
      simp [cellsU, partL, putL]
    rw [e] at hown
    exact hown
  have hb1 : Below w.heap.size w w1 := (Below.refl _ _).grown hgr (Nat.le_refl _) (fun _ h => by cases h)
  clear hown hgr
  go_loopw [25] (fun i wr => ∃ k : Nat, k ≤ n ∧ i = .int .i64 k ∧ Own 5 w.heap.size wr (some ⟨w.heap.size, 0, none⟩) n n (partL v n k) ∧ Below w.heap.size w wr) (fun i _ => n - (intOf i).toNat)
  case atStart => exact ⟨0, by omega, rfl, hown0, hb1⟩
  case round =>
    obtain ⟨k, hk, rfl, hown, hb⟩ := hrel
    by_cases hlt : k < n
    · have hfr := World.ownsRow.frozenAt hown (n - 1 - k)
      obtain ⟨y, hcell⟩ : ∃ y, wr.cell? ⟨w.heap.size, n - 1 - k, none⟩ = some (.int .u8 y) := by
        rw [World.ownsRow.cellAt hown _ (by omega), cellsU_get (by rw [partL_length hk]; omega)]
        exact ⟨_, rfl⟩
      go_wp2
      have hy : ((v : Int) / 2 ^ (8 * k) % 256) = ((byteV (v / p256 k)).toNat : Int) := by
        rw [byteV_toNat, p256_two]
        simp
      rw [hy]
      have hset := hown.set (n - 1 - k) (byteV (v / p256 k))
      rw [partL_next hlt] at hset
      go_roundw
      case rel => exact ⟨k + 1, by omega, by go_num, hset, hb.setCell (Nat.le_refl _) _⟩
      case measure => simp [intOf]; omega
    · obtain rfl : k = n := by omega
      go_wp2
      go_ret2
      exact ⟨_, _, rfl, by rw [← partL_all]; exact hown, hb⟩

set_option maxHeartbeats 1000000 in
theorem refPut_any : ∀ (n v : Nat) (w : World), n ≤ 7 → v < 9223372036854775808 →
    Calls Tryz.prog 52 #[.int .i64 (v : Int), .int .i64 (n : Int)] w (RB 5 w n (putL v n) fun x => x) := by
  intro n
  induction n with
  | zero =>
    intro v w _ hv
    go_enter Tryz.func52, Tryz.ntmps52
    go_wp2
    go_ret
    exact ⟨none, 0, rfl, Own.nil _ _ _, Below.refl _ _⟩
  | succ n ih =>
    intro v w hn hv
    have IH := Lib.hid ih
    clear ih
    go_enter Tryz.func52, Tryz.ntmps52
    go_wp2_with fail
    rw [show ((v : Int) / 256) = ((v / 256 : Nat) : Int) by omega]
    refine (IH.out (v / 256) w (by omega) (by omega)).mono ?_
    rintro e w1 ⟨A, c, rfl, hown, hb⟩
    have hx : ((v : Int) % 256) = ((byteV v).toNat : Int) := by rw [byteV_toNat]; omega
    go_wp2_with (at_builtin; refine wpList_app byP rfl (.tmp 11) (.tmp 15) rfl rfl (hown.below ((Below.refl _ _).alloc (Nat.le_refl _) _)) rfl (Own.lit1 5 w1 (byteV v)).bs (by omega) (by have := hb.size; simp; omega) ?_; intro A' c' w2 hown2 hb2 _ _)
    go_ret
    exact ⟨A', c', rfl, hown2, (hb.alloc hb.size _).trans hb2⟩
end Go.Proofs.YtabjcgchcnnjjaaGreat.Cw
end
