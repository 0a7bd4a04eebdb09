/- What code.Put and the document's own Put come to. For all numbers. -/
import Derived.Test.YtmefnlgoejbgfaaCoLeaf
namespace Go.Proofs.Ytmefnlgoejbgfaa.Cw
open Go.RowKit Co By

theorem two_pow (m : Nat) (h : m ≤ 7) : wrap64 (2 ^ (8 * m)) = ((p256 m : Nat) : Int) := by
  have h1 : p256 m ≤ 72057594037927936 := p256_le h
  have e : ((2 : Int) ^ (8 * m)) = ((p256 m : Nat) : Int) := by rw [p256_two]; simp
  rw [e]
  exact IntWalk.wrap64_in _ ⟨by omega, by omega⟩
set_option maxHeartbeats 400000 in
theorem put_no (v : Int) (n : Int) (w : World) (hb : ¬ fairB v n = true) :
    Calls Try.prog 25 #[.int .i64 v, .int .i64 n] w fun e w' => e = .returned (.tuple #[.slice none 0 0, .int .i64 1]) ∧ w = w' := by
  have hf : ¬ (1 ≤ n ∧ n ≤ 7 ∧ 0 ≤ v ∧ v < ((p256 n.toNat : Nat) : Int)) := by simpa [fairB] using hb
  have HF := Lib.hid hf
  clear hb hf
  by_cases h1 : 1 ≤ n ∧ n ≤ 7
  · have hw : wideB n = true := by unfold wideB; simp; omega
    obtain ⟨h1, h2⟩ := h1
    by_cases h3 : v < 0
    · go_enter Try.func25, Try.ntmps25
      go_wp2_with fail
      refine (rightWidth_any n _).mono ?_
      rintro e w' ⟨rfl, rfl⟩
      go_wp2
      go_ret2
      exact ⟨rfl, rfl⟩
    · obtain ⟨m, rfl⟩ := Int.eq_ofNat_of_zero_le (show 0 ≤ n by omega)
      have hsh : decide (wrap64 (2 ^ (8 * m)) ≤ v) = true := by
        rw [two_pow m (by omega)]
        have := HF.out
        rw [Int.toNat_natCast] at this
        exact decide_eq_true (by omega)
      go_enter Try.func25, Try.ntmps25
      go_wp2_with fail
      refine (rightWidth_any m _).mono ?_
      rintro e w' ⟨rfl, rfl⟩
      go_wp2
      go_ret2
      exact ⟨rfl, rfl⟩
  · have hw : wideB n = false := by unfold wideB; simp; omega
    go_enter Try.func25, Try.ntmps25
    go_wp2_with fail
    refine (rightWidth_any n _).mono ?_
    rintro e w' ⟨rfl, rfl⟩
    go_wp2
    go_ret2
    exact ⟨rfl, rfl⟩

set_option maxRecDepth 8000 in
set_option maxHeartbeats 1000000 in
theorem put_ok (v n : Nat) (w : World) (h1 : 1 ≤ n) (h2 : n ≤ 7) (h3 : v < p256 n) :
    Calls Try.prog 25 #[.int .i64 (v : Int), .int .i64 (n : Int)] w (RB 5 w n (putL v n) fun x => .tuple #[x, .int .i64 0]) := by
  have hw : wideB (n : Int) = true := by unfold wideB; simp; omega
  have hsh : decide (wrap64 (2 ^ (8 * n)) ≤ (v : Int)) = false := by
    rw [two_pow n h2]
    exact decide_eq_false (by omega)
  have hv : v < 72057594037927936 := Nat.lt_of_lt_of_le h3 (p256_le h2)
  have h3' := Lib.hid h3
  clear h3
  obtain ⟨i0, hi0, hz0, hz1, hz2⟩ := info_parts byP.hi
  have HI := Lib.hid hi0
  have HZ0 := Lib.hid hz0
  have HZ1 := Lib.hid hz1
  have HZ2 := Lib.hid hz2
  clear hi0 hz0 hz1 hz2
  go_enter Try.func25, Try.ntmps25
  go_wp2_with fail
  refine (rightWidth_any n _).mono ?_
  rintro e w' ⟨rfl, rfl⟩
  go_wp2_with (refine wpList_make_full _ rfl (.tmp 22) (.tmp 22) 22 rfl w.heap.size 5 i0 _ 1 Try.underlying22 HI.out HZ0.out HZ1.out .i64 .i64 n n n rfl rfl rfl rfl (by rw [HZ2.out]; omega) (by unfold maxLen; omega) (Nat.le_refl _) ?_; intro w1 hown hgr)
  have hown0 : Own 5 w.heap.size w1 (some ⟨w.heap.size, 0, none⟩) n n (partL v n 0) := by
    have e : (madeCells (Value.int IntKind.u8 0).cells (n * 1)).toList = cellsU (partL v n 0) := by
      rw [Nat.mul_one, show (Value.int IntKind.u8 0).cells = #[.int .u8 0] from rfl, toList_madeCells_one]
      simp [cellsU, partL, putL]
    rw [e] at hown
    exact hown
  have hb1 : Below w.heap.size w w1 := (Below.refl _ _).grown hgr (Nat.le_refl _) (fun _ h => by cases h)
  clear hown hgr
  go_loopw [25] (fun i wr => ∃ k : Nat, k ≤ n ∧ i = .int .i64 k ∧ Own 5 w.heap.size wr (some ⟨w.heap.size, 0, none⟩) n n (partL v n k) ∧ Below w.heap.size w wr) (fun i _ => n - (intOf i).toNat)
  case atStart => exact ⟨0, by omega, rfl, hown0, hb1⟩
  case round =>
    obtain ⟨k, hk, rfl, hown, hb⟩ := hrel
    by_cases hlt : k < n
    · have hfr := World.ownsRow.frozenAt hown (n - 1 - k)
      obtain ⟨y, hcell⟩ : ∃ y, wr.cell? ⟨w.heap.size, n - 1 - k, none⟩ = some (.int .u8 y) := by
        rw [World.ownsRow.cellAt hown _ (by omega), cellsU_get (by rw [partL_length hk]; omega)]
        exact ⟨_, rfl⟩
      go_wp2
      have hy : ((v : Int) / 2 ^ (8 * k) % 256) = ((byteV (v / p256 k)).toNat : Int) := by
        rw [byteV_toNat, p256_two]
        simp
      rw [hy]
      have hset := hown.set (n - 1 - k) (byteV (v / p256 k))
      rw [partL_next hlt] at hset
      go_roundw
      case rel => exact ⟨k + 1, by omega, by go_num, hset, hb.setCell (Nat.le_refl _) _⟩
      case measure => simp [intOf]; omega
    · obtain rfl : k = n := by omega
      go_wp2
      go_ret2
      exact ⟨_, _, rfl, by rw [← partL_all]; exact hown, hb⟩

end Go.Proofs.Ytmefnlgoejbgfaa.Cw
