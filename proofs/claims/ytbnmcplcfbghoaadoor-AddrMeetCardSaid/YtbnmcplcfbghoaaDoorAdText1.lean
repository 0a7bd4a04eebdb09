/- What addr.Text and the document's own text come to. -/
import Derived.Test.YtbnmcplcfbghoaaDoorAdText
import Derived.Test.YtbnmcplcfbghoaaDoorAdNum
import Derived.Test.YtbnmcplcfbghoaaDoorShelf
import Derived.Lib.SmallJoins
namespace Go.Proofs.YtbnmcplcfbghoaaDoor
open Go.RowKit Ad

/-- What the calls want of the world: the library's table, and the cell of a variable that is read. -/
structure Env (w : World) : Prop where
  tab : Lib.TabIs Tryd.prog w "internal/strconv.uint64pow10" .u64 Lib.pow10Tab
  max : ∃ m : Int, w.cell? ⟨1, 0, none⟩ = some (.int .i64 m)

theorem gPow : Tryd.prog.globalNamed "internal/strconv.uint64pow10" = some 0 := by kernel_rfl

theorem Env.below {w w' : World} (h : Env w) (hb : Below w.heap.size w w') : Env w' where
  tab := Joins.tab_stays gPow h.tab hb (Nat.le_refl _)
  max := by
    obtain ⟨m, hm⟩ := h.max
    exact ⟨m, by rw [hb.cell (World.block_lt_of_cell? _ _ hm)]; exact hm⟩

theorem below_grown (w : World) (k : Nat) (os : Array Obj) : Below w.heap.size w (Go.Sort.grow (w.drewN k) os) := by
  refine ⟨rfl, rfl, rfl, ?_, ?_⟩
  · simp [Go.Sort.grow, World.drewN]
  · intro i hi
    simp only [Go.Sort.grow, World.drewN]
    rw [Array.getElem?_append_left hi]

theorem itoa_any (n : Int) (w : World) (hw : Env w) (h0 : 0 ≤ n) (h1 : n ≤ 9223372036854775807) :
    Calls Tryd.prog 26 #[.int .i64 n] w fun e w' => e = .returned (.string ⟨(Lib.decDigits n.toNat).toArray⟩) ∧ Below w.heap.size w w' := by
  refine (Tryd.strconv_Itoa n (by omega) h1 w hw.tab).mono ?_
  rintro e w' ⟨rfl, k, os, rfl⟩
  refine ⟨?_, below_grown _ _ _⟩
  rw [Lib.itoa, if_neg (by omega)]

theorem i64_and255 (n : Int) : bits .and .i64 n 255 = n % 256 := by
  have h255 : (BitVec.ofInt 64 255).toNat = 2 ^ 8 - 1 := by decide
  have key : (BitVec.ofInt 64 n &&& BitVec.ofInt 64 255).toNat = (n % ((2 ^ 64 : Nat) : Int)).toNat % 2 ^ 8 := by
    rw [BitVec.toNat_and, BitVec.toNat_ofInt, h255, Nat.and_two_pow_sub_one_eq_mod]
  show IntKind.i64.wrap ((BitVec.ofInt 64 n &&& BitVec.ofInt 64 255).toNat : Nat) = n % 256
  rw [key, IntKind.wrap_i64]
  omega
theorem i64_or8 (a v : Int) (h0 : 0 ≤ a) (h1 : a ≤ 16777215) (h2 : 0 ≤ v) (h3 : v < 256) : bits .or .i64 (a * 256) v = a * 256 + v := by
  obtain ⟨A, rfl⟩ := Int.eq_ofNat_of_zero_le h0
  obtain ⟨V, rfl⟩ := Int.eq_ofNat_of_zero_le h2
  have e1 : (BitVec.ofInt 64 ((A : Int) * 256)).toNat = 2 ^ 8 * A := by
    rw [BitVec.toNat_ofInt]; omega
  have e2 : (BitVec.ofInt 64 (V : Int)).toNat = V := by
    rw [BitVec.toNat_ofInt]; omega
  show IntKind.i64.wrap ((BitVec.ofInt 64 ((A : Int) * 256) ||| BitVec.ofInt 64 (V : Int)).toNat : Nat) = _
  rw [BitVec.toNat_or, e1, e2, ← Nat.two_pow_add_eq_or_of_lt (by omega : V < 2 ^ 8), IntKind.wrap_i64]
  omega

theorem shift_at (n : Int) (v : Int) (h : (n = 0 ∧ v = 16) ∨ (n = 1 ∧ v = 8) ∨ (n = 2 ∧ v = 0)) (w : World) :
    (Instr.index 42 (.agg #[.int .i64 16, .int .i64 8, .int .i64 0]) (.int .i64 n)).run Tryd.prog w = .ok (.int .i64 v) w := by
  rcases h with ⟨rfl, rfl⟩ | ⟨rfl, rfl⟩ | ⟨rfl, rfl⟩ <;> kernel_rfl

set_option maxHeartbeats 400000 in
theorem text_yes (a : Int) (w : World) (hw : Env w) (h : rightB a = true) :
    Calls Tryd.prog 9 #[.int .i64 a] w fun e w' => e = .returned (.tuple #[.string ⟨(textL a.toNat).toArray⟩, .int .i64 0]) ∧ Below w.heap.size w w' := by
  obtain ⟨h0, h1⟩ := rightB_iff.1 h
  have i0 := shift_at 0 16 (by simp)
  have i1 := shift_at 1 8 (by simp)
  have i2 := shift_at 2 0 (by simp)
  go_enter Tryd.func9, Tryd.ntmps9
  go_wp2_with (first
    | (go_at_call 10; refine (right_any _ _).mono ?_; rintro e w' ⟨rfl, rfl⟩)
    | (go_at_call 26; refine (itoa_any _ _ hw (by omega) (by omega)).mono ?_; rintro e w1 ⟨rfl, hb1⟩))
  go_loopw [4, 14] (fun s i wr => ∃ k : Nat, k ≤ 3 ∧ i = .int .i64 k ∧ s = .string ⟨(textTo a.toNat k).toArray⟩ ∧ Below w.heap.size w wr) (fun _ i _ => 3 - (intOf i).toNat)
  case atStart => exact ⟨0, by omega, rfl, (by rw [show (a / 16777216).toNat = a.toNat / 16777216 by omega]; rfl), hb1⟩
  case round =>
    obtain ⟨k, hk, rfl, rfl, hbr⟩ := hrel
    have hwr := hw.below hbr
    have hk4 : k = 0 ∨ k = 1 ∨ k = 2 ∨ k = 3 := by omega
    rcases hk4 with rfl | rfl | rfl | rfl
    · go_wp2_with fail
      rw [i64_and255]
      refine (itoa_any _ _ hwr (by omega) (by omega)).mono ?_
      rintro e w2 ⟨rfl, hb2⟩
      rw [show (a / 65536 % 256).toNat = a.toNat / 65536 % 256 by omega]
      have l1 := dec_len (n := a.toNat / 65536 % 256) (by omega)
      have l2 := textTo_len (a := a.toNat) (by omega) 0
      go_wp2
      go_roundw
      case rel => exact ⟨1, by omega, by go_num, congrArg Value.string (by rw [join3]; simp [textTo]), hbr.trans (hb2.mono hbr.size)⟩
      case measure => simp [intOf]
    · go_wp2_with fail
      rw [i64_and255]
      refine (itoa_any _ _ hwr (by omega) (by omega)).mono ?_
      rintro e w2 ⟨rfl, hb2⟩
      rw [show (a / 256 % 256).toNat = a.toNat / 256 % 256 by omega]
      have l1 := dec_len (n := a.toNat / 256 % 256) (by omega)
      have l2 := textTo_len (a := a.toNat) (by omega) 1
      go_wp2
      go_roundw
      case rel => exact ⟨2, by omega, by go_num, congrArg Value.string (by rw [join3]; simp [textTo]), hbr.trans (hb2.mono hbr.size)⟩
      case measure => simp [intOf]
    · go_wp2_with fail
      rw [i64_and255]
      refine (itoa_any _ _ hwr (by omega) (by omega)).mono ?_
      rintro e w2 ⟨rfl, hb2⟩
      rw [show (a % 256).toNat = a.toNat % 256 by omega]
      have l1 := dec_len (n := a.toNat % 256) (by omega)
      have l2 := textTo_len (a := a.toNat) (by omega) 2
      go_wp2
      go_roundw
      case rel => exact ⟨3, by omega, by go_num, congrArg Value.string (by rw [join3]; simp [textTo, textL]), hbr.trans (hb2.mono hbr.size)⟩
      case measure => simp [intOf]
    · go_wp2
      go_ret2
      exact ⟨rfl, hbr⟩

set_option maxHeartbeats 400000 in
theorem text_no (a : Int) (w : World) (h : rightB a = false) :
    Calls Tryd.prog 9 #[.int .i64 a] w fun e w' => e = .returned (.tuple #[.string ⟨#[]⟩, .int .i64 1]) ∧ w = w' := by
  go_enter Tryd.func9, Tryd.ntmps9
  go_wp2_with (first
    | (go_at_call 10; refine (right_any _ _).mono ?_; rintro e w' ⟨rfl, rfl⟩))
  go_ret2
  exact ⟨rfl, rfl⟩
end Go.Proofs.YtbnmcplcfbghoaaDoor
