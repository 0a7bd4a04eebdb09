/- The walk of RelayFirst: it returns true, and what was in memory stays. For all inputs. -/
import Derived.Test.YtfdlhfindcngeaaRwKnows
import Derived.Test.YtfdlhfindcngeaaRwRef
namespace Go.Proofs.Ytfdlhfindcngeaa
open Go.RowKit Tl Co By Ry Rw

theorem put4 (a : Nat) : putL a 4 = [byteV (a / 256 / 256 / 256), byteV (a / 256 / 256), byteV (a / 256), byteV a] := rfl
theorem own_lit6 (e : Nat) (w : World) (x y z u : UInt8) : Own e w.heap.size (w.alloc (.cells #[.int .u8 5, .int .u8 4, .int .u8 (x.toNat : Int), .int .u8 (y.toNat : Int), .int .u8 (z.toNat : Int), .int .u8 (u.toNat : Int)] e)) (some ⟨w.heap.size, 0, none⟩) 6 6 [5, 4, x, y, z, u] :=
  World.ownsRow_lit w #[.int .u8 5, .int .u8 4, .int .u8 (x.toNat : Int), .int .u8 (y.toNat : Int), .int .u8 (z.toNat : Int), .int .u8 (u.toNat : Int)] 6 (Nat.le_refl _) (by unfold maxLen; omega) rfl

set_option maxHeartbeats 1600000 in
theorem relayFirst_walk (A : Option Addr) (n c : Nat) (l : List UInt8) (a : Int) (w : World) (h : Bs w A n c l) (_ : (Lit.int .i64 a).wf = true) :
    Calls Try.prog 8 #[.slice A n c, .int .i64 a] w (isTrue w) := by
  have hm := h.max
  have hcap := h.cap
  have HC := Lib.hid (refParts_any A n c l w h)
  obtain ⟨x, hx⟩ : ∃ x, (partsR l).2 = x := ⟨_, rfl⟩
  have HX := Lib.hid hx
  by_cases hg : 500 < n
  · clear hx
    go_enter Try.func8, Try.ntmps8
    go_wp2_with fail
    refine HC.out.mono ?_
    rintro e w1 ⟨A1, n1, c1, ps, rfl, _, _, hb1⟩
    rw [HX.out]
    go_wp2_with fail
    refine (knows_yes _).mono ?_
    rintro e w2 ⟨rfl, hb2⟩
    go_wp2
    go_ret
    exact ⟨rfl, hb1.trans (hb2.mono hb1.size)⟩
  by_cases hx0 : x = 0
  rotate_left
  · have hb : (x != 0) = true := by simpa using hx0
    clear hx hx0
    go_enter Try.func8, Try.ntmps8
    go_wp2_with fail
    refine HC.out.mono ?_
    rintro e w1 ⟨A1, n1, c1, ps, rfl, _, _, hb1⟩
    rw [HX.out]
    go_wp2_with fail
    refine (knows_yes _).mono ?_
    rintro e w2 ⟨rfl, hb2⟩
    go_wp2
    go_ret
    exact ⟨rfl, hb1.trans (hb2.mono hb1.size)⟩
  subst hx0
  by_cases ha0 : a < 0
  · clear hx
    go_enter Try.func8, Try.ntmps8
    go_wp2_with fail
    refine HC.out.mono ?_
    rintro e w1 ⟨A1, n1, c1, ps, rfl, _, _, hb1⟩
    rw [HX.out]
    go_wp2_with fail
    refine (knows_yes _).mono ?_
    rintro e w2 ⟨rfl, hb2⟩
    go_wp2
    go_ret
    exact ⟨rfl, hb1.trans (hb2.mono hb1.size)⟩
  by_cases ha1 : 4294967295 < a
  · clear hx
    go_enter Try.func8, Try.ntmps8
    go_wp2_with fail
    refine HC.out.mono ?_
    rintro e w1 ⟨A1, n1, c1, ps, rfl, _, _, hb1⟩
    rw [HX.out]
    go_wp2_with fail
    refine (knows_yes _).mono ?_
    rintro e w2 ⟨rfl, hb2⟩
    go_wp2
    go_ret
    exact ⟨rfl, hb1.trans (hb2.mono hb1.size)⟩
  obtain ⟨v, rfl⟩ := Int.eq_ofNat_of_zero_le (show 0 ≤ a by omega)
  have hv : v < 4294967296 := by omega
  have HF : Hid (linkR ([5, 4] ++ putL v 4 ++ l) = some v) := first hx (by rw [h.len]; omega) hv
  clear hx
  go_enter Try.func8, Try.ntmps8
  go_wp2_with fail
  refine HC.out.mono ?_
  rintro e w1 ⟨A1, n1, c1, ps, rfl, _, _, hb1⟩
  rw [HX.out]
  obtain ⟨x3, hx3⟩ : ∃ x, x = byteV (v / 256 / 256 / 256) := ⟨_, rfl⟩
  obtain ⟨x2, hx2⟩ : ∃ x, x = byteV (v / 256 / 256) := ⟨_, rfl⟩
  obtain ⟨x1, hx1⟩ : ∃ x, x = byteV (v / 256) := ⟨_, rfl⟩
  obtain ⟨x0, hx0⟩ : ∃ x, x = byteV v := ⟨_, rfl⟩
  have HF' : Hid (linkR ([5, 4, x3, x2, x1, x0] ++ l) = some v) := by
    have e := HF.out
    rw [put4, ← hx3, ← hx2, ← hx1, ← hx0] at e
    exact e
  have hlit : Own 5 w1.heap.size (w1.alloc (.cells #[.int .u8 5, .int .u8 4, .int .u8 ((v : Int) / 16777216), .int .u8 ((v : Int) / 65536 % 256), .int .u8 ((v : Int) / 256 % 256), .int .u8 ((v : Int) % 256)] 5)) (some ⟨w1.heap.size, 0, none⟩) 6 6 [5, 4, x3, x2, x1, x0] := by
    have e3 : (x3.toNat : Int) = (v : Int) / 16777216 := by rw [hx3, byteV_toNat]; omega
    have e2 : (x2.toNat : Int) = (v : Int) / 65536 % 256 := by rw [hx2, byteV_toNat]; omega
    have e1 : (x1.toNat : Int) = (v : Int) / 256 % 256 := by rw [hx1, byteV_toNat]; omega
    have e0 : (x0.toNat : Int) = (v : Int) % 256 := by rw [hx0, byteV_toNat]; omega
    have e := own_lit6 5 w1 x3 x2 x1 x0
    rw [e3, e2, e1, e0] at e
    exact e
  have hba : Below w1.heap.size w1 (w1.alloc (.cells #[.int .u8 5, .int .u8 4, .int .u8 ((v : Int) / 16777216), .int .u8 ((v : Int) / 65536 % 256), .int .u8 ((v : Int) / 256 % 256), .int .u8 ((v : Int) % 256)] 5)) := (Below.refl _ _).alloc (Nat.le_refl _) _
  have hl1 := (h.below hb1).below hba
  clear hx3 hx2 hx1 hx0 HF
  have hv0 : (0 : Int) ≤ (v : Int) := by omega
  go_wp2_with (first | fail | (at_builtin; refine wpList_app byP rfl (.tmp 42) (.tmp 43) rfl rfl hlit rfl hl1 (by omega) hba.size ?_; intro A2 c2 w2 hown2 hb2 _ _))
  have hb02 : Below w.heap.size w w2 := hb1.trans ((hba.trans hb2).mono hb1.size)
  refine (linkOf_any _ _ _ _ _ hown2.bs).mono ?_
  rw [HF'.out]
  rintro e w3 ⟨rfl, hb3⟩
  have hb03 := hb02.trans (hb3.mono hb02.size)
  clear hown2 hlit hl1
  go_wp2_with fail
  refine (knows_yes _).mono ?_
  rintro e w4 ⟨rfl, hb4⟩
  go_wp2
  go_ret
  exact ⟨rfl, hb03.trans (hb4.mono hb03.size)⟩
end Go.Proofs.Ytfdlhfindcngeaa
