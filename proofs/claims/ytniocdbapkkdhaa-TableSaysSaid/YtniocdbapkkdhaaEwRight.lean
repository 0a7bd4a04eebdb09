/- What record's Right and the document's Right come to. For all leases whose keys fit. -/
import Derived.Test.YtniocdbapkkdhaaEwKit
set_option maxRecDepth 8000
namespace Go.Proofs.Ytniocdbapkkdhaa.Ew
open Go.RowKit Co By Ky Rc
open Dw (ba ba_size ba_data ba_list)

set_option maxHeartbeats 1000000 in
theorem right_parts (a s t : Int) (k : List UInt8) (w : World) (hk : k.length ≤ 9223372036854775807) :
    Calls Try.prog 33 #[.agg #[.int .i64 a, .int .i64 s, .int .i64 t, .string (ba k)]] w fun e w' => e = .returned (.bool (rightR ⟨a, s, t, k⟩)) ∧ Below w.heap.size w w' := by
  have H := Lib.hid (rightR_iff ⟨a, s, t, k⟩)
  have hb : ∀ x, Below w.heap.size w (w.alloc x) := fun x => (Below.refl _ _).alloc (Nat.le_refl _) _
  have HA := Lib.hid (fun W => Aw.right_any a W)
  have HS := Lib.hid (fun W => rightState_any s W)
  have HK := Lib.hid (fun W => keyRight_any k W hk)
  simp only at H
  generalize Ad.rightB a = b1 at H HA
  generalize stB s = b2 at H HS
  generalize rightK k = b5 at H HK
  cases b1 with
  | false =>
    go_enter Try.func33, Try.ntmps33
    go_wp2_with fail
    refine (HA.out _).mono ?_
    rintro e w1 ⟨rfl, rfl⟩
    go_wp2
    go_ret
    exact ⟨ret_bool (by rw [H.out]; rfl), hb _⟩
  | true =>
  cases b2 with
  | false =>
    go_enter Try.func33, Try.ntmps33
    go_wp2_with fail
    refine (HA.out _).mono ?_
    rintro e w1 ⟨rfl, rfl⟩
    go_wp2_with fail
    refine (HS.out _).mono ?_
    rintro e w1 ⟨rfl, rfl⟩
    go_wp2
    go_ret
    exact ⟨ret_bool (by rw [H.out]; rfl), hb _⟩
  | true =>
  by_cases t0 : 0 ≤ t
  rotate_left
  · have d0 : decide (0 ≤ t) = false := decide_eq_false t0
    have HF : Hid (rightR ⟨a, s, t, k⟩ = false) := by show _ = _; rw [H.out, d0]; rfl
    clear d0 H
    go_enter Try.func33, Try.ntmps33
    go_wp2_with fail
    refine (HA.out _).mono ?_
    rintro e w1 ⟨rfl, rfl⟩
    go_wp2_with fail
    refine (HS.out _).mono ?_
    rintro e w1 ⟨rfl, rfl⟩
    go_wp2
    go_ret
    exact ⟨ret_bool HF.out.symm, hb _⟩
  by_cases t1 : t ≤ 1125899906842624
  rotate_left
  · have d0 : decide (t ≤ 1125899906842624) = false := decide_eq_false t1
    have HF : Hid (rightR ⟨a, s, t, k⟩ = false) := by show _ = _; rw [H.out, d0]; simp
    clear d0 H
    go_enter Try.func33, Try.ntmps33
    go_wp2_with fail
    refine (HA.out _).mono ?_
    rintro e w1 ⟨rfl, rfl⟩
    go_wp2_with fail
    refine (HS.out _).mono ?_
    rintro e w1 ⟨rfl, rfl⟩
    go_wp2
    go_ret
    exact ⟨ret_bool HF.out.symm, hb _⟩
  have HF : Hid (rightR ⟨a, s, t, k⟩ = b5) := by show _ = _; rw [H.out, decide_eq_true t0, decide_eq_true t1]; simp
  clear H
  go_enter Try.func33, Try.ntmps33
  go_wp2_with fail
  refine (HA.out _).mono ?_
  rintro e w1 ⟨rfl, rfl⟩
  go_wp2_with fail
  refine (HS.out _).mono ?_
  rintro e w1 ⟨rfl, rfl⟩
  go_wp2_with fail
  refine (HK.out _).mono ?_
  rintro e w1 ⟨rfl, rfl⟩
  go_wp2
  go_ret
  exact ⟨ret_bool HF.out.symm, hb _⟩
theorem right_any (l : L) (w : World) (hk : Fk l) :
    Calls Try.prog 33 #[lv l] w fun e w' => e = .returned (.bool (rightR l)) ∧ Below w.heap.size w w' := right_parts l.addr l.state l.till l.key w hk

set_option maxHeartbeats 2000000 in
theorem refRight_parts (a s t : Int) (k : List UInt8) (w : World) (hk : k.length ≤ 9223372036854775807) :
    Calls Try.prog 28 #[.agg #[.int .i64 a, .int .i64 s, .int .i64 t, .string (ba k)]] w fun e w' => e = .returned (.bool (rightR ⟨a, s, t, k⟩)) ∧ Below w.heap.size w w' := by
  have H := Lib.hid (rightR_iff ⟨a, s, t, k⟩)
  have hb : ∀ x, Below w.heap.size w (w.alloc x) := fun x => (Below.refl _ _).alloc (Nat.le_refl _) _
  have HA := Lib.hid (fun W => Aw.refRight_any a W)
  have HK := Lib.hid (fun W => refKeyRight_any k W hk)
  simp only at H
  generalize Ad.rightB a = b1 at H HA
  generalize rightK k = b5 at H HK
  cases b1 with
  | false =>
    go_enter Try.func28, Try.ntmps28
    go_wp2_with fail
    refine (HA.out _).mono ?_
    rintro e w1 ⟨rfl, rfl⟩
    go_wp2
    go_ret
    exact ⟨ret_bool (by rw [H.out]; rfl), hb _⟩
  | true =>
  cases b5 with
  | false =>
    go_enter Try.func28, Try.ntmps28
    go_wp2_with fail
    refine (HA.out _).mono ?_
    rintro e w1 ⟨rfl, rfl⟩
    go_wp2_with fail
    refine (HK.out _).mono ?_
    rintro e w1 ⟨rfl, rfl⟩
    go_wp2
    go_ret
    exact ⟨ret_bool (by rw [H.out]; simp), hb _⟩
  | true =>
  have HF : Hid (rightR ⟨a, s, t, k⟩ = decide ((1 ≤ s ∧ s ≤ 3) ∧ 0 ≤ t ∧ t ≤ 1125899906842624)) := by
    show _ = _
    rw [H.out, Bool.eq_iff_iff]
    unfold stB
    simp only [Bool.and_eq_true, decide_eq_true_eq, and_true, true_and]
    omega
  clear H
  have hst : s = 1 ∨ s = 2 ∨ s = 3 ∨ ((s == 1) = false ∧ (s == 2) = false ∧ (s == 3) = false) := by
    simp only [beq_eq_false_iff_ne]
    omega
  rcases hst with rfl | rfl | rfl | ⟨b1, b2, b3⟩
  rotate_right
  · have HG : Hid (rightR ⟨a, s, t, k⟩ = false) := by show _ = _; rw [HF.out]; simp only [beq_eq_false_iff_ne] at b1 b2 b3; exact decide_eq_false (by omega)
    clear HF
    go_enter Try.func28, Try.ntmps28
    go_wp2_with fail
    refine (HA.out _).mono ?_
    rintro e w1 ⟨rfl, rfl⟩
    go_wp2_with fail
    refine (HK.out _).mono ?_
    rintro e w1 ⟨rfl, rfl⟩
    go_wp2
    go_ret
    exact ⟨ret_bool HG.out.symm, hb _⟩
  all_goals
    by_cases t0 : 0 ≤ t
    rotate_left
    · go_enter Try.func28, Try.ntmps28
      go_wp2_with fail
      refine (HA.out _).mono ?_
      rintro e w1 ⟨rfl, rfl⟩
      go_wp2_with fail
      refine (HK.out _).mono ?_
      rintro e w1 ⟨rfl, rfl⟩
      go_wp2
      go_ret
      exact ⟨ret_bool (by rw [HF.out]; first | (rw [decide_eq_decide]; omega) | exact (decide_eq_false (by omega)).symm), hb _⟩
    by_cases t1 : t ≤ 1125899906842624
    · go_enter Try.func28, Try.ntmps28
      go_wp2_with fail
      refine (HA.out _).mono ?_
      rintro e w1 ⟨rfl, rfl⟩
      go_wp2_with fail
      refine (HK.out _).mono ?_
      rintro e w1 ⟨rfl, rfl⟩
      go_wp2
      go_ret
      exact ⟨ret_bool (by rw [HF.out]; first | (rw [decide_eq_decide]; omega) | exact (decide_eq_true (by omega)).symm), hb _⟩
    · go_enter Try.func28, Try.ntmps28
      go_wp2_with fail
      refine (HA.out _).mono ?_
      rintro e w1 ⟨rfl, rfl⟩
      go_wp2_with fail
      refine (HK.out _).mono ?_
      rintro e w1 ⟨rfl, rfl⟩
      go_wp2
      go_ret
      exact ⟨ret_bool (by rw [HF.out]; first | (rw [decide_eq_decide]; omega) | exact (decide_eq_false (by omega)).symm), hb _⟩
theorem refRight_any (l : L) (w : World) (hk : Fk l) :
    Calls Try.prog 28 #[lv l] w fun e w' => e = .returned (.bool (rightR l)) ∧ Below w.heap.size w w' := refRight_parts l.addr l.state l.till l.key w hk
end Go.Proofs.Ytniocdbapkkdhaa.Ew
