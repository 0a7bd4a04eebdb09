/- msg.numberOf: the number of each error that msg makes. Condition: what msg's package-level variables hold (En.ok). -/
import Derived.Test.YtabjcgchcnnjjaaGreatDoorMwNum
set_option maxRecDepth 8000
namespace Go.Proofs.YtabjcgchcnnjjaaGreatDoor.Mw
open Go.RowKit By

theorem numberOf_nil (w : World) : Calls Tryz.prog 26 #[.nilIface] w fun e w' => e = .returned (.int .i64 0) ∧ Below w.heap.size w w' := by
  go_enter Tryz.func26, Tryz.ntmps26
  go_wp2
  go_ret
  exact ⟨rfl, (Below.refl _ _).alloc (Nat.le_refl _) _⟩

set_option maxHeartbeats 1000000 in
theorem numberOf_bel (E : En) (C : Er) (n : Int) (w : World) (hE : E.ok w) (hC : C.last = .bel n) : Calls Tryz.prog 26 #[C.v] w fun e w' => e = .returned (.int .i64 n) ∧ Below w.heap.size w w' := by
  have HC := Lib.hid hC
  have HG := Lib.hid (hE.alloc (.cells #[.int .i64 0] 95)).gT
  clear hC hE
  obtain ⟨u, x, hx⟩ := C.form
  rw [hx.out]
  go_enter Tryz.func26, Tryz.ntmps26
  go_wp2_with (go_at_call 48; rw [← hx.out]; refine (As_bel C n HC.out w.heap.size w.heap.size (.int .i64 0) _ (by simp) (Nat.le_refl _) (by simp) (by simp) HG.out).mono ?_; rintro e w2 ⟨rfl, hc2, hb2⟩)
  go_ret
  exact ⟨rfl, ((Below.refl _ _).alloc (Nat.le_refl _) _).trans hb2⟩

theorem numberOf_at (E : En) (C : Er) (s : Addr) (w : World) (hE : E.ok w) (hs : Lies w s) (hC : C.last = .sen s) (n : Int)
    (hn : n = if s = E.I then 1 else if s = E.S then 4 else if s = E.L then 3 else 2) : Calls Tryz.prog 26 #[C.v] w fun e w' => e = .returned (.int .i64 n) ∧ Below w.heap.size w w' := by
  have HC := Lib.hid hC
  have hb0 : Below w.heap.size w (w.alloc (.cells #[.int .i64 0] 95)) := (Below.refl _ _).alloc (Nat.le_refl _) _
  have HN := Lib.hid hn
  have h0 := hE.below hb0
  have HS := Lib.hid (hs.below hb0)
  have HG := Lib.hid h0.gT
  clear hC hn hE hs
  obtain ⟨u, x, hx⟩ := C.form
  rw [hx.out]
  go_enter Tryz.func26, Tryz.ntmps26
  go_wp2_with fail
  rw [← hx.out]
  refine (As_sen C s HC.out _ _ HG.out).mono ?_
  rintro e w1 ⟨rfl, hb1⟩
  rw [hx.out]
  have h1 := h0.below hb1
  have hbw1 := hb0.trans (hb1.mono hb0.size)
  have S1 := Lib.hid (HS.out.below hb1)
  have gI := h1.gI
  go_wp2_with fail
  rw [← hx.out]
  refine (Is_any C s E.I HC.out _ S1.out h1.lI).mono ?_
  rintro e w2 ⟨rfl, hb2⟩
  rw [hx.out]
  by_cases k1 : s = E.I
  · have e1 := decide_eq_true k1
    have HK : Hid (n = 1) := by rw [HN.out, if_pos k1]; rfl
    clear k1
    go_wp2
    go_ret
    exact ⟨ret_int HK.out.symm, hbw1.trans (hb2.mono hbw1.size)⟩
  have e1 := decide_eq_false k1
  have N1 : Hid (n = if s = E.S then 4 else if s = E.L then 3 else 2) := by rw [HN.out, if_neg k1]; rfl
  have h2 := h1.below hb2
  have hbw2 := hbw1.trans (hb2.mono hbw1.size)
  have S2 := Lib.hid (S1.out.below hb2)
  have gS := h2.gS
  clear k1 gI
  go_wp2_with fail
  rw [← hx.out]
  refine (Is_any C s E.S HC.out _ S2.out h2.lS).mono ?_
  rintro e w3 ⟨rfl, hb3⟩
  rw [hx.out]
  by_cases k2 : s = E.S
  · have e2 := decide_eq_true k2
    have HK : Hid (n = 4) := by rw [N1.out, if_pos k2]; rfl
    clear k2 gS
    go_wp2
    go_ret
    exact ⟨ret_int HK.out.symm, hbw2.trans (hb3.mono hbw2.size)⟩
  have e2 := decide_eq_false k2
  have N2 : Hid (n = if s = E.L then 3 else 2) := by rw [N1.out, if_neg k2]; rfl
  have h3 := h2.below hb3
  have hbw3 := hbw2.trans (hb3.mono hbw2.size)
  have S3 := Lib.hid (S2.out.below hb3)
  have gL := h3.gL
  clear k2 gS
  go_wp2_with fail
  rw [← hx.out]
  refine (Is_any C s E.L HC.out _ S3.out h3.lL).mono ?_
  rintro e w4 ⟨rfl, hb4⟩
  rw [hx.out]
  by_cases k3 : s = E.L
  · have e3 := decide_eq_true k3
    have HK : Hid (n = 3) := by rw [N2.out, if_pos k3]; rfl
    clear k3 gL
    go_wp2
    go_ret
    exact ⟨ret_int HK.out.symm, hbw3.trans (hb4.mono hbw3.size)⟩
  · have e3 := decide_eq_false k3
    have HK : Hid (n = 2) := by rw [N2.out, if_neg k3]; rfl
    clear k3 gL
    go_wp2
    go_ret
    exact ⟨ret_int HK.out.symm, hbw3.trans (hb4.mono hbw3.size)⟩
/-- The number of an error that msg makes. -/
def Er.num (E : En) : Er → Int
  | .bel n => n
  | .sen s => if s = E.I then 1 else if s = E.S then 4 else if s = E.L then 3 else 2
  | .flt _ c => c.num E
/-- An error whose end is a number of a layer below or one of the four sentinels. -/
def Er.ok (E : En) : Er → Prop
  | .bel _ => True
  | .sen s => s = E.I ∨ s = E.L ∨ s = E.S ∨ s = E.F
  | .flt _ c => c.ok E
theorem Er.num_last (E : En) (C : Er) : C.num E = C.last.num E := by
  induction C with
  | bel n => rfl
  | sen s => rfl
  | flt p c ih => exact ih
theorem Er.ok_last (E : En) (C : Er) : C.ok E ↔ C.last.ok E := by
  induction C with
  | bel n => exact Iff.rfl
  | sen s => exact Iff.rfl
  | flt p c ih => exact ih
theorem Er.last_cases (C : Er) : (∃ n, C.last = .bel n) ∨ ∃ s, C.last = .sen s := by
  induction C with
  | bel n => exact .inl ⟨n, rfl⟩
  | sen s => exact .inr ⟨s, rfl⟩
  | flt p c ih => exact ih
theorem numberOf_any (E : En) (C : Er) (w : World) (hE : E.ok w) (hC : C.ok E) : Calls Tryz.prog 26 #[C.v] w fun e w' => e = .returned (.int .i64 (C.num E)) ∧ Below w.heap.size w w' := by
  rw [Er.num_last]
  rcases C.last_cases with ⟨n, h⟩ | ⟨s, h⟩
  · have e : C.last.num E = n := by rw [h]; rfl
    rw [e]
    exact numberOf_bel E C n w hE h
  · have e : C.last.num E = if s = E.I then 1 else if s = E.S then 4 else if s = E.L then 3 else 2 := by rw [h]; rfl
    have hk := (Er.ok_last E C).1 hC
    rw [h] at hk
    have hl : Lies w s := by
      rcases hk with k | k | k | k
      · rw [k]; exact hE.lI
      · rw [k]; exact hE.lL
      · rw [k]; exact hE.lS
      · rw [k]; exact hE.lF
    exact numberOf_at E C s w hE hl h _ e
theorem num_I (E : En) : (Er.sen E.I).num E = 1 := by simp [Er.num]
theorem num_S {E : En} {w : World} (h : E.ok w) : (Er.sen E.S).num E = 4 := by simp [Er.num, h.ne.1]
theorem num_L {E : En} {w : World} (h : E.ok w) : (Er.sen E.L).num E = 3 := by simp [Er.num, h.ne.2.1, h.ne.2.2.1]
theorem num_F {E : En} {w : World} (h : E.ok w) : (Er.sen E.F).num E = 2 := by simp [Er.num, h.ne.2.2.2.1, h.ne.2.2.2.2.1, h.ne.2.2.2.2.2]
end Go.Proofs.YtabjcgchcnnjjaaGreatDoor.Mw
