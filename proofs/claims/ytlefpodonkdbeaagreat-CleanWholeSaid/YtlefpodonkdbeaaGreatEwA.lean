/- Words for leases by value, and which leases are right: what record's rightState and Right, and the document's own Right, come to. For all leases whose keys fit. -/
import Derived.Test.YtlefpodonkdbeaaGreatMathA
import Derived.Test.YtlefpodonkdbeaaGreatDwA
import Derived.Test.YtlefpodonkdbeaaGreatKitA
import Derived.Test.YtlefpodonkdbeaaGreatCoA
section
set_option maxRecDepth 8000
namespace Go.Proofs.YtlefpodonkdbeaaGreat.Ew
open Go.RowKit Co By Ky Rc
open Dw (ba ba_size ba_data ba_list)

/-- A lease by value. -/
@[reducible] def lv (l : L) : Value := .agg #[.int .i64 l.addr, .int .i64 l.state, .int .i64 l.till, .string (ba l.key)]
@[reducible] def lcs (l : L) : Array Value := #[.int .i64 l.addr, .int .i64 l.state, .int .i64 l.till, .string (ba l.key)]
/-- A lease's key is a string that fits. -/
def Fk (l : L) : Prop := l.key.length ≤ 9223372036854775807
theorem keyRight_any (k : List UInt8) (w : World) (hs : k.length ≤ 9223372036854775807) :
    Calls Tryz.prog 105 #[.string (ba k)] w fun e w' => e = .returned (.bool (rightK k)) ∧ w = w' := Kw.right_any (ba k) w hs
theorem refKeyRight_any (k : List UInt8) (w : World) (hs : k.length ≤ 9223372036854775807) :
    Calls Tryz.prog 44 #[.string (ba k)] w fun e w' => e = .returned (.bool (rightK k)) ∧ w = w' := Kw.refRight_any (ba k) w hs
def stB (s : Int) : Bool := decide (1 ≤ s ∧ s ≤ 3)
theorem rightState_any (s : Int) (w : World) :
    Calls Tryz.prog 104 #[.int .i64 s] w fun e w' => e = .returned (.bool (stB s)) ∧ w = w' := by
  have H : Hid (stB s = decide (1 ≤ s ∧ s ≤ 3)) := rfl
  by_cases h1 : s = 1
  · subst h1
    go_enter Tryz.func104, Tryz.ntmps104
    go_wp2
    go_ret
    exact ⟨rfl, rfl⟩
  by_cases h2 : s = 2
  · subst h2
    go_enter Tryz.func104, Tryz.ntmps104
    go_wp2
    go_ret
    exact ⟨rfl, rfl⟩
  by_cases h3 : s = 3
  · subst h3
    go_enter Tryz.func104, Tryz.ntmps104
    go_wp2
    go_ret
    exact ⟨rfl, rfl⟩
  have b1 : (s == 1) = false := by simpa using h1
  have b2 : (s == 2) = false := by simpa using h2
  have b3 : (s == 3) = false := by simpa using h3
  have HF : Hid (stB s = false) := by show _ = _; rw [H.out]; exact decide_eq_false (by omega)
  clear h1 h2 h3 H
  go_enter Tryz.func104, Tryz.ntmps104
  go_wp2
  go_ret
  exact ⟨ret_bool HF.out.symm, rfl⟩
theorem rightR_iff (l : L) : rightR l = (Ad.rightB l.addr && stB l.state && decide (0 ≤ l.till) && decide (l.till ≤ 1125899906842624) && rightK l.key) := by
  rw [Bool.eq_iff_iff, show rightR l = true ↔ RightR l from decide_eq_true_iff]
  unfold RightR stB
  simp only [Bool.and_eq_true, decide_eq_true_eq, Ad.rightB_iff]
  constructor
  · rintro ⟨a, b, ⟨c, d⟩, e⟩
    exact ⟨⟨⟨⟨a, b⟩, c⟩, d⟩, e⟩
  · rintro ⟨⟨⟨⟨a, b⟩, c⟩, d⟩, e⟩
    exact ⟨a, b, ⟨c, d⟩, e⟩
end Go.Proofs.YtlefpodonkdbeaaGreat.Ew
end
/- What record's Right and the document's Right come to. For all leases whose keys fit. -/
section
set_option maxRecDepth 8000
namespace Go.Proofs.YtlefpodonkdbeaaGreat.Ew
open Go.RowKit Co By Ky Rc
open Dw (ba ba_size ba_data ba_list)

set_option maxHeartbeats 1000000 in
theorem right_parts (a s t : Int) (k : List UInt8) (w : World) (hk : k.length ≤ 9223372036854775807) :
    Calls Tryz.prog 73 #[.agg #[.int .i64 a, .int .i64 s, .int .i64 t, .string (ba k)]] w fun e w' => e = .returned (.bool (rightR ⟨a, s, t, k⟩)) ∧ Below w.heap.size w w' := by
  have H := Lib.hid (rightR_iff ⟨a, s, t, k⟩)
  have hb : ∀ x, Below w.heap.size w (w.alloc x) := fun x => (Below.refl _ _).alloc (Nat.le_refl _) _
  have HA := Lib.hid (fun W => Aw.right_any a W)
  have HS := Lib.hid (fun W => rightState_any s W)
  have HK := Lib.hid (fun W => keyRight_any k W hk)
  simp only at H
  generalize Ad.rightB a = b1 at H HA
  generalize stB s = b2 at H HS
  generalize rightK k = b5 at H HK
  cases b1 with
  | false =>
    go_enter Tryz.func73, Tryz.ntmps73
    go_wp2_with fail
    refine (HA.out _).mono ?_
    rintro e w1 ⟨rfl, rfl⟩
    go_wp2
    go_ret
    exact ⟨ret_bool (by rw [H.out]; rfl), hb _⟩
  | true =>
  cases b2 with
  | false =>
    go_enter Tryz.func73, Tryz.ntmps73
    go_wp2_with fail
    refine (HA.out _).mono ?_
    rintro e w1 ⟨rfl, rfl⟩
    go_wp2_with fail
    refine (HS.out _).mono ?_
    rintro e w1 ⟨rfl, rfl⟩
    go_wp2
    go_ret
    exact ⟨ret_bool (by rw [H.out]; rfl), hb _⟩
  | true =>
  by_cases t0 : 0 ≤ t
  rotate_left
  · have d0 : decide (0 ≤ t) = false := decide_eq_false t0
    have HF : Hid (rightR ⟨a, s, t, k⟩ = false) := by show _ = _; rw [H.out, d0]; rfl
    clear d0 H
    go_enter Tryz.func73, Tryz.ntmps73
    go_wp2_with fail
    refine (HA.out _).mono ?_
    rintro e w1 ⟨rfl, rfl⟩
    go_wp2_with fail
    refine (HS.out _).mono ?_
    rintro e w1 ⟨rfl, rfl⟩
    go_wp2
    go_ret
    exact ⟨ret_bool HF.out.symm, hb _⟩
  by_cases t1 : t ≤ 1125899906842624
  rotate_left
  · have d0 : decide (t ≤ 1125899906842624) = false := decide_eq_false t1
    have HF : Hid (rightR ⟨a, s, t, k⟩ = false) := by show _ = _; rw [H.out, d0]; simp
    clear d0 H
    go_enter Tryz.func73, Tryz.ntmps73
    go_wp2_with fail
    refine (HA.out _).mono ?_
    rintro e w1 ⟨rfl, rfl⟩
    go_wp2_with fail
    refine (HS.out _).mono ?_
    rintro e w1 ⟨rfl, rfl⟩
    go_wp2
    go_ret
    exact ⟨ret_bool HF.out.symm, hb _⟩
  have HF : Hid (rightR ⟨a, s, t, k⟩ = b5) := by show _ = _; rw [H.out, decide_eq_true t0, decide_eq_true t1]; simp
  clear H
  go_enter Tryz.func73, Tryz.ntmps73
  go_wp2_with fail
  refine (HA.out _).mono ?_
  rintro e w1 ⟨rfl, rfl⟩
  go_wp2_with fail
  refine (HS.out _).mono ?_
  rintro e w1 ⟨rfl, rfl⟩
  go_wp2_with fail
  refine (HK.out _).mono ?_
  rintro e w1 ⟨rfl, rfl⟩
  go_wp2
  go_ret
  exact ⟨ret_bool HF.out.symm, hb _⟩
theorem right_any (l : L) (w : World) (hk : Fk l) :
    Calls Tryz.prog 73 #[lv l] w fun e w' => e = .returned (.bool (rightR l)) ∧ Below w.heap.size w w' := right_parts l.addr l.state l.till l.key w hk

set_option maxHeartbeats 2000000 in
theorem refRight_parts (a s t : Int) (k : List UInt8) (w : World) (hk : k.length ≤ 9223372036854775807) :
    Calls Tryz.prog 23 #[.agg #[.int .i64 a, .int .i64 s, .int .i64 t, .string (ba k)]] w fun e w' => e = .returned (.bool (rightR ⟨a, s, t, k⟩)) ∧ Below w.heap.size w w' := by
  have H := Lib.hid (rightR_iff ⟨a, s, t, k⟩)
  have hb : ∀ x, Below w.heap.size w (w.alloc x) := fun x => (Below.refl _ _).alloc (Nat.le_refl _) _
  have HA := Lib.hid (fun W => Aw.refRight_any a W)
  have HK := Lib.hid (fun W => refKeyRight_any k W hk)
  simp only at H
  generalize Ad.rightB a = b1 at H HA
  generalize rightK k = b5 at H HK
  cases b1 with
  | false =>
    go_enter Tryz.func23, Tryz.ntmps23
    go_wp2_with fail
    refine (HA.out _).mono ?_
    rintro e w1 ⟨rfl, rfl⟩
    go_wp2
    go_ret
    exact ⟨ret_bool (by rw [H.out]; rfl), hb _⟩
  | true =>
  cases b5 with
  | false =>
    go_enter Tryz.func23, Tryz.ntmps23
    go_wp2_with fail
    refine (HA.out _).mono ?_
    rintro e w1 ⟨rfl, rfl⟩
    go_wp2_with fail
    refine (HK.out _).mono ?_
    rintro e w1 ⟨rfl, rfl⟩
    go_wp2
    go_ret
    exact ⟨ret_bool (by rw [H.out]; simp), hb _⟩
  | true =>
  have HF : Hid (rightR ⟨a, s, t, k⟩ = decide ((1 ≤ s ∧ s ≤ 3) ∧ 0 ≤ t ∧ t ≤ 1125899906842624)) := by
    show _ = _
    rw [H.out, Bool.eq_iff_iff]
    unfold stB
    simp only [Bool.and_eq_true, decide_eq_true_eq, and_true, true_and]
    omega
  clear H
  have hst : s = 1 ∨ s = 2 ∨ s = 3 ∨ ((s == 1) = false ∧ (s == 2) = false ∧ (s == 3) = false) := by
    simp only [beq_eq_false_iff_ne]
    omega
  rcases hst with rfl | rfl | rfl | ⟨b1, b2, b3⟩
  rotate_right
  · have HG : Hid (rightR ⟨a, s, t, k⟩ = false) := by show _ = _; rw [HF.out]; simp only [beq_eq_false_iff_ne] at b1 b2 b3; exact decide_eq_false (by omega)
    clear HF
    go_enter Tryz.func23, Tryz.ntmps23
    go_wp2_with fail
    refine (HA.out _).mono ?_
    rintro e w1 ⟨rfl, rfl⟩
    go_wp2_with fail
    refine (HK.out _).mono ?_
    rintro e w1 ⟨rfl, rfl⟩
    go_wp2
    go_ret
    exact ⟨ret_bool HG.out.symm, hb _⟩
  all_goals
    by_cases t0 : 0 ≤ t
    rotate_left
    · go_enter Tryz.func23, Tryz.ntmps23
      go_wp2_with fail
      refine (HA.out _).mono ?_
      rintro e w1 ⟨rfl, rfl⟩
      go_wp2_with fail
      refine (HK.out _).mono ?_
      rintro e w1 ⟨rfl, rfl⟩
      go_wp2
      go_ret
      exact ⟨ret_bool (by rw [HF.out]; first | (rw [decide_eq_decide]; omega) | exact (decide_eq_false (by omega)).symm), hb _⟩
    by_cases t1 : t ≤ 1125899906842624
    · go_enter Tryz.func23, Tryz.ntmps23
      go_wp2_with fail
      refine (HA.out _).mono ?_
      rintro e w1 ⟨rfl, rfl⟩
      go_wp2_with fail
      refine (HK.out _).mono ?_
      rintro e w1 ⟨rfl, rfl⟩
      go_wp2
      go_ret
      exact ⟨ret_bool (by rw [HF.out]; first | (rw [decide_eq_decide]; omega) | exact (decide_eq_true (by omega)).symm), hb _⟩
    · go_enter Tryz.func23, Tryz.ntmps23
      go_wp2_with fail
      refine (HA.out _).mono ?_
      rintro e w1 ⟨rfl, rfl⟩
      go_wp2_with fail
      refine (HK.out _).mono ?_
      rintro e w1 ⟨rfl, rfl⟩
      go_wp2
      go_ret
      exact ⟨ret_bool (by rw [HF.out]; first | (rw [decide_eq_decide]; omega) | exact (decide_eq_false (by omega)).symm), hb _⟩
theorem refRight_any (l : L) (w : World) (hk : Fk l) :
    Calls Tryz.prog 23 #[lv l] w fun e w' => e = .returned (.bool (rightR l)) ∧ Below w.heap.size w w' := refRight_parts l.addr l.state l.till l.key w hk
end Go.Proofs.YtlefpodonkdbeaaGreat.Ew
end
/- What record's Write and the document's Write come to. For all leases whose keys fit (the document's own: of right ones). -/
section
set_option maxRecDepth 8000
namespace Go.Proofs.YtlefpodonkdbeaaGreat.Ew
open Go.RowKit Co By Ky Rc
open Dw (ba ba_size ba_data ba_list)

/-- '[]byte(s)': a new row. -/
theorem conv_bs (k : List UInt8) (w : World) (hk : k.length ≤ 9223372036854775807) : ∃ c w', (convert 9 61 (.string (ba k))).run Tryz.prog w = .ok (.slice (some ⟨w.heap.size, 0, none⟩) k.length c) w' ∧ Below w.heap.size w w' ∧ w.heap.size < w'.heap.size ∧
    Bs w' (some ⟨w.heap.size, 0, none⟩) k.length c k := by
  have hz : (ba k).size = k.length := ba_size k
  refine ⟨_, _, run_bytes_of_string w _ _ _ (ba k) Tryz.underlying9 Tryz.underlying61 Tryz.underlying5, ?_, ?_, rfl, ?_, ?_, fun _ => ⟨w.heap.size, 0, rfl, fun i hi => ?_⟩⟩
  · exact ((Below.refl _ _).drew).alloc (Nat.le_refl _) _
  · simp
  · have := grownCap_ge w (ba k).size 0 5
    omega
  · exact grownCap_le_maxLen w _ 0 _ (by unfold maxLen; omega)
  · rw [Nat.zero_add]
    show (World.alloc w.drew _).cell? ⟨w.drew.heap.size, i, none⟩ = _
    rw [World.cell?_alloc_mark, bytesRow_at (ba k) _ i (by show i < k.toArray.size; simpa using hi)]
    rfl
theorem parts4 {w : World} {A1 A2 A3 A4 : Option Addr} {n1 n2 n3 n4 c1 c2 c3 c4 : Nat} {l1 l2 l3 l4 : List UInt8} {t : Nat} (h1 : Bs w A1 n1 c1 l1) (h2 : Bs w A2 n2 c2 l2) (h3 : Bs w A3 n3 c3 l3) (h4 : Bs w A4 n4 c4 l4) :
    Cw.PartsAt (w.alloc (.cells #[.slice A1 n1 c1, .slice A2 n2 c2, .slice A3 n3 c3, .slice A4 n4 c4] t)) w.heap.size 0 [⟨A1, c1, l1⟩, ⟨A2, c2, l2⟩, ⟨A3, c3, l3⟩, ⟨A4, c4, l4⟩] := by
  obtain rfl := h1.len
  obtain rfl := h2.len
  obtain rfl := h3.len
  obtain rfl := h4.len
  intro i hi
  match i, hi with
  | 0, _ => exact ⟨World.cell?_alloc_mark w _ t (0, 0) 0, h1.alloc _⟩
  | 1, _ => exact ⟨World.cell?_alloc_mark w _ t (0, 0) 1, h2.alloc _⟩
  | 2, _ => exact ⟨World.cell?_alloc_mark w _ t (0, 0) 2, h3.alloc _⟩
  | 3, _ => exact ⟨World.cell?_alloc_mark w _ t (0, 0) 3, h4.alloc _⟩
/-- What a call of Write answers. -/
def WrR (w : World) (p : List UInt8 × Int) (e : Ending) (w' : World) : Prop := ∃ A n c, e = .returned (.tuple #[.slice A n c, .int .i64 p.2]) ∧ Own 5 w.heap.size w' A n c p.1 ∧ Below w.heap.size w w'
theorem cel4 {w : World} {g : Nat} {t : TypeId} {a b c d : Value} (h : Cel w g t #[a, b, c, d]) : w.cell? ⟨g, 0, none⟩ = some a ∧ w.cell? ⟨g, 1, none⟩ = some b ∧ w.cell? ⟨g, 2, none⟩ = some c ∧ w.cell? ⟨g, 3, none⟩ = some d := ⟨by rw [h.cell]; rfl, by rw [h.cell]; rfl, by rw [h.cell]; rfl, by rw [h.cell]; rfl⟩
theorem write_no (l : L) (w : World) (hk : Fk l) (hr : ¬ RightR l) :
    Calls Tryz.prog 54 #[lv l] w fun e w' => e = .returned (.tuple #[.slice none 0 0, .int .i64 1]) ∧ Below w.heap.size w w' := by
  have HR := Lib.hid (fun W => right_any l W hk)
  rw [show rightR l = false from decide_eq_false hr] at HR
  have hb0 : ∀ x, Below w.heap.size w (w.alloc x) := fun x => (Below.refl _ _).alloc (Nat.le_refl _) _
  clear hr
  go_enter Tryz.func54, Tryz.ntmps54
  go_wp2_with fail
  refine (HR.out _).mono ?_
  rintro e w1 ⟨rfl, hb1⟩
  have hb2 := (hb0 _).trans (hb1.mono (hb0 (.cells (lcs l) 56)).size)
  go_wp2
  go_ret2
  exact ⟨rfl, hb2⟩
set_option maxHeartbeats 2000000 in
theorem write_nat (a s t : Nat) (k : List UInt8) (w : World) (ha : a ≤ 4294967295) (hs : s ≤ 3) (ht : t ≤ 1125899906842624) (hk : k.length ≤ 256) (hr : rightR ⟨a, s, t, k⟩ = true) :
    Calls Tryz.prog 54 #[lv ⟨a, s, t, k⟩] w (RB 5 w (12 + k.length) (putL a 4 ++ putL s 1 ++ putL t 7 ++ k) fun x => .tuple #[x, .int .i64 0]) := by
  have HR := Lib.hid (fun W => right_any ⟨a, s, t, k⟩ W (show k.length ≤ _ by omega))
  rw [hr] at HR
  obtain ⟨w0, hw0⟩ : ∃ w0, w0 = w.alloc (.cells (lcs ⟨a, s, t, k⟩) 56) := ⟨_, rfl⟩
  have hb0 : Below w.heap.size w w0 := by rw [hw0]; exact (Below.refl _ _).alloc (Nat.le_refl _) _
  have HC0 := Lib.hid (show Cel w0 w.heap.size 56 (lcs ⟨a, s, t, k⟩) by rw [hw0]; exact Cel.born _ _ _)
  have HB0 := Lib.hid hb0
  clear hr hb0
  go_enter Tryz.func54, Tryz.ntmps54
  go_wp2_with fail
  rw [← hw0]
  clear hw0
  refine (HR.out _).mono ?_
  rintro e w1 ⟨rfl, hb1⟩
  have HB1 := Lib.hid (HB0.out.trans (hb1.mono HB0.out.size))
  have HC1 := Lib.hid (HC0.out.below hb1 HC0.out.lt)
  clear hb1 HC0 HB0
  obtain ⟨q0, q1, q2, q3⟩ := cel4 HC1.out
  go_wp2_with fail
  refine (Cw.put_ok a 4 _ (by omega) (by omega) (by show _ < 4294967296; omega)).mono ?_
  rintro e w2 ⟨A2, c2, rfl, hown2, hb2⟩
  have HB2 := Lib.hid (HB1.out.trans (hb2.mono HB1.out.size))
  have HC2 := Lib.hid (HC1.out.below hb2 HC1.out.lt)
  clear hb2 HC1 HB1 q0 q1 q2 q3
  obtain ⟨q0, q1, q2, q3⟩ := cel4 HC2.out
  have HO2 := Lib.hid hown2
  clear hown2
  go_wp2_with fail
  refine (Cw.put_ok s 1 _ (by omega) (by omega) (by show _ < 256; omega)).mono ?_
  rintro e w3 ⟨A3, c3, rfl, hown3, hb3⟩
  have HB3 := Lib.hid (HB2.out.trans (hb3.mono HB2.out.size))
  have HC3 := Lib.hid (HC2.out.below hb3 HC2.out.lt)
  have HO2' := Lib.hid (HO2.out.below hb3)
  clear hb3 HC2 HB2 q0 q1 q2 q3 HO2
  obtain ⟨q0, q1, q2, q3⟩ := cel4 HC3.out
  have HO3 := Lib.hid hown3
  clear hown3
  go_wp2_with fail
  refine (Cw.put_ok t 7 _ (by omega) (by omega) (by show _ < 72057594037927936; omega)).mono ?_
  rintro e w4 ⟨A4, c4, rfl, hown4, hb4⟩
  have HB4 := Lib.hid (HB3.out.trans (hb4.mono HB3.out.size))
  have HC4 := Lib.hid (HC3.out.below hb4 HC3.out.lt)
  have HO2 := Lib.hid (HO2'.out.below hb4)
  have HO3' := Lib.hid (HO3.out.below hb4)
  clear hb4 HC3 HB3 q0 q1 q2 q3 HO2' HO3
  obtain ⟨q0, q1, q2, q3⟩ := cel4 HC4.out
  obtain ⟨c5, w5, hcv, hb5, _, hbs5⟩ := conv_bs k w4 (by omega)
  have hP := parts4 (t := 61) ((HO2.out.below hb5).bs) ((HO3'.out.below hb5).bs) ((hown4.below hb5).bs) hbs5
  have hlen : Cw.totL [⟨A2, c2, putL a 4⟩, ⟨A3, c3, putL s 1⟩, ⟨A4, c4, putL t 7⟩, ⟨some ⟨w4.heap.size, 0, none⟩, c5, k⟩] = 12 + k.length := by
    simp [Cw.totL, putL_length]
    omega
  have hcat : Cw.catL [⟨A2, c2, putL a 4⟩, ⟨A3, c3, putL s 1⟩, ⟨A4, c4, putL t 7⟩, ⟨some ⟨w4.heap.size, 0, none⟩, c5, k⟩] = putL a 4 ++ putL s 1 ++ putL t 7 ++ k := by
    simp [Cw.catL]
  have hcc := Cw.concat_any w5.heap.size 0 4 4 _ _ hP rfl (by omega) (by omega) (by rw [hlen]; omega)
  rw [hlen, hcat] at hcc
  have HCC := Lib.hid hcc
  have HB5 := Lib.hid (HB4.out.trans (hb5.mono HB4.out.size))
  clear hcc hP hlen hcat hbs5 hb5 hown4 HO2 HO3' HC4
  go_wp2_with fail
  refine HCC.out.mono ?_
  rintro e w6 ⟨A6, c6, rfl, hown6, hb6⟩
  have hba : Below w.heap.size w (w5.alloc (Obj.cells #[.slice A2 4 c2, .slice A3 1 c3, .slice A4 7 c4, .slice (some ⟨w4.heap.size, 0, none⟩) k.length c5] 61)) := HB5.out.alloc HB5.out.size _
  clear q0 q1 q2 q3 hcv
  go_wp2
  go_ret2
  exact ⟨A6, c6, rfl, hown6.mono hba.size, hba.trans (hb6.mono hba.size)⟩
theorem enc_nat (a s t : Nat) (k : List UInt8) : encR ⟨a, s, t, k⟩ = putL a 4 ++ putL s 1 ++ putL t 7 ++ k := by
  unfold encR
  show putL ((a : Int).toNat) 4 ++ (UInt8.ofNat ((s : Int).toNat) :: (putL ((t : Int).toNat) 7 ++ k)) = _
  have e : putL s 1 = [UInt8.ofNat s] := by
    show [] ++ [byteV s] = _
    rw [List.nil_append]
    congr 1
    exact UInt8.toNat_inj.1 (by rw [byteV_toNat, UInt8.toNat_ofNat'])
  rw [Int.toNat_natCast, Int.toNat_natCast, Int.toNat_natCast, e, List.append_assoc, List.append_assoc]
  rfl
theorem right_nat {l : L} (h : RightR l) : ∃ a s t : Nat, l = ⟨a, s, t, l.key⟩ ∧ a ≤ 4294967295 ∧ 1 ≤ s ∧ s ≤ 3 ∧ t ≤ 1125899906842624 ∧ l.key.length ≤ 256 := by
  obtain ⟨⟨a0, a1⟩, ⟨s0, s1⟩, ⟨t0, t1⟩, hk⟩ := h
  obtain ⟨a, s, t, k⟩ := l
  simp only at *
  obtain ⟨a, rfl⟩ := Int.eq_ofNat_of_zero_le a0
  obtain ⟨s, rfl⟩ := Int.eq_ofNat_of_zero_le (show 0 ≤ s by omega)
  obtain ⟨t, rfl⟩ := Int.eq_ofNat_of_zero_le t0
  exact ⟨a, s, t, rfl, by omega, by omega, by omega, by omega, (text_len hk).2.2⟩
theorem write_any (l : L) (w : World) (hk : Fk l) : Calls Tryz.prog 54 #[lv l] w (WrR w (writeR l)) := by
  by_cases hr : RightR l
  · rw [show writeR l = (encR l, 0) from if_pos hr]
    obtain ⟨a, s, t, e, h1, _, h3, h4, h5⟩ := right_nat hr
    have he := enc_nat a s t l.key
    rw [← e] at he
    have hd : rightR ⟨a, s, t, l.key⟩ = true := by rw [← e]; exact decide_eq_true hr
    have := write_nat a s t l.key w h1 h3 h4 h5 hd
    rw [← e, ← he] at this
    refine this.mono ?_
    rintro e w1 ⟨A, c, rfl, ho, hb⟩
    exact ⟨A, _, c, rfl, ho, hb⟩
  · rw [show writeR l = ([], 1) from if_neg hr]
    refine (write_no l w hk hr).mono ?_
    rintro e w1 ⟨rfl, hb⟩
    exact ⟨none, 0, 0, rfl, Own.nil _ _ _, hb⟩
end Go.Proofs.YtlefpodonkdbeaaGreat.Ew
end
/- Words for a lease in a block of its own: its four cells, stores to them, and a call that returns it. -/
section
set_option maxRecDepth 8000
namespace Go.Proofs.YtlefpodonkdbeaaGreat.Ew
open Go.RowKit Co By Ky Rc
open Dw (ba ba_size ba_data ba_list)

theorem celFr {w : World} {g : Nat} {t : TypeId} {cs : Array Value} (h : Cel w g t cs) (i : Nat) : w.frozen? ⟨g, i, none⟩ = false := by
  unfold Cel at h
  simp [World.frozen?, h]
theorem celPut {w : World} {g : Nat} {t : TypeId} {cs : Array Value} (h : Cel w g t cs) (i : Nat) (v : Value) : Cel (w.setCell ⟨g, i, none⟩ v) g t (cs.setIfInBounds i v) := by
  unfold Cel at *
  rw [setCell_eq_setRow w g i cs t (0, 0) v h]
  exact setRow_heap w g cs _ t _ h
theorem celFar {w : World} {g g' : Nat} {t : TypeId} {cs : Array Value} (h : Cel w g t cs) (i : Nat) (v : Value) (hne : g ≠ g') : Cel (w.setCell ⟨g', i, none⟩ v) g t cs := by
  unfold Cel at *
  rw [Below.heap_setCell w ⟨g', i, none⟩ v g hne]
  exact h
theorem celFr4 {w : World} {g : Nat} {t : TypeId} {cs : Array Value} (h : Cel w g t cs) : w.frozen? ⟨g, 0, none⟩ = false ∧ w.frozen? ⟨g, 1, none⟩ = false ∧ w.frozen? ⟨g, 2, none⟩ = false ∧ w.frozen? ⟨g, 3, none⟩ = false := ⟨celFr h 0, celFr h 1, celFr h 2, celFr h 3⟩
/-- The lease l stored to the block g whole. -/
@[reducible] def put4 (w : World) (g : Nat) (l : L) : World := (((w.setCell ⟨g, 0, none⟩ (.int .i64 l.addr)).setCell ⟨g, 1, none⟩ (.int .i64 l.state)).setCell ⟨g, 2, none⟩ (.int .i64 l.till)).setCell ⟨g, 3, none⟩ (.string (ba l.key))
theorem celPut4 {w : World} {g : Nat} {t : TypeId} {m l : L} (h : Cel w g t (lcs m)) : Cel (put4 w g l) g t (lcs l) := celPut (celPut (celPut (celPut h 0 _) 1 _) 2 _) 3 _
theorem belowPut4 {B : Nat} {v w : World} (h : Below B v w) {g : Nat} (hg : B ≤ g) (l : L) : Below B v (put4 w g l) :=
  (((h.setCell (p := ⟨g, 0, none⟩) hg _).setCell (p := ⟨g, 1, none⟩) hg _).setCell (p := ⟨g, 2, none⟩) hg _).setCell (p := ⟨g, 3, none⟩) hg _
theorem cellPut4 (w : World) (g : Nat) (l : L) (p : Addr) (h : p.block ≠ g) : (put4 w g l).cell? p = w.cell? p := by
  simp only [put4, World.cell?]
  rw [Below.heap_setCell _ ⟨g, 3, none⟩ _ p.block h, Below.heap_setCell _ ⟨g, 2, none⟩ _ p.block h, Below.heap_setCell _ ⟨g, 1, none⟩ _ p.block h, Below.heap_setCell _ ⟨g, 0, none⟩ _ p.block h]
theorem ret_lease2 {fn : Func} {p u : Tmp} (hres : fn.results = #[.cell p 56, .tmp u]) (tmps : Array Value) (w : World) (g : Nat) (l : L) (hp : tmps.getD p undef = .pointer (some ⟨g, 0, none⟩)) (hc : Cel w g 56 (lcs l)) :
    (results fn tmps).run Tryz.prog w = .ok (.tuple #[lv l, tmps.getD u undef]) w := by
  rw [results_cell_tmp hres, hp]
  have := run_loadVar_row (P := Tryz.prog) w g 56 56 (lcs l) (0, 0) _ hc Tryz.underlying56 rfl (by kernel_rfl)
  simp [asAddr, this]
/-- What a call that answers a lease and an error answers. -/
def RdL (w : World) (p : L × Int) (e : Ending) (w' : World) : Prop := e = .returned (.tuple #[lv p.1, .int .i64 p.2]) ∧ Below w.heap.size w w'
theorem val_one {l : List UInt8} (h : 4 < l.length) : valL ((l.drop 4).take 1) = (l.getD 4 0).toNat := by
  rw [List.drop_eq_getElem_cons h, List.take_succ_cons, List.take_zero, List.getD_eq_getElem?_getD, List.getElem?_eq_getElem h]
  show 0 * 256 + _ = _
  simp
end Go.Proofs.YtlefpodonkdbeaaGreat.Ew
end
/- What record's Read comes to, its closure and the function that makes it. For all bytes. -/
section
set_option maxRecDepth 8000
namespace Go.Proofs.YtlefpodonkdbeaaGreat.Ew
open Go.RowKit Co By Ky Rc
open Dw (ba ba_size ba_data ba_list)

/-- What numbersOf leaves: the bytes in a box, the place in another one, and the function over both. -/
def NuR (w : World) (A : Option Addr) (n c : Nat) (e : Ending) (w' : World) : Prop :=
  e = .returned (.func (.func 119) #[] #[.pointer (some ⟨w.heap.size, 0, none⟩), .pointer (some ⟨w.heap.size + 1, 0, none⟩)]) ∧
  Cel w' w.heap.size 61 #[.slice A n c] ∧ Cel w' (w.heap.size + 1) 3 #[.int .i64 0] ∧ Below w.heap.size w w'
theorem numbersOf_any (A : Option Addr) (n c : Nat) (w : World) : Calls Tryz.prog 97 #[.slice A n c] w (NuR w A n c) := by
  have hb : Below w.heap.size w ((w.alloc (.cells #[.slice A n c] 61)).alloc (.cells #[.int .i64 0] 3)) := ((Below.refl _ _).alloc (Nat.le_refl _) _).alloc (by simp) _
  have h1 : Cel ((w.alloc (.cells #[.slice A n c] 61)).alloc (.cells #[.int .i64 0] 3)) w.heap.size 61 #[.slice A n c] := (Cel.born w _ _).below (((Below.refl _ _).alloc (Nat.le_refl _) _)) (by simp)
  have h2 : Cel ((w.alloc (.cells #[.slice A n c] 61)).alloc (.cells #[.int .i64 0] 3)) (w.heap.size + 1) 3 #[.int .i64 0] := by
    have := Cel.born (w.alloc (.cells #[.slice A n c] 61)) 3 #[.int .i64 0]
    simpa using this
  have H1 := Lib.hid h1
  have H2 := Lib.hid h2
  clear h1 h2
  go_enter Tryz.func97, Tryz.ntmps97
  go_wp2
  go_ret
  exact ⟨rfl, H1.out, H2.out, hb⟩
/-- What the function leaves: the number, and the place behind it. -/
def NxR (U : Nat) (w : World) (A : Option Addr) (n c g h k m V : Nat) (e : Ending) (w' : World) : Prop :=
  e = .returned (.int .i64 (V : Nat)) ∧ Cel w' g 61 #[.slice A n c] ∧ Cel w' h 3 #[.int .i64 ((k + m : Nat) : Int)] ∧ Below U w w'
set_option maxHeartbeats 1000000 in
theorem next_any (U : Nat) (A : Option Addr) (n c : Nat) (l : List UInt8) (g h k m : Nat) (w : World) (hbs : Bs w A n c l) (hg : Cel w g 61 #[.slice A n c]) (hh : Cel w h 3 #[.int .i64 (k : Int)]) (hU : U ≤ h) (hne : g ≠ h) (h1 : 1 ≤ m) (h2 : m ≤ 7) (h3 : k + m ≤ n) :
    Calls Tryz.prog 119 #[.int .i64 (m : Int), .pointer (some ⟨g, 0, none⟩), .pointer (some ⟨h, 0, none⟩)] w (NxR U w A n c g h k m (valL ((l.drop k).take m))) := by
  have e1 : w.cell? ⟨g, 0, none⟩ = some (.slice A n c) := by rw [hg.cell]; rfl
  have e2 : w.cell? ⟨h, 0, none⟩ = some (.int .i64 (k : Int)) := by rw [hh.cell]; rfl
  have f2 := celFr hh 0
  have hmx := hbs.max
  have hcp := hbs.cap
  have HG := Lib.hid (Cw.get_ok A n c l k m w hbs h1 h2 h3)
  have HC := Lib.hid hg
  have HH := Lib.hid hh
  generalize valL ((l.drop k).take m) = V at HG
  clear hg hh hbs
  go_enter Tryz.func119, Tryz.ntmps119
  go_wp2_with fail
  refine HG.out.mono ?_
  rintro e w1 ⟨rfl, rfl⟩
  go_wp2
  go_ret
  refine ⟨rfl, celFar HC.out 0 _ hne, ?_, (Below.refl _ _).setCell (p := ⟨h, 0, none⟩) hU _⟩
  have := celPut HH.out 0 (.int .i64 ((k + m : Nat) : Int))
  simpa using this

set_option maxHeartbeats 4000000 in
theorem read_any (A : Option Addr) (n c : Nat) (l : List UInt8) (w : World) (hbs : Bs w A n c l) : Calls Tryz.prog 67 #[.slice A n c] w (RdL w (readR l)) := by
  have HL := Lib.hid hbs.len
  have hmx := hbs.max
  have hcp := hbs.cap
  by_cases h12 : n < 12
  · have H : Hid (readR l = (zeroL, 4)) := by show _ = _; unfold readR; rw [if_pos (by rw [HL.out]; exact h12)]
    go_enter Tryz.func67, Tryz.ntmps67
    go_wp2
    refine bodyPost_ret (ret_lease2 rfl _ _ w.heap.size zeroL rfl (Cel.born _ _ _)) rfl ?_
    exact ⟨by rw [H.out]; rfl, (Below.refl _ _).alloc (Nat.le_refl _) _⟩
  · have HH : Hid (readR l = if RightR (heldR l) then (heldR l, 0) else (zeroL, 2)) := by show _ = _; unfold readR; rw [if_neg (by rw [HL.out]; exact h12)]
    have e1 : valL ((l.drop 4).take 1) = (l.getD 4 0).toNat := val_one (by have := HL.out; omega)
    have HE : Hid (heldR l = ⟨(valL ((l.drop 0).take 4) : Nat), (valL ((l.drop 4).take 1) : Nat), (valL ((l.drop 5).take 7) : Nat), l.drop 12⟩) := by show _ = _; rw [e1]; rfl
    have hfk : (l.drop 12).length ≤ 9223372036854775807 := by have := HL.out; rw [List.length_drop]; omega
    clear e1
    obtain ⟨w0, hw0⟩ : ∃ w0, w0 = w.alloc (.cells #[.int .i64 0, .int .i64 0, .int .i64 0, .string ⟨#[]⟩] 56) := ⟨_, rfl⟩
    have HC0 := Lib.hid (show Cel w0 w.heap.size 56 (lcs zeroL) by rw [hw0]; exact Cel.born _ _ _)
    have HB0 := Lib.hid (show Below w.heap.size w w0 by rw [hw0]; exact (Below.refl _ _).alloc (Nat.le_refl _) _)
    have HS0 := Lib.hid (show w0.heap.size = w.heap.size + 1 by rw [hw0]; simp)
    have hg0 : w.heap.size < w0.heap.size := by have := HS0.out; omega
    have HX := Lib.hid hbs
    clear hbs
    go_enter Tryz.func67, Tryz.ntmps67
    go_wp2_with fail
    rw [← hw0]
    clear hw0
    refine (numbersOf_any A n c w0).mono ?_
    rintro e w1 ⟨rfl, hc1, hd1, hb1⟩
    have HX1 := Lib.hid (HX.out.below (HB0.out.trans (hb1.mono HB0.out.size)))
    have hn1 := next_any w0.heap.size A n c l w0.heap.size (w0.heap.size + 1) 0 4 w1 HX1.out hc1 hd1 (by omega) (by omega) (by omega) (by omega) (by omega)
    have HN1 := Lib.hid hn1
    have HB1 := Lib.hid hb1
    clear hc1 hd1 hb1 hn1
    generalize valL ((l.drop 0).take 4) = V0 at HN1 HE
    go_wp2_with fail
    refine HN1.out.mono ?_
    rintro e w2 ⟨rfl, hc1, hd1, hb2⟩
    have HB2 := Lib.hid (HB1.out.trans hb2)
    have HX2 := Lib.hid (HX.out.below (HB0.out.trans (HB2.out.mono HB0.out.size)))
    have hn2 := next_any w0.heap.size A n c l w0.heap.size (w0.heap.size + 1) 4 1 w2 HX2.out hc1 hd1 (by omega) (by omega) (by omega) (by omega) (by omega)
    have HN2 := Lib.hid hn2
    clear hc1 hd1 hb2 hn2 HN1 HB1 HX1
    generalize valL ((l.drop 4).take 1) = V1 at HN2 HE
    go_wp2_with fail
    refine HN2.out.mono ?_
    rintro e w3 ⟨rfl, hc1, hd1, hb3⟩
    have HB3 := Lib.hid (HB2.out.trans hb3)
    have HX3 := Lib.hid (HX.out.below (HB0.out.trans (HB3.out.mono HB0.out.size)))
    have hn3 := next_any w0.heap.size A n c l w0.heap.size (w0.heap.size + 1) 5 7 w3 HX3.out hc1 hd1 (by omega) (by omega) (by omega) (by omega) (by omega)
    have HN3 := Lib.hid hn3
    clear hc1 hd1 hb3 hn3 HN2 HB2 HX2
    generalize valL ((l.drop 5).take 7) = V2 at HN3 HE
    go_wp2_with fail
    refine HN3.out.mono ?_
    rintro e w4 ⟨rfl, hc1, hd1, hb4⟩
    have HB4 := Lib.hid (HB3.out.trans hb4)
    have HX4 := Lib.hid (HX.out.below (HB0.out.trans (HB4.out.mono HB0.out.size)))
    clear hc1 hd1 hb4 HN3 HB3 HX3
    obtain ⟨A', hA', hrun⟩ := byP.cut_l HX4.out 12 12 rfl (by omega)
    have hcv : (convert 61 9 (.slice A' (n - 12) (c - 12))).run Tryz.prog w4 = .ok (.string (ba (l.drop 12))) w4 := byP.str hA'
    clear hA'
    generalize l.drop 12 = K at HE hfk hcv
    have hRI := right_any ⟨V0, V1, V2, K⟩ (w4.alloc (.cells (lcs ⟨V0, V1, V2, K⟩) 56)) hfk
    obtain ⟨w5, hw5⟩ : ∃ w5, w5 = w4.alloc (.cells (lcs ⟨V0, V1, V2, K⟩) 56) := ⟨_, rfl⟩
    have HC5 := Lib.hid (show Cel w5 w4.heap.size 56 (lcs ⟨V0, V1, V2, K⟩) by rw [hw5]; exact Cel.born _ _ _)
    have HB5 := Lib.hid (show Below w4.heap.size w4 w5 by rw [hw5]; exact (Below.refl _ _).alloc (Nat.le_refl _) _)
    rw [← hw5] at hRI
    have HRI := Lib.hid hRI
    have hs4 := HB4.out.size
    have HB05 := Lib.hid (HB4.out.trans (HB5.out.mono hs4))
    have HR5 := Lib.hid (HC0.out.below HB05.out hg0)
    clear hRI
    go_wp2_with fail
    rw [← hw5]
    clear hw5 hcv hrun
    refine HRI.out.mono ?_
    rintro e w6 ⟨rfl, hb6⟩
    have hc6 := HC5.out.below hb6 HC5.out.lt
    have hr6 := HR5.out.below hb6 HR5.out.lt
    have HB6 := Lib.hid (HB0.out.trans ((HB05.out.trans (hb6.mono HB05.out.size)).mono HB0.out.size))
    obtain ⟨p0, p1, p2, p3⟩ := cel4 hc6
    obtain ⟨f0, f1, f2, f3⟩ := celFr4 hr6
    obtain ⟨z0, z1, z2, z3⟩ := cel4 hr6
    have HR6 := Lib.hid hr6
    clear hr6 hc6 hb6
    cases hr : rightR ⟨V0, V1, V2, K⟩ with
    | true =>
      have H : Hid (readR l = (⟨V0, V1, V2, K⟩, 0)) := by show _ = _; rw [HH.out, HE.out, if_pos (of_decide_eq_true hr)]
      clear hr
      obtain ⟨w7, hw7⟩ : ∃ w7, w7 = (((w6.setCell ⟨w.heap.size, 0, none⟩ (.int .i64 (V0 : Int))).setCell ⟨w.heap.size, 1, none⟩ (.int .i64 (V1 : Int))).setCell ⟨w.heap.size, 2, none⟩ (.int .i64 (V2 : Int))).setCell ⟨w.heap.size, 3, none⟩ (.string (ba K)) := ⟨_, rfl⟩
      have HC7 := Lib.hid (show Cel w7 w.heap.size 56 (lcs ⟨V0, V1, V2, K⟩) by rw [hw7]; exact celPut4 (l := ⟨V0, V1, V2, K⟩) HR6.out)
      have HB7 := Lib.hid (show Below w.heap.size w w7 by rw [hw7]; exact belowPut4 HB6.out (Nat.le_refl _) ⟨V0, V1, V2, K⟩)
      go_wp2
      rw [← hw7]
      clear hw7
      (try simp only [Exit.inBlock, Exit.then])
      refine bodyPost_ret (ret_lease2 rfl _ _ w.heap.size ⟨V0, V1, V2, K⟩ rfl HC7.out) rfl ?_
      exact ⟨by rw [H.out]; rfl, HB7.out⟩
    | false =>
      have H : Hid (readR l = (zeroL, 2)) := by show _ = _; rw [HH.out, if_neg (by rw [HE.out]; exact of_decide_eq_false hr)]
      clear hr
      obtain ⟨w7, hw7⟩ : ∃ w7, w7 = (((w6.setCell ⟨w.heap.size, 0, none⟩ (.int .i64 0)).setCell ⟨w.heap.size, 1, none⟩ (.int .i64 0)).setCell ⟨w.heap.size, 2, none⟩ (.int .i64 0)).setCell ⟨w.heap.size, 3, none⟩ (.string ⟨#[]⟩) := ⟨_, rfl⟩
      have HC7 := Lib.hid (show Cel w7 w.heap.size 56 (lcs zeroL) by rw [hw7]; exact celPut4 (l := zeroL) HR6.out)
      have HB7 := Lib.hid (show Below w.heap.size w w7 by rw [hw7]; exact belowPut4 HB6.out (Nat.le_refl _) zeroL)
      go_wp2
      rw [← hw7]
      clear hw7
      (try simp only [Exit.inBlock, Exit.then])
      refine bodyPost_ret (ret_lease2 rfl _ _ w.heap.size zeroL rfl HC7.out) rfl ?_
      exact ⟨by rw [H.out]; rfl, HB7.out⟩
end Go.Proofs.YtlefpodonkdbeaaGreat.Ew
end
