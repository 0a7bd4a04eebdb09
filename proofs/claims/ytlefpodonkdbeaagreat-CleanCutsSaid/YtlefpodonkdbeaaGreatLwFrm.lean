/- What clean's framesOf comes to: the frames of leases, in their order, if all are right and the frames have room. For rows of less than 100000 leases whose keys fit. -/
import Derived.Test.YtlefpodonkdbeaaGreatJwKit
import Derived.Test.YtlefpodonkdbeaaGreatMathA
import Derived.Test.YtlefpodonkdbeaaGreatCoA
import Derived.Test.YtlefpodonkdbeaaGreatEwA
import Derived.Test.YtlefpodonkdbeaaGreatDwE
set_option maxRecDepth 8000
namespace Go.Proofs.YtlefpodonkdbeaaGreat.Lw
open Go.RowKit Co By Ky Rc Dk Jn Ew Jw La
open Dw (ba ba_size ba_data ba_list alloc_more)

theorem wrong_any (l : L) (w : World) (hk : Fk l) : Calls Tryz.prog 58 #[lv l] w fun e w' => e = .returned (.bool (!rightR l)) ∧ Below w.heap.size w w' := by
  obtain ⟨w1, hw1⟩ : ∃ w1, w1 = w.alloc (.cells (lcs l) 56) := ⟨_, rfl⟩
  have hb1 : Below w.heap.size w w1 := by rw [hw1]; exact (Below.refl _ _).alloc (Nat.le_refl _) _
  have HC := Lib.hid (right_any l w1 hk)
  have HB1 := Lib.hid hb1
  clear hb1
  generalize rightR l = r at HC ⊢
  go_enter Tryz.func58, Tryz.ntmps58
  go_wp2_with fail
  rw [← hw1]
  clear hw1
  refine HC.out.mono ?_
  rintro e w2 ⟨rfl, hb2⟩
  have HB2 := Lib.hid (HB1.out.trans (hb2.mono HB1.out.size))
  clear hb2 HC
  go_wp2
  go_ret
  exact ⟨rfl, HB2.out⟩
def allR (l : List L) : Prop := ∀ a ∈ l, RightR a
instance (l : List L) : Decidable (allR l) := by unfold allR; infer_instance
theorem indexW_any (A : Option Addr) (n c : Nat) (ls : List L) (w : World) (h : RdLs w.heap.size w A n c ls) (hfk : ∀ a ∈ ls, Fk a) :
    Calls Tryz.prog 80 #[.slice A n c, .func (.func 58) #[] #[]] w fun e w' => (∃ i : Int, e = .returned (.int .i64 i) ∧ decide (0 ≤ i) = !decide (allR ls)) ∧ Below w.heap.size w w' := by
  have hl := Lib.hid h.len
  have HF := Lib.hid hfk
  have HX := Lib.hid h
  have hm := h.max
  have hcap := h.cap
  clear h hfk
  go_enter Tryz.func80, Tryz.ntmps80
  go_wp2
  go_loopw [8] (fun i wr => ∃ k : Nat, k ≤ n ∧ i = .int .i64 k ∧ Hid (allR (ls.take k)) ∧ Hid (Below w.heap.size w wr)) (fun i _ => n - (intOf i).toNat)
  case atStart => exact ⟨0, by omega, rfl, (fun f hf => by cases hf), Below.refl _ _⟩
  case round =>
    obtain ⟨k, hk, rfl, HS, HBW⟩ := hrel
    by_cases hlt : k < n
    · obtain ⟨b, o, a, rfl, _, HE, c0, c1, c2, c3⟩ := atL (HX.out.below HBW.out) hlt
      have HM := Lib.hid (List.mem_of_getElem? HE.out)
      have HC := Lib.hid (wrong_any a wr (HF.out a HM.out))
      have HT : Hid (ls.take (k + 1) = ls.take k ++ [a]) := Dk.take_next HE.out
      clear HE
      cases hr : rightR a with
      | true =>
        have hra : RightR a := of_decide_eq_true hr
        have H : Hid (allR (ls.take (k + 1))) := by
          show allR _
          rw [HT.out]
          intro f hf
          rcases List.mem_append.1 hf with hf | hf
          · exact HS.out f hf
          · simp at hf
            subst hf
            exact hra
        rw [hr] at HC
        clear hr hra HT
        go_wp2_with fail
        refine HC.out.mono ?_
        rintro e w1 ⟨rfl, hb1⟩
        have HB1 := Lib.hid (HBW.out.trans (hb1.mono HBW.out.size))
        clear hb1
        go_wp2
        go_roundw
        case rel => exact ⟨k + 1, by omega, by go_num, H.out, HB1.out⟩
        case measure => simp [intOf]; omega
      | false =>
        have hra : ¬ RightR a := of_decide_eq_false hr
        have H : Hid (decide (allR ls) = false) := decide_eq_false fun k => hra (k _ HM.out)
        rw [hr] at HC
        clear hr hra HT
        go_wp2_with fail
        refine HC.out.mono ?_
        rintro e w1 ⟨rfl, hb1⟩
        have HB1 := Lib.hid (HBW.out.trans (hb1.mono HBW.out.size))
        clear hb1
        go_wp2
        go_ret
        exact ⟨⟨_, rfl, by rw [H.out]; simp⟩, HB1.out⟩
    · obtain rfl : k = n := by omega
      have H : Hid (decide (allR ls) = true) := decide_eq_true (by have := HS.out; rwa [List.take_of_length_le (by rw [hl.out]; exact Nat.le_refl _)] at this)
      go_wp2
      go_ret
      exact ⟨⟨_, rfl, by rw [H.out]; rfl⟩, HBW.out⟩
theorem containsW_any (A : Option Addr) (n c : Nat) (ls : List L) (w : World) (h : RdLs w.heap.size w A n c ls) (hfk : ∀ a ∈ ls, Fk a) :
    Calls Tryz.prog 57 #[.slice A n c, .func (.func 58) #[] #[]] w fun e w' => e = .returned (.bool (!decide (allR ls))) ∧ Below w.heap.size w w' := by
  have HC := Lib.hid (indexW_any A n c ls w h hfk)
  clear h hfk
  go_enter Tryz.func57, Tryz.ntmps57
  go_wp2_with fail
  refine HC.out.mono ?_
  rintro e w1 ⟨⟨i, rfl, hi⟩, hb1⟩
  have HI := Lib.hid hi
  clear hi
  go_wp2
  go_ret
  exact ⟨ret_bool HI.out, hb1⟩

/-! ### framesOf -/
def frmL (ls : List L) : List UInt8 × Int := if allR ls then (if 20000 < (framesJ ls).length then ([], 3) else (framesJ ls, 0)) else ([], 1)
def FrR (w : World) (p : List UInt8 × Int) (e : Ending) (w' : World) : Prop := ∃ A n c, e = .returned (.tuple #[.slice A n c, .int .i64 p.2]) ∧ Bs w' A n c p.1 ∧ Below w.heap.size w w'
theorem frames_more {ls : List L} {k : Nat} (h : 20000 < (framesJ (ls.take k)).length) : 20000 < (framesJ ls).length := by
  have e : framesJ ls = framesJ (ls.take k) ++ framesJ (ls.drop k) := by
    unfold framesJ
    rw [← List.flatMap_append, List.take_append_drop]
  rw [e, List.length_append]
  omega
theorem frm_wrong {ls : List L} (h : ¬ allR ls) : frmL ls = ([], 1) := if_neg h
theorem frm_full {ls : List L} (h : allR ls) (hf : 20000 < (framesJ ls).length) : frmL ls = ([], 3) := by unfold frmL; rw [if_pos h, if_pos hf]
theorem frm_ok {ls : List L} (h : allR ls) (hf : ¬ 20000 < (framesJ ls).length) : frmL ls = (framesJ ls, 0) := by unfold frmL; rw [if_pos h, if_neg hf]
set_option maxHeartbeats 2000000 in
theorem framesOf_any (A : Option Addr) (n c : Nat) (ls : List L) (w : World) (h : RdLs w.heap.size w A n c ls) (hfk : ∀ a ∈ ls, Fk a) : Calls Tryz.prog 30 #[.slice A n c] w (FrR w (frmL ls)) := by
  have HC := Lib.hid (containsW_any A n c ls w h hfk)
  have HL := Lib.hid h.len
  have HF := Lib.hid hfk
  have HX := Lib.hid h
  have hm := h.max
  have hcap := h.cap
  clear h hfk
  by_cases hall : allR ls
  rotate_left
  · have H := Lib.hid (frm_wrong hall)
    rw [decide_eq_false hall] at HC
    clear hall
    go_enter Tryz.func30, Tryz.ntmps30
    go_wp2_with fail
    refine HC.out.mono ?_
    rintro e w1 ⟨rfl, hb1⟩
    go_wp2
    go_ret2
    exact ⟨none, 0, 0, by rw [H.out]; rfl, by rw [H.out]; exact Bs.nil _, hb1⟩
  · have HALL := Lib.hid hall
    rw [decide_eq_true hall] at HC
    clear hall
    go_enter Tryz.func30, Tryz.ntmps30
    go_wp2_with fail
    refine HC.out.mono ?_
    rintro e w1 ⟨rfl, hb1⟩
    have HB1 := Lib.hid hb1
    clear hb1 HC
    go_wp2
    go_loopw [4, 15] (fun v i wr => ∃ (k m : Nat) (A1 : Option Addr) (c1 : Nat), k ≤ n ∧ m ≤ 20000 ∧ i = .int .i64 k ∧ v = .slice A1 m c1 ∧ Hid (Own 5 w.heap.size wr A1 m c1 (framesJ (ls.take k))) ∧ Hid (Below w.heap.size w wr)) (fun _ i _ => n - (intOf i).toNat)
    case atStart => exact ⟨0, 0, none, 0, by omega, by omega, rfl, rfl, Own.nil _ _ _, HB1.out⟩
    case round =>
      obtain ⟨k, m, A1, c1, hk, hm20, rfl, rfl, HO, HB⟩ := hrel
      by_cases hlt : k < n
      · obtain ⟨b, o, a, rfl, _, HE, d0, d1, d2, d3⟩ := atL (HX.out.below HB.out) hlt
        have hmem := List.mem_of_getElem? HE.out
        have HRA := Lib.hid (HALL.out a hmem)
        have HT : Hid (framesJ (ls.take (k + 1)) = framesJ (ls.take k) ++ frameL (encR a)) := by
          show _ = _
          rw [Dk.take_next HE.out, frames_snoc]
        obtain ⟨w2, hw2⟩ : ∃ w2, w2 = wr.alloc (.cells (lcs a) 56) := ⟨_, rfl⟩
        have hb2 : Below wr.heap.size wr w2 := by rw [hw2]; exact alloc_more _ _
        have hc2 : Cel w2 wr.heap.size 56 (lcs a) := by rw [hw2]; exact Cel.born _ _ _
        have HW := Lib.hid (write_any a w2 (HF.out a hmem))
        have hw : writeR a = (encR a, 0) := if_pos HRA.out
        have HE2 := Lib.hid (key_len HRA.out).1
        rw [hw] at HW
        have HB2 := Lib.hid (HB.out.trans (hb2.mono HB.out.size))
        have HO2 := Lib.hid (HO.out.below hb2)
        obtain ⟨q0, q1, q2, q3⟩ := cel4 hc2
        rw [hw2] at q0 q1 q2 q3
        generalize encR a = en at HW HE2 HT
        clear hb2 hc2 hw hmem HRA HE HO
        go_wp2_with fail
        rw [← hw2]
        clear hw2 q0 q1 q2 q3 d0 d1 d2 d3
        refine HW.out.mono ?_
        rintro e w3 ⟨A2, n2, c2, rfl, hown2, hb3⟩
        have hn2 : en.length = n2 := hown2.bs.len
        have hn2s : n2 ≤ 268 := by have := HE2.out; omega
        have hfr := Cw.frame_ok A2 n2 c2 en w3 hown2.bs (by omega)
        obtain ⟨r, hr⟩ : ∃ r, r = n2 + 6 := ⟨_, rfl⟩
        have hrs : r ≤ 300 := by omega
        rw [← hr] at hfr
        have HFR := Lib.hid hfr
        have hc2m := hown2.bs.max
        have hc2c := hown2.bs.cap
        have HB3 := Lib.hid (HB2.out.trans (hb3.mono HB2.out.size))
        have HO3 := Lib.hid (HO2.out.below hb3)
        clear hown2 hb3 hn2 HW HO2 HE2 hfr hr hn2s
        go_wp2_with fail
        refine HFR.out.mono ?_
        rintro e w4 ⟨F, cF, rfl, hown4, hb4⟩
        have hB4 := HB3.out.trans (hb4.mono HB3.out.size)
        have hO4 := HO3.out.below hb4
        have hbs4 := hown4.bs
        clear hown4 hb4 HFR HO3
        by_cases hful : 20000 < m + r
        · have hfz : ((m + r : Nat) : Int) > 20000 := by omega
          go_wp2_with (at_builtin; refine wpList_app byP rfl (.tmp 29) (.tmp 30) rfl rfl hO4 rfl hbs4 (by omega) hB4.size ?_; intro A3 c3 w5 hown5 hb5 _ _)
          have H : Hid (frmL ls = ([], 3)) := by
            refine frm_full HALL.out (frames_more (k := k + 1) ?_)
            rw [HT.out, hown5.bs.len]
            exact hful
          have HB5 := Lib.hid (hB4.trans hb5)
          clear hown5 hb5
          go_ret2
          exact ⟨none, 0, 0, by rw [H.out]; rfl, by rw [H.out]; exact Bs.nil _, HB5.out⟩
        · have hfz : ¬ ((m + r : Nat) : Int) > 20000 := by omega
          go_wp2_with (at_builtin; refine wpList_app byP rfl (.tmp 29) (.tmp 30) rfl rfl hO4 rfl hbs4 (by omega) hB4.size ?_; intro A3 c3 w5 hown5 hb5 _ _)
          have HB5 := Lib.hid (hB4.trans hb5)
          have HO5 := Lib.hid hown5
          clear hown5 hb5
          go_roundw
          case rel => exact ⟨k + 1, m + r, A3, c3, by omega, by omega, by go_num, rfl, by rw [HT.out]; exact HO5.out, HB5.out⟩
          case measure => simp [intOf]; omega
      · obtain rfl : k = n := by omega
        have H : Hid (frmL ls = (framesJ ls, 0)) := by
          refine frm_ok HALL.out ?_
          have := HO.out.bs.len
          rw [List.take_of_length_le (by rw [HL.out]; exact Nat.le_refl _)] at this
          omega
        have HO2 := Lib.hid HO.out.bs
        rw [List.take_of_length_le (by rw [HL.out]; exact Nat.le_refl _)] at HO2
        have hkz : ¬ (k : Int) < (k : Int) := by omega
        clear HO
        go_wp2
        go_ret2
        exact ⟨A1, m, c1, by rw [H.out]; rfl, by rw [H.out]; exact HO2.out, HB.out⟩
end Go.Proofs.YtlefpodonkdbeaaGreat.Lw
