/- What a query's send, deny, inform and release come to. Conditions: the query reads (Qv.ok); what msg's package-level variables hold (En.ok). -/
import Derived.Test.YtoldppbakapohaaGreatDoorEzLeaf
import Derived.Test.YtoldppbakapohaaGreatDoorGwA
import Derived.Test.YtoldppbakapohaaGreatDoorXwB
import Derived.Test.YtoldppbakapohaaGreatDoorEgMore
import Derived.Test.YtoldppbakapohaaGreatDoorBwB
section
set_option maxRecDepth 8000
namespace Go.Proofs.YtoldppbakapohaaGreatDoor.Ez
open Go.RowKit Tl Co Ms Cf Ad By Rp Ky Rc Ew Jw La Tb Pk Al Cl Eg Ey
open Dw (ba ba_size ba_data ba_list)
open Pw (alloc_more celM_all boxM)
open Vw (Cx cel3C)
open Rpw (Mo)

theorem flat13 {w : World} {g : Nat} {t : TypeId} {r : Mv} (h : Cel w g t r.cells) : w.cell? ⟨g, 0, none⟩ = some (.int .i64 r.op) ∧ w.cell? ⟨g, 1, none⟩ = some (.int .i64 r.htype) ∧ w.cell? ⟨g, 2, none⟩ = some (.int .i64 r.hlen) ∧ w.cell? ⟨g, 3, none⟩ = some (.int .i64 r.hops) ∧ w.cell? ⟨g, 4, none⟩ = some (.int .i64 r.xid) ∧ w.cell? ⟨g, 5, none⟩ = some (.int .i64 r.secs) ∧ w.cell? ⟨g, 6, none⟩ = some (.int .i64 r.flags) ∧ w.cell? ⟨g, 7, none⟩ = some (.int .i64 r.ci) ∧ w.cell? ⟨g, 8, none⟩ = some (.int .i64 r.yi) ∧ w.cell? ⟨g, 9, none⟩ = some (.int .i64 r.si) ∧ w.cell? ⟨g, 10, none⟩ = some (.int .i64 r.gi) ∧ w.cell? ⟨g, 11, none⟩ = some (.slice r.A r.n r.c) ∧ w.cell? ⟨g, 12, none⟩ = some (.slice r.B r.m r.d) := by
  obtain ⟨⟨m0, m1, m2, m3, m4, m5, m6⟩, m7, m8, m9, m10, m11, m12⟩ := celM_all h
  exact ⟨m0, m1, m2, m3, m4, m5, m6, m7, m8, m9, m10, m11, m12⟩
theorem mid13 {w : World} {g : Nat} {t : TypeId} {q : Qv} (h : Cel w g t q.cs) : w.cell? ⟨g, 4, none⟩ = some (.int .i64 q.x.op) ∧ w.cell? ⟨g, 5, none⟩ = some (.int .i64 q.x.htype) ∧ w.cell? ⟨g, 6, none⟩ = some (.int .i64 q.x.hlen) ∧ w.cell? ⟨g, 7, none⟩ = some (.int .i64 q.x.hops) ∧ w.cell? ⟨g, 8, none⟩ = some (.int .i64 q.x.xid) ∧ w.cell? ⟨g, 9, none⟩ = some (.int .i64 q.x.secs) ∧ w.cell? ⟨g, 10, none⟩ = some (.int .i64 q.x.flags) ∧ w.cell? ⟨g, 11, none⟩ = some (.int .i64 q.x.ci) ∧ w.cell? ⟨g, 12, none⟩ = some (.int .i64 q.x.yi) ∧ w.cell? ⟨g, 13, none⟩ = some (.int .i64 q.x.si) ∧ w.cell? ⟨g, 14, none⟩ = some (.int .i64 q.x.gi) ∧ w.cell? ⟨g, 15, none⟩ = some (.slice q.x.A q.x.n q.x.c) ∧ w.cell? ⟨g, 16, none⟩ = some (.slice q.x.B q.x.m q.x.d) := by
  obtain ⟨q0, q1, q2, q3, q4, q5, q6, q7, q8, q9, q10, q11, q12, q13, q14, q15, q16, q17, q18, q19, q20⟩ := cells21 h
  exact ⟨q4, q5, q6, q7, q8, q9, q10, q11, q12, q13, q14, q15, q16⟩
theorem sentE_yi (_ : Cf) (_ _ : Int) (_ : M) {kind a : Int} (h : kind = 6 → a = 0) : (if kind = 6 then 0 else a) = a := by
  split
  · next e => exact (h e).symm
  · rfl
set_option maxHeartbeats 16000000 in
theorem send_any (E : Mw.En) (q : Qv) (n s kind a : Int) (U : Nat) (w : World) (h : q.ok U w) (hU : U ≤ w.heap.size) (hE : E.ok w) (hf : fairR q.c.cf n s q.x.mm kind a = true) (h6 : kind = 6 → a = 0) :
    Calls Tryz.prog 141 #[q.v, .int .i64 n, .int .i64 s, .int .i64 kind, .int .i64 a] w (AnP w (sentE q.c.cf n s q.x.mm kind a)) := by
  obtain ⟨w0, hw0, hq0, hz0, hb0, hs0⟩ := boxQ w q
  have KQ := Lib.hid (fun W (hW : Below w0.heap.size w0 W) => cells21 (hq0.below hW hq0.lt))
  have KR := Lib.hid (fun W (hW : Below w0.heap.size w0 W) => hq0.below hW hq0.lt)
  have KZ := Lib.hid (fun W (hW : Below w0.heap.size w0 W) => hz0.below hW hz0.lt)
  have HB0 := Lib.hid hb0
  have HS0 := Lib.hid hs0
  have HB00 := Lib.hid (Below.refl w0.heap.size w0)
  have C1 := Lib.hid (fun W (hW : Below w0.heap.size w0 W) => Rpw.make_any q.c n s q.x kind a U W (h.below hU (tr hb0 hW)).c (Nat.le_trans hU (tr hb0 hW).size) h.s (h.below hU (tr hb0 hW)).x h.sm)
  have KE := Lib.hid (fun W (hW : Below w0.heap.size w0 W) => hE.below (tr hb0 hW))
  have hf2 := hf
  rw [Rpw.fair_sub] at hf2
  simp only [Bool.and_eq_true, decide_eq_true_eq] at hf2
  have hRM := (rightM_iff q.x.mm).1 hf2.2.1
  have HMR := Lib.hid (make_right hRM q.c.server (snC q.c.cf n s) (kind := kind) hf2.2.2.1)
  have HML := Lib.hid (make_len hRM q.c.server (snC q.c.cf n s) kind a)
  have HF := Lib.hid hf
  have H6 := Lib.hid (sentE_yi q.c.cf n s q.x.mm h6)
  clear h hU hE hf h6 hq0 hz0 hb0 hs0 hf2 hRM
  obtain ⟨q0, q1, q2, q3, q4, q5, q6, q7, q8, q9, q10, q11, q12, q13, q14, q15, q16, q17, q18, q19, q20⟩ := KQ.out w0 HB00.out
  go_enter Tryz.func141, Tryz.ntmps141
  go_upto_region 1 with fail
  rw [← hw0]
  clear hw0
  go_wp2_with fail
  refine (C1.out w0 HB00.out).mono ?_
  rintro e w1 ⟨hb1, hJ⟩
  rcases hJ with ⟨_, r, rfl, hmo, hrm⟩ | ⟨hfair, _⟩
  rotate_left
  · exact absurd (HF.out.symm.trans hfair) (by decide)
  rw [sn_sub] at hrm
  have hal := alloc_more w1 (.cells r.cells 29)
  obtain ⟨w2, hw2⟩ : ∃ w2, w2 = w1.alloc (.cells r.cells 29) := ⟨_, rfl⟩
  have HR2 := Lib.hid (show Cel w2 w1.heap.size 29 r.cells by rw [hw2]; exact Cel.born _ _ _)
  rw [← hw2] at hal
  have HB2 := Lib.hid (tr hb1 hal)
  have HMO := Lib.hid (hmo.below hal)
  have HRM := Lib.hid hrm
  have HN1 : Hid (w.heap.size + 2 ≤ w1.heap.size) := by have e0 := HS0.out; have e1 := hb1.size; show _ ≤ _; omega
  have hyr : RightM r.mm := by rw [hrm]; exact HMR.out
  have HYR := Lib.hid ((rightM_iff r.mm).2 hyr)
  have HBL : Hid (¬ 1500 < (bodyM r.mm).length) := by
    show ¬ _
    have e : (bytesM r.mm).length = (bodyM r.mm).length + (300 - (bodyM r.mm).length) := by unfold bytesM padL; rw [List.length_append, List.length_replicate]
    have e2 : (bytesM r.mm).length ≤ 1500 := by rw [hrm]; exact HML.out
    omega
  clear hb1 hal hmo hrm hyr q0 q1 q2 q3 q4 q5 q6 q7 q8 q9 q10 q11 q12 q13 q14 q15 q16 q17 q18 q19 q20
  go_upto_region 2 with fail
  rw [← hw2]
  clear hw2
  obtain ⟨⟨m0, m1, m2, m3, m4, m5, m6⟩, m7, m8, m9, m10, m11, m12⟩ := celM_all HR2.out
  go_wp2_with fail
  refine (Mw.write_any E r w2 (KE.out w2 HB2.out) HMO.out.ok).mono ?_
  rintro e w3 ⟨hb3, hJ⟩
  have HB3 := Lib.hid (tr HB2.out hb3)
  have HR3 := Lib.hid (HR2.out.below hb3 HR2.out.lt)
  have HMO3 := Lib.hid (HMO.out.below hb3)
  clear hb3 m0 m1 m2 m3 m4 m5 m6 m7 m8 m9 m10 m11 m12
  rcases hJ with ⟨hr, _⟩ | ⟨_, hl, _⟩ | ⟨_, _, A6, n6, k6, rfl, _⟩
  · exact absurd (HYR.out.symm.trans hr) (by decide)
  · exact absurd hl HBL.out
  have SS := Lib.hid (fun W (hW : Below w3.heap.size w3 W) => And.intro (flat13 (HR3.out.below hW HR3.out.lt)) (mid13 (KR.out W (tr HB3.out hW))))
  obtain ⟨d, hd⟩ : ∃ d, destL q.x.mm kind a = d := ⟨_, rfl⟩
  obtain ⟨d1, d2, d3⟩ := d
  have HDO : Hid (∀ W : World, Calls Tryz.prog 204 #[q.x.v, .int .i64 kind, .int .i64 a] W fun e w' => e = .returned (.agg #[.int .i64 d1, .int .i64 d2, .bool d3]) ∧ Below W.heap.size W w') := fun W => (Hw.of_any q.x kind a W).mono fun e w' q => ⟨by rw [hd] at q; exact q.1, q.2⟩
  have HD := Lib.hid hd
  clear hd
  go_upto_region 5 with fail
  refine wp_region_held_drew (S := fun W => (W.cell? ⟨w1.heap.size, 0, none⟩ = some (.int .i64 r.op) ∧ W.cell? ⟨w1.heap.size, 1, none⟩ = some (.int .i64 r.htype) ∧ W.cell? ⟨w1.heap.size, 2, none⟩ = some (.int .i64 r.hlen) ∧ W.cell? ⟨w1.heap.size, 3, none⟩ = some (.int .i64 r.hops) ∧ W.cell? ⟨w1.heap.size, 4, none⟩ = some (.int .i64 r.xid) ∧ W.cell? ⟨w1.heap.size, 5, none⟩ = some (.int .i64 r.secs) ∧ W.cell? ⟨w1.heap.size, 6, none⟩ = some (.int .i64 r.flags) ∧ W.cell? ⟨w1.heap.size, 7, none⟩ = some (.int .i64 r.ci) ∧ W.cell? ⟨w1.heap.size, 8, none⟩ = some (.int .i64 r.yi) ∧ W.cell? ⟨w1.heap.size, 9, none⟩ = some (.int .i64 r.si) ∧ W.cell? ⟨w1.heap.size, 10, none⟩ = some (.int .i64 r.gi) ∧ W.cell? ⟨w1.heap.size, 11, none⟩ = some (.slice r.A r.n r.c) ∧ W.cell? ⟨w1.heap.size, 12, none⟩ = some (.slice r.B r.m r.d)) ∧ W.cell? ⟨w.heap.size, 4, none⟩ = some (.int .i64 q.x.op) ∧ W.cell? ⟨w.heap.size, 5, none⟩ = some (.int .i64 q.x.htype) ∧ W.cell? ⟨w.heap.size, 6, none⟩ = some (.int .i64 q.x.hlen) ∧ W.cell? ⟨w.heap.size, 7, none⟩ = some (.int .i64 q.x.hops) ∧ W.cell? ⟨w.heap.size, 8, none⟩ = some (.int .i64 q.x.xid) ∧ W.cell? ⟨w.heap.size, 9, none⟩ = some (.int .i64 q.x.secs) ∧ W.cell? ⟨w.heap.size, 10, none⟩ = some (.int .i64 q.x.flags) ∧ W.cell? ⟨w.heap.size, 11, none⟩ = some (.int .i64 q.x.ci) ∧ W.cell? ⟨w.heap.size, 12, none⟩ = some (.int .i64 q.x.yi) ∧ W.cell? ⟨w.heap.size, 13, none⟩ = some (.int .i64 q.x.si) ∧ W.cell? ⟨w.heap.size, 14, none⟩ = some (.int .i64 q.x.gi) ∧ W.cell? ⟨w.heap.size, 15, none⟩ = some (.slice q.x.A q.x.n q.x.c) ∧ W.cell? ⟨w.heap.size, 16, none⟩ = some (.slice q.x.B q.x.m q.x.d)) (by kernel_rfl) ?_ (fun hHeld => ?_)
  · exact SS.out _ (Below.refl _ _).drew
  refine wpAnyH_take (i := 0) (v := .agg r.cells) rfl (by kernel_rfl) (by kernel_rfl) (by kernel_rfl) (fun _ _ _ h => h) (.inl ⟨by rfl, fun w hSw => by obtain ⟨⟨s0, s1, s2, s3, s4, s5, s6, s7, s8, s9, s10, s11, s12⟩, s13, s14, s15, s16, s17, s18, s19, s20, s21, s22, s23, s24, s25⟩ := hSw; go_simp⟩) hHeld ?_
  simp only [Act.put, gTo, gZe, sTo, sZe, sSu]
  refine wpAnyH_take (i := 1) (v := .pointer (some ⟨w.heap.size, 4, none⟩)) rfl (by kernel_rfl) (by kernel_rfl) (by kernel_rfl) (fun _ _ _ h => h) (.inl ⟨by rfl, fun w hSw => by obtain ⟨⟨s0, s1, s2, s3, s4, s5, s6, s7, s8, s9, s10, s11, s12⟩, s13, s14, s15, s16, s17, s18, s19, s20, s21, s22, s23, s24, s25⟩ := hSw; go_simp⟩) hHeld ?_
  simp only [Act.put, gTo, gZe, gSu, sTo, sZe, sSu]
  refine wpAnyH_take (i := 2) (v := .agg q.x.cells) rfl (by kernel_rfl) (by kernel_rfl) (by kernel_rfl) (fun _ _ _ h => h) (.inl ⟨by rfl, fun w hSw => by obtain ⟨⟨s0, s1, s2, s3, s4, s5, s6, s7, s8, s9, s10, s11, s12⟩, s13, s14, s15, s16, s17, s18, s19, s20, s21, s22, s23, s24, s25⟩ := hSw; go_simp⟩) hHeld ?_
  simp only [Act.put, gTo, gZe, gSu, sTo, sZe, sSu]
  refine wpAnyH_take (i := 3) (v := .int .i64 kind) rfl (by kernel_rfl) (by kernel_rfl) (by kernel_rfl) (fun _ _ _ h => h) (.inl ⟨by rfl, fun w hSw => by obtain ⟨⟨s0, s1, s2, s3, s4, s5, s6, s7, s8, s9, s10, s11, s12⟩, s13, s14, s15, s16, s17, s18, s19, s20, s21, s22, s23, s24, s25⟩ := hSw; go_simp⟩) hHeld ?_
  simp only [Act.put, gTo, gZe, gSu, sTo, sZe, sSu]
  refine wpAnyH_take (i := 4) (v := .int .i64 a) rfl (by kernel_rfl) (by kernel_rfl) (by kernel_rfl) (fun _ _ _ h => h) (.inl ⟨by rfl, fun w hSw => by obtain ⟨⟨s0, s1, s2, s3, s4, s5, s6, s7, s8, s9, s10, s11, s12⟩, s13, s14, s15, s16, s17, s18, s19, s20, s21, s22, s23, s24, s25⟩ := hSw; go_simp⟩) hHeld ?_
  simp only [Act.put, gTo, gZe, gSu, sTo, sZe, sSu]
  refine wpAnyH_ready (rs := [5]) (by kernel_rfl) (by simp) ?_
  refine AllReadyH.cons rfl (fun K2 hK2 => ?_) AllReadyH.nil
  go_simp
  go_at_call 204
  refine (HDO.out _).mono ?_
  rintro ee w4 ⟨rfl, hbu⟩
  have hb34 : Below w3.heap.size w3 w4 := below_undrew hbu
  refine hK2.out _ _ (SS.out _ hb34) (fun hHeld => ?_)
  clear hK2 K2
  try simp only [Act.put, gTo, gZe, gSu, sTo, sZe, sSu]
  refine wpAnyH_take (i := 6) (v := .agg (Av.cs ⟨true, false, r, d1, d2, d3, zeroL⟩)) rfl (by kernel_rfl) (by kernel_rfl) (by kernel_rfl) (fun _ _ _ h => h) (.inl ⟨by rfl, fun w hSw => by obtain ⟨⟨s0, s1, s2, s3, s4, s5, s6, s7, s8, s9, s10, s11, s12⟩, s13, s14, s15, s16, s17, s18, s19, s20, s21, s22, s23, s24, s25⟩ := hSw; go_simp; exact ⟨rfl, rfl, rfl, rfl⟩⟩) hHeld ?_
  simp only [Act.put, gTo, gZe, gSu, sTo, sZe, sSu]
  refine wpAnyH_ready (rs := [7]) (by kernel_rfl) (by simp) ?_
  refine AllReadyH.cons rfl (fun K2 hK2 => ?_) AllReadyH.nil
  refine wp_store_row 37 (.tmp 10) (.tmp 41) rfl (w.heap.size + 1) (Av.cs ⟨true, false, r, d1, d2, d3, zeroL⟩) rfl rfl 37 zav (KZ.out _ (tr HB3.out hb34)) (by kernel_rfl) rfl (by kernel_rfl) ?_
  obtain ⟨w9, hw9⟩ : ∃ w9, w9 = w4.setRow (w.heap.size + 1) (Av.cs ⟨true, false, r, d1, d2, d3, zeroL⟩) := ⟨_, rfl⟩
  rw [← hw9]
  have HW9 := Lib.hid hw9
  clear hw9
  have HB4 := Lib.hid (tr HB3.out hb34)
  have HC9 := Lib.hid (show Cel w9 (w.heap.size + 1) 37 (Av.cs ⟨true, false, r, d1, d2, d3, zeroL⟩) by rw [HW9.out]; exact rowC (KZ.out _ HB4.out) _)
  have HB9 : Hid (Below w.heap.size w w9) := by show Below _ _ _; rw [HW9.out]; exact rowB (tr HB0.out HB4.out) (Nat.le_add_right _ 1) _
  have HR9 := Lib.hid (show Cel w9 w1.heap.size 29 r.cells by rw [HW9.out]; exact rowFar (HR3.out.below hb34 HR3.out.lt) (by have := HN1.out; omega) _)
  have HQ9 := Lib.hid (show Cel w9 w.heap.size 77 q.cs by rw [HW9.out]; exact rowFar (KR.out _ HB4.out) (by omega) _)
  refine hK2.out _ _ (And.intro (flat13 HR9.out) (mid13 HQ9.out)) (fun hHeld => ?_)
  clear hK2 K2
  try simp only [Act.put, gTo, gZe, gSu]
  refine wpAnyH_done (by kernel_rfl) ?_ _
  go_wp2
  (try simp only [Exit.inBlock, Exit.then])
  refine bodyPost_ret (ret_ans rfl _ _ (w.heap.size + 1) (Av.cs ⟨true, false, r, d1, d2, d3, zeroL⟩) rfl HC9.out rfl) rfl ?_
  refine ⟨⟨true, false, r, d1, d2, d3, zeroL⟩, rfl, ?_, ?_, HB9.out⟩
  · rw [HW9.out]
    exact (Mp.off (.inr (HMO3.out.below hb34)) (KZ.out _ HB4.out) (rowG _ _ _)).mono (Nat.le_trans HB0.out.size (by have := HN1.out; have := HS0.out; omega))
  · show (⟨true, false, r.mm, (d1, d2, d3), zeroL⟩ : An) = _
    unfold sentE
    rw [H6.out, HD.out, HRM.out]

/-! ### Calls that hand their own query on -/
set_option maxHeartbeats 4000000 in
theorem deny_any (E : Mw.En) (q : Qv) (U : Nat) (w : World) (h : q.ok U w) (hU : U ≤ w.heap.size) (hE : E.ok w) : Calls Tryz.prog 146 #[q.v] w (AnP w (sentE q.c.cf q.net q.sub q.x.mm 6 0)) := by
  have hfr : fairR q.c.cf q.net q.sub q.x.mm 6 0 = true := by rw [Rpw.fair_sub, h.sub, h.r]; rfl
  obtain ⟨w0, hw0, hq0, hz0, hb0, hs0⟩ := boxQ w q
  have KQ := Lib.hid (fun W (hW : Below w0.heap.size w0 W) => cells21 (hq0.below hW hq0.lt))
  have KR := Lib.hid (fun W (hW : Below w0.heap.size w0 W) => hq0.below hW hq0.lt)
  have KZ := Lib.hid (fun W (hW : Below w0.heap.size w0 W) => hz0.below hW hz0.lt)
  have HB0 := Lib.hid hb0
  have HS0 := Lib.hid hs0
  have HB00 := Lib.hid (Below.refl w0.heap.size w0)
  have C1 := Lib.hid (fun W (hW : Below w0.heap.size w0 W) => send_any E q q.net q.sub 6 0 U W (h.below hU (tr hb0 hW)) (Nat.le_trans hU (tr hb0 hW).size) (hE.below (tr hb0 hW)) hfr (fun _ => rfl))
  clear h hU hE hfr hq0 hz0 hb0 hs0
  generalize sentE q.c.cf q.net q.sub q.x.mm 6 0 = R at C1 ⊢
  obtain ⟨_, _, _, _, _, _, _, _, _, _, _, _, _, _, _, _, _, _, q18, q19, _⟩ := KQ.out w0 HB00.out
  go_enter Tryz.func146, Tryz.ntmps146
  go_upto_region 1 with fail
  rw [← hw0]
  clear hw0
  go_wp2_with (refine wpList_load_row rfl 77 (.tmp 1) rfl w.heap.size rfl 77 q.cs (0, 0) _ (KR.out w0 HB00.out) Tryz.underlying77 rfl (by kernel_rfl) ?_)
  refine (C1.out w0 HB00.out).mono ?_
  rintro e w1 ⟨y, rfl, hmp, hya, hb1⟩
  have HB1 := Lib.hid hb1
  have HMP := Lib.hid hmp
  have HYA := Lib.hid hya
  clear hb1 hmp hya q18 q19
  go_wp2_with (refine wpList_store_row rfl 37 (.tmp 2) (.tmp 8) rfl (w.heap.size + 1) (y.cs) rfl rfl 37 zav (KZ.out w1 HB1.out) (by kernel_rfl) rfl (by kernel_rfl) ?_; obtain ⟨w9, hw9⟩ : ∃ w9, w9 = w1.setRow (w.heap.size + 1) (y.cs) := ⟨_, rfl⟩; rw [← hw9]; have HW9 := Lib.hid hw9; clear hw9)
  (try simp only [Exit.inBlock, Exit.then])
  refine bodyPost_ret (ret_ans rfl _ _ (w.heap.size + 1) (y.cs) rfl (by rw [HW9.out]; exact rowC (KZ.out w1 HB1.out) _) rfl) rfl ?_
  exact ⟨y, rfl, by rw [HW9.out]; exact (HMP.out.off (KZ.out w1 HB1.out) (rowG _ _ _)).mono HB0.out.size, HYA.out, by rw [HW9.out]; exact rowB (tr HB0.out HB1.out) (Nat.le_add_right _ 1) _⟩

set_option maxHeartbeats 4000000 in
theorem inform_any (E : Mw.En) (q : Qv) (U : Nat) (w : World) (h : q.ok U w) (hU : U ≤ w.heap.size) (hE : E.ok w) : Calls Tryz.prog 85 #[q.v] w (AnP w (if q.x.mm.ci ≠ 0 then sentE q.c.cf q.net q.sub q.x.mm 5 0 else zeroA)) := by
  have hfr : fairR q.c.cf q.net q.sub q.x.mm 5 0 = true := by rw [Rpw.fair_sub, h.sub, h.r]; rfl
  obtain ⟨w0, hw0, hq0, hz0, hb0, hs0⟩ := boxQ w q
  have KQ := Lib.hid (fun W (hW : Below w0.heap.size w0 W) => cells21 (hq0.below hW hq0.lt))
  have KR := Lib.hid (fun W (hW : Below w0.heap.size w0 W) => hq0.below hW hq0.lt)
  have KZ := Lib.hid (fun W (hW : Below w0.heap.size w0 W) => hz0.below hW hz0.lt)
  have HB0 := Lib.hid hb0
  have HS0 := Lib.hid hs0
  have HB00 := Lib.hid (Below.refl w0.heap.size w0)
  have C1 := Lib.hid (fun W (hW : Below w0.heap.size w0 W) => send_any E q q.net q.sub 5 0 U W (h.below hU (tr hb0 hW)) (Nat.le_trans hU (tr hb0 hW).size) (hE.below (tr hb0 hW)) hfr (fun e => absurd e (by decide)))
  clear h hU hE hfr hq0 hz0 hb0 hs0
  have HE : Hid ((if q.x.mm.ci ≠ 0 then sentE q.c.cf q.net q.sub q.x.mm 5 0 else zeroA) = (if q.x.ci ≠ 0 then sentE q.c.cf q.net q.sub q.x.mm 5 0 else zeroA)) := rfl
  generalize (if q.x.mm.ci ≠ 0 then sentE q.c.cf q.net q.sub q.x.mm 5 0 else zeroA) = R at HE ⊢
  generalize sentE q.c.cf q.net q.sub q.x.mm 5 0 = SE at C1 HE
  obtain ⟨_, _, _, _, _, _, _, _, _, _, _, q11, _, _, _, _, _, _, q18, q19, _⟩ := KQ.out w0 HB00.out
  by_cases hc : q.x.ci = 0
  · have HR : Hid (R = zeroA) := by show _ = _; rw [HE.out, if_neg (fun z => z hc)]
    have hcb : (q.x.ci == 0) = true := by simpa using hc
    clear hc
    go_enter Tryz.func85, Tryz.ntmps85
    go_upto_region 1 with fail
    rw [← hw0]
    clear hw0
    go_wp2_with (refine wpList_store_row rfl 37 (.tmp 2) (.tmp 7) rfl (w.heap.size + 1) (zav) rfl rfl 37 zav (KZ.out w0 HB00.out) (by kernel_rfl) rfl (by kernel_rfl) ?_; obtain ⟨w9, hw9⟩ : ∃ w9, w9 = w0.setRow (w.heap.size + 1) (zav) := ⟨_, rfl⟩; rw [← hw9]; have HW9 := Lib.hid hw9; clear hw9)
    (try simp only [Exit.inBlock, Exit.then])
    refine bodyPost_ret (ret_ans rfl _ _ (w.heap.size + 1) (zav) rfl (by rw [HW9.out]; exact rowC (KZ.out w0 HB00.out) _) rfl) rfl ?_
    exact ⟨zA, rfl, .inl rfl, by rw [HR.out]; rfl, by rw [HW9.out]; exact rowB (tr HB0.out HB00.out) (Nat.le_add_right _ 1) _⟩
  · have HR : Hid (R = SE) := by show _ = _; rw [HE.out, if_pos hc]
    have hcb : (q.x.ci == 0) = false := by simpa using hc
    clear hc
    go_enter Tryz.func85, Tryz.ntmps85
    go_upto_region 1 with fail
    rw [← hw0]
    clear hw0
    go_wp2_with (refine wpList_load_row rfl 77 (.tmp 1) rfl w.heap.size rfl 77 q.cs (0, 0) _ (KR.out w0 HB00.out) Tryz.underlying77 rfl (by kernel_rfl) ?_)
    refine (C1.out w0 HB00.out).mono ?_
    rintro e w1 ⟨y, rfl, hmp, hya, hb1⟩
    have HB1 := Lib.hid hb1
    have HMP := Lib.hid hmp
    have HYA := Lib.hid hya
    clear hb1 hmp hya q11 q18 q19
    go_wp2_with (refine wpList_store_row rfl 37 (.tmp 2) (.tmp 13) rfl (w.heap.size + 1) (y.cs) rfl rfl 37 zav (KZ.out w1 HB1.out) (by kernel_rfl) rfl (by kernel_rfl) ?_; obtain ⟨w9, hw9⟩ : ∃ w9, w9 = w1.setRow (w.heap.size + 1) (y.cs) := ⟨_, rfl⟩; rw [← hw9]; have HW9 := Lib.hid hw9; clear hw9)
    (try simp only [Exit.inBlock, Exit.then])
    refine bodyPost_ret (ret_ans rfl _ _ (w.heap.size + 1) (y.cs) rfl (by rw [HW9.out]; exact rowC (KZ.out w1 HB1.out) _) rfl) rfl ?_
    exact ⟨y, rfl, by rw [HW9.out]; exact (HMP.out.off (KZ.out w1 HB1.out) (rowG _ _ _)).mono HB0.out.size, by rw [HR.out]; exact HYA.out, by rw [HW9.out]; exact rowB (tr HB0.out HB1.out) (Nat.le_add_right _ 1) _⟩

set_option maxHeartbeats 4000000 in
theorem release_any (q : Qv) (U : Nat) (w : World) (h : q.ok U w) (hU : U ≤ w.heap.size) : Calls Tryz.prog 84 #[q.v] w (AnP w (endedE q.l q.x.mm.ci q.k 2 q.now q.now)) := by
  obtain ⟨w0, hw0, hq0, hz0, hb0, hs0⟩ := boxQ w q
  have KQ := Lib.hid (fun W (hW : Below w0.heap.size w0 W) => cells21 (hq0.below hW hq0.lt))
  have KR := Lib.hid (fun W (hW : Below w0.heap.size w0 W) => hq0.below hW hq0.lt)
  have KZ := Lib.hid (fun W (hW : Below w0.heap.size w0 W) => hz0.below hW hz0.lt)
  have HB0 := Lib.hid hb0
  have HS0 := Lib.hid hs0
  have HB00 := Lib.hid (Below.refl w0.heap.size w0)
  have C1 := Lib.hid (fun W (hW : Below w0.heap.size w0 W) => giveUp_any q q.x.ci 2 q.now U W (h.below hU (tr hb0 hW)) (Nat.le_trans hU (tr hb0 hW).size))
  clear h hU hq0 hz0 hb0 hs0
  have HE : Hid (endedE q.l q.x.mm.ci q.k 2 q.now q.now = endedE q.l q.x.ci q.k 2 q.now q.now) := rfl
  generalize endedE q.l q.x.mm.ci q.k 2 q.now q.now = R at HE ⊢
  generalize endedE q.l q.x.ci q.k 2 q.now q.now = SE at C1 HE
  obtain ⟨_, _, _, _, _, _, _, _, _, _, _, q11, _, _, _, _, _, q17, _, _, _⟩ := KQ.out w0 HB00.out
  go_enter Tryz.func84, Tryz.ntmps84
  go_upto_region 1 with fail
  rw [← hw0]
  clear hw0
  go_wp2_with (refine wpList_load_row rfl 77 (.tmp 1) rfl w.heap.size rfl 77 q.cs (0, 0) _ (KR.out w0 HB00.out) Tryz.underlying77 rfl (by kernel_rfl) ?_)
  refine (C1.out w0 HB00.out).mono ?_
  rintro e w1 ⟨y, rfl, hmp, hya, hb1⟩
  have HB1 := Lib.hid hb1
  have HMP := Lib.hid hmp
  have HYA := Lib.hid hya
  clear hb1 hmp hya q11 q17
  go_wp2_with (refine wpList_store_row rfl 37 (.tmp 2) (.tmp 9) rfl (w.heap.size + 1) (y.cs) rfl rfl 37 zav (KZ.out w1 HB1.out) (by kernel_rfl) rfl (by kernel_rfl) ?_; obtain ⟨w9, hw9⟩ : ∃ w9, w9 = w1.setRow (w.heap.size + 1) (y.cs) := ⟨_, rfl⟩; rw [← hw9]; have HW9 := Lib.hid hw9; clear hw9)
  (try simp only [Exit.inBlock, Exit.then])
  refine bodyPost_ret (ret_ans rfl _ _ (w.heap.size + 1) (y.cs) rfl (by rw [HW9.out]; exact rowC (KZ.out w1 HB1.out) _) rfl) rfl ?_
  exact ⟨y, rfl, by rw [HW9.out]; exact (HMP.out.off (KZ.out w1 HB1.out) (rowG _ _ _)).mono HB0.out.size, by rw [HE.out]; exact HYA.out, by rw [HW9.out]; exact rowB (tr HB0.out HB1.out) (Nat.le_add_right _ 1) _⟩
end Go.Proofs.YtoldppbakapohaaGreatDoor.Ez
end
/- What a query's decline and discover come to. Conditions: the query reads (Qv.ok); what msg's package-level variables hold (En.ok). -/
section
set_option maxRecDepth 8000
namespace Go.Proofs.YtoldppbakapohaaGreatDoor.Ez
open Go.RowKit Tl Co Ms Cf Ad By Rp Ky Rc Ew Jw La Tb Pk Al Cl Eg Ey
open Dw (ba ba_size ba_data ba_list)
open Pw (alloc_more celM_all boxM)
open Vw (Cx cel3C)
open Rpw (Mo)

set_option maxHeartbeats 8000000 in
theorem decline_any (q : Qv) (U : Nat) (w : World) (h : q.ok U w) (hU : U ≤ w.heap.size) : Calls Tryz.prog 83 #[q.v] w (AnP w (endedE q.l (wantedE q.x.mm) q.k 3 (endE q.now q.c.cf.prob) q.now)) := by
  obtain ⟨w0, hw0, hq0, hz0, hb0, hs0⟩ := boxQ w q
  have KQ := Lib.hid (fun W (hW : Below w0.heap.size w0 W) => cells21 (hq0.below hW hq0.lt))
  have KR := Lib.hid (fun W (hW : Below w0.heap.size w0 W) => hq0.below hW hq0.lt)
  have KZ := Lib.hid (fun W (hW : Below w0.heap.size w0 W) => hz0.below hW hz0.lt)
  have HB0 := Lib.hid hb0
  have HS0 := Lib.hid hs0
  have HB00 := Lib.hid (Below.refl w0.heap.size w0)
  have C1 := Lib.hid (fun W (hW : Below w0.heap.size w0 W) => wanted_any q U W (h.below hU (tr hb0 hW)) (Nat.le_trans hU (tr hb0 hW).size))
  have C2 := Lib.hid (fun W (hW : Below w0.heap.size w0 W) => after_any q q.c.prob U W (h.below hU (tr hb0 hW)) (prob_range (Rpw.subB_iff.1 h.sub).1))
  have C3 := Lib.hid (fun W (hW : Below w0.heap.size w0 W) => giveUp_any q (wantedE q.x.mm) 3 (endE q.now q.c.prob) U W (h.below hU (tr hb0 hW)) (Nat.le_trans hU (tr hb0 hW).size))
  clear h hU hq0 hz0 hb0 hs0
  have HE : Hid (endedE q.l (wantedE q.x.mm) q.k 3 (endE q.now q.c.cf.prob) q.now = endedE q.l (wantedE q.x.mm) q.k 3 (endE q.now q.c.prob) q.now) := rfl
  generalize endedE q.l (wantedE q.x.mm) q.k 3 (endE q.now q.c.cf.prob) q.now = R at HE ⊢
  generalize endedE q.l (wantedE q.x.mm) q.k 3 (endE q.now q.c.prob) q.now = SE at C3 HE
  generalize wantedE q.x.mm = wa at C1 C3
  generalize endE q.now q.c.prob = en at C2 C3
  go_enter Tryz.func83, Tryz.ntmps83
  go_upto_region 1 with fail
  rw [← hw0]
  clear hw0
  refine wp_region_held_drew (S := (fun W => Cel W w.heap.size 77 q.cs)) (by kernel_rfl) ?_ (fun hHeld => ?_)
  · exact KR.out _ (Below.refl _ _).drew
  refine wpAnyH_take (i := 0) (v := q.v) rfl (by kernel_rfl) (by kernel_rfl) (by kernel_rfl) (fun _ _ _ h => h) (yields_row 77 (.tmp 1) rfl rfl w.heap.size rfl 77 q.cs _ (fun _ z => z) Tryz.underlying77 rfl (by kernel_rfl)) hHeld ?_
  simp only [Act.put, gTo, gZe, sTo, sZe, sSu]
  refine wpAnyH_take (i := 1) (v := q.v) rfl (by kernel_rfl) (by kernel_rfl) (by kernel_rfl) (fun _ _ _ h => h) (yields_row 77 (.tmp 1) rfl rfl w.heap.size rfl 77 q.cs _ (fun _ z => z) Tryz.underlying77 rfl (by kernel_rfl)) hHeld ?_
  simp only [Act.put, gTo, gZe, gSu, sTo, sZe, sSu]
  refine wpAnyH_take (i := 3) (v := q.v) rfl (by kernel_rfl) (by kernel_rfl) (by kernel_rfl) (fun _ _ _ h => h) (yields_row 77 (.tmp 1) rfl rfl w.heap.size rfl 77 q.cs _ (fun _ z => z) Tryz.underlying77 rfl (by kernel_rfl)) hHeld ?_
  simp only [Act.put, gTo, gZe, gSu, sTo, sZe, sSu]
  refine wpAnyH_take (i := 4) (v := .pointer (some ⟨w.heap.size, 0, none⟩)) rfl (by kernel_rfl) (by kernel_rfl) (by kernel_rfl) (fun _ _ _ h => h) (.inl ⟨by rfl, fun w hSw => by go_simp⟩) hHeld ?_
  simp only [Act.put, gTo, gZe, gSu, sTo, sZe, sSu]
  refine wpAnyH_take (i := 5) (v := .pointer (some ⟨w.heap.size, 1, none⟩)) rfl (by kernel_rfl) (by kernel_rfl) (by kernel_rfl) (fun _ _ _ h => h) (.inl ⟨by rfl, fun w hSw => by go_simp⟩) hHeld ?_
  simp only [Act.put, gTo, gZe, gSu, sTo, sZe, sSu]
  refine wpAnyH_take (i := 6) (v := .int .i64 q.c.prob) rfl (by kernel_rfl) (by kernel_rfl) (by kernel_rfl) (fun _ _ _ h => h) (.inl ⟨by rfl, fun w hSw => by obtain ⟨_, q1, _, _, _, _, _, _, _, _, _, _, _, _, _, _, _, _, _, _, _⟩ := cells21 hSw; go_simp⟩) hHeld ?_
  simp only [Act.put, gTo, gZe, gSu, sTo, sZe, sSu]
  refine wpAnyH_ready (rs := [2]) (by kernel_rfl) (by simp) ?_
  refine AllReadyH.cons rfl (fun K2 hK2 => ?_) AllReadyH.nil
  go_simp
  go_at_call 140
  refine (C1.out _ (Below.refl _ _).drew).mono ?_
  rintro ee w1 ⟨rfl, hbu1⟩
  have hb1 : Below w0.heap.size w0 w1 := below_undrew hbu1
  refine hK2.out _ _ (KR.out _ hb1) (fun hHeld => ?_)
  clear hK2 K2
  try simp only [Act.put, gTo, gZe, gSu, sTo, sZe, sSu]
  refine wpAnyH_ready (rs := [7]) (by kernel_rfl) (by simp) ?_
  refine AllReadyH.cons rfl (fun K2 hK2 => ?_) AllReadyH.nil
  go_simp
  go_at_call 149
  refine (C2.out _ hb1).mono ?_
  rintro ee w2 ⟨rfl, hbu2⟩
  have hb2 : Below w0.heap.size w0 w2 := tr hb1 hbu2
  refine hK2.out _ _ (KR.out _ hb2) (fun hHeld => ?_)
  clear hK2 K2
  try simp only [Act.put, gTo, gZe, gSu, sTo, sZe, sSu]
  refine wpAnyH_ready (rs := [8]) (by kernel_rfl) (by simp) ?_
  refine AllReadyH.cons rfl (fun K2 hK2 => ?_) AllReadyH.nil
  go_simp
  go_at_call 148
  refine (C3.out _ hb2).mono ?_
  rintro ee w3 ⟨y, rfl, hmp, hya, hbu3⟩
  have hb3 : Below w0.heap.size w0 w3 := tr hb2 hbu3
  have HB3 := Lib.hid hb3
  have HMP := Lib.hid (hmp.mono (Nat.le_trans HB0.out.size hb2.size))
  have HYA := Lib.hid hya
  clear hmp hya
  refine hK2.out _ _ (KR.out _ hb3) (fun hHeld => ?_)
  clear hK2 K2
  try simp only [Act.put, gTo, gZe, gSu, sTo, sZe, sSu]
  refine wpAnyH_ready (rs := [9]) (by kernel_rfl) (by simp) ?_
  refine AllReadyH.cons rfl (fun K2 hK2 => ?_) AllReadyH.nil
  refine wp_store_row 37 (.tmp 2) (.tmp 11) rfl (w.heap.size + 1) y.cs rfl rfl 37 zav (KZ.out w3 HB3.out) (by kernel_rfl) rfl (by kernel_rfl) ?_
  obtain ⟨w9, hw9⟩ : ∃ w9, w9 = w3.setRow (w.heap.size + 1) y.cs := ⟨_, rfl⟩
  rw [← hw9]
  have HW9 := Lib.hid hw9
  clear hw9
  refine hK2.out _ _ (by rw [HW9.out]; exact rowFar (KR.out w3 HB3.out) (by omega) _) (fun hHeld => ?_)
  clear hK2 K2
  try simp only [Act.put, gTo, gZe, gSu]
  refine wpAnyH_done (by kernel_rfl) ?_ _
  go_wp2
  (try simp only [Exit.inBlock, Exit.then])
  refine bodyPost_ret (ret_ans rfl _ _ (w.heap.size + 1) (y.cs) rfl (by rw [HW9.out]; exact rowC (KZ.out w3 HB3.out) _) rfl) rfl ?_
  exact ⟨y, rfl, by rw [HW9.out]; exact HMP.out.off (KZ.out w3 HB3.out) (rowG _ _ _), by rw [HE.out]; exact HYA.out, by rw [HW9.out]; exact rowB (tr HB0.out HB3.out) (Nat.le_add_right _ 1) _⟩

theorem num_lt {l : List O} {c : Int} {v : Nat} (h : Ow.numL l c 4 = some v) : v < 4294967296 := by
  obtain ⟨d, _, hd, rfl⟩ := Ow.num_some h
  have := valL_lt d
  rw [hd] at this
  exact this
theorem wanted_range (m : M) : 0 ≤ wantedE m ∧ wantedE m ≤ 4294967295 := by
  unfold wantedE
  cases h : numE m.os 50 4 with
  | none => exact ⟨by simp, by simp⟩
  | some v =>
    have := num_lt (show Ow.numL m.os 50 4 = some v from h)
    simp only [Option.getD_some]
    omega
set_option maxHeartbeats 16000000 in
theorem discover_any (E : Mw.En) (q : Qv) (U : Nat) (w : World) (h : q.ok U w) (hU : U ≤ w.heap.size) (hE : E.ok w) : Calls Tryz.prog 81 #[q.v] w (AnP w (if (chooseA q.c.cf q.l q.net q.k (wantedE q.x.mm) q.now).2 = true then offerE q.c.cf q.x.mm (chooseA q.c.cf q.l q.net q.k (wantedE q.x.mm) q.now).1 else zeroA)) := by
  have hwr := wanted_range q.x.mm
  obtain ⟨w0, hw0, hq0, hz0, hb0, hs0⟩ := boxQ w q
  have KQ := Lib.hid (fun W (hW : Below w0.heap.size w0 W) => cells21 (hq0.below hW hq0.lt))
  have KR := Lib.hid (fun W (hW : Below w0.heap.size w0 W) => hq0.below hW hq0.lt)
  have KZ := Lib.hid (fun W (hW : Below w0.heap.size w0 W) => hz0.below hW hz0.lt)
  have HB0 := Lib.hid hb0
  have HS0 := Lib.hid hs0
  have HB00 := Lib.hid (Below.refl w0.heap.size w0)
  have C1 := Lib.hid (fun W (hW : Below w0.heap.size w0 W) => wanted_any q U W (h.below hU (tr hb0 hW)) (Nat.le_trans hU (tr hb0 hW).size))
  have C2 : Hid (∀ W : World, Below w0.heap.size w0 W → Calls Tryz.prog 139 #[q.c.v, .slice q.A q.n q.cc, .int .i64 q.net, .string (ba q.k), .int .i64 (wantedE q.x.mm), .int .i64 q.now] W (Vw.AdR (chooseA q.c.cf q.l q.net q.k (wantedE q.x.mm) q.now) W)) := fun W hW =>
    Xw.Choose_any ⟨q.c, q.A, q.n, q.cc, q.l, q.net, q.k, q.now⟩ (wantedE q.x.mm) U W ⟨(h.below hU (tr hb0 hW)).c, (h.below hU (tr hb0 hW)).t, h.f, h.s, h.k⟩ (Nat.le_trans hU (tr hb0 hW).size) (by omega) (by omega)
  have C3 := Lib.hid (fun a W (hW : Below w0.heap.size w0 W) => Xw.find_any q.c a U W (h.below hU (tr hb0 hW)).c (Nat.le_trans hU (tr hb0 hW).size) h.s)
  have C4 := Lib.hid (fun n s a (hf : fairR q.c.cf n s q.x.mm 2 a = true) W (hW : Below w0.heap.size w0 W) => send_any E q n s 2 a U W (h.below hU (tr hb0 hW)) (Nat.le_trans hU (tr hb0 hW).size) (hE.below (tr hb0 hW)) hf (fun e => absurd e (by decide)))
  have HR0 := Lib.hid h.r
  have HCM := Lib.hid (fun (z : (chooseA q.c.cf q.l q.net q.k (wantedE q.x.mm) q.now).2 = true) => choose_may z)
  clear h hU hE hq0 hz0 hb0 hs0 hwr
  generalize wantedE q.x.mm = wa at C1 C2 HCM ⊢
  generalize chooseA q.c.cf q.l q.net q.k wa q.now = ch at C2 HCM ⊢
  obtain ⟨a, b⟩ := ch
  go_enter Tryz.func81, Tryz.ntmps81
  go_upto_region 1 with fail
  rw [← hw0]
  clear hw0
  go_cut [3, 4] from 8 to 23 (fun v3 v4 wx => v3 = .int .i64 a ∧ v4 = .bool b ∧ Hid (Below w0.heap.size w0 wx))
  case first =>
    refine wp_region_held_drew (S := (fun W => Cel W w.heap.size 77 q.cs)) (by kernel_rfl) ?_ (fun hHeld => ?_)
    · exact KR.out _ (Below.refl _ _).drew
    refine wpAnyH_take (i := 0) (v := .pointer (some ⟨w.heap.size, 0, none⟩)) rfl (by kernel_rfl) (by kernel_rfl) (by kernel_rfl) (fun _ _ _ h => h) (.inl ⟨by rfl, fun w hSw => by go_simp⟩) hHeld ?_
    simp only [Act.put, gTo, gZe, sTo, sZe, sSu]
    refine wpAnyH_take (i := 1) (v := q.c.v) rfl (by kernel_rfl) (by kernel_rfl) (by kernel_rfl) (fun _ _ _ h => h) (.inl ⟨by rfl, fun w hSw => by obtain ⟨q0, q1, q2, _, _, _, _, _, _, _, _, _, _, _, _, _, _, _, _, _, _⟩ := cells21 hSw; go_simp⟩) hHeld ?_
    simp only [Act.put, gTo, gZe, gSu, sTo, sZe, sSu]
    refine wpAnyH_take (i := 2) (v := .pointer (some ⟨w.heap.size, 3, none⟩)) rfl (by kernel_rfl) (by kernel_rfl) (by kernel_rfl) (fun _ _ _ h => h) (.inl ⟨by rfl, fun w hSw => by go_simp⟩) hHeld ?_
    simp only [Act.put, gTo, gZe, gSu, sTo, sZe, sSu]
    refine wpAnyH_take (i := 3) (v := .slice q.A q.n q.cc) rfl (by kernel_rfl) (by kernel_rfl) (by kernel_rfl) (fun _ _ _ h => h) (.inl ⟨by rfl, fun w hSw => by obtain ⟨_, _, _, q3, _, _, _, _, _, _, _, _, _, _, _, _, _, _, _, _, _⟩ := cells21 hSw; go_simp⟩) hHeld ?_
    simp only [Act.put, gTo, gZe, gSu, sTo, sZe, sSu]
    refine wpAnyH_take (i := 4) (v := .pointer (some ⟨w.heap.size, 18, none⟩)) rfl (by kernel_rfl) (by kernel_rfl) (by kernel_rfl) (fun _ _ _ h => h) (.inl ⟨by rfl, fun w hSw => by go_simp⟩) hHeld ?_
    simp only [Act.put, gTo, gZe, gSu, sTo, sZe, sSu]
    refine wpAnyH_take (i := 5) (v := .int .i64 q.net) rfl (by kernel_rfl) (by kernel_rfl) (by kernel_rfl) (fun _ _ _ h => h) (.inl ⟨by rfl, fun w hSw => by obtain ⟨_, _, _, _, _, _, _, _, _, _, _, _, _, _, _, _, _, _, q18, _, _⟩ := cells21 hSw; go_simp⟩) hHeld ?_
    simp only [Act.put, gTo, gZe, gSu, sTo, sZe, sSu]
    refine wpAnyH_take (i := 6) (v := .pointer (some ⟨w.heap.size, 20, none⟩)) rfl (by kernel_rfl) (by kernel_rfl) (by kernel_rfl) (fun _ _ _ h => h) (.inl ⟨by rfl, fun w hSw => by go_simp⟩) hHeld ?_
    simp only [Act.put, gTo, gZe, gSu, sTo, sZe, sSu]
    refine wpAnyH_take (i := 7) (v := .string (ba q.k)) rfl (by kernel_rfl) (by kernel_rfl) (by kernel_rfl) (fun _ _ _ h => h) (.inl ⟨by rfl, fun w hSw => by obtain ⟨_, _, _, _, _, _, _, _, _, _, _, _, _, _, _, _, _, _, _, _, q20⟩ := cells21 hSw; go_simp⟩) hHeld ?_
    simp only [Act.put, gTo, gZe, gSu, sTo, sZe, sSu]
    refine wpAnyH_take (i := 8) (v := q.v) rfl (by kernel_rfl) (by kernel_rfl) (by kernel_rfl) (fun _ _ _ h => h) (yields_row 77 (.tmp 1) rfl rfl w.heap.size rfl 77 q.cs _ (fun _ z => z) Tryz.underlying77 rfl (by kernel_rfl)) hHeld ?_
    simp only [Act.put, gTo, gZe, gSu, sTo, sZe, sSu]
    refine wpAnyH_take (i := 10) (v := .pointer (some ⟨w.heap.size, 17, none⟩)) rfl (by kernel_rfl) (by kernel_rfl) (by kernel_rfl) (fun _ _ _ h => h) (.inl ⟨by rfl, fun w hSw => by go_simp⟩) hHeld ?_
    simp only [Act.put, gTo, gZe, gSu, sTo, sZe, sSu]
    refine wpAnyH_take (i := 11) (v := .int .i64 q.now) rfl (by kernel_rfl) (by kernel_rfl) (by kernel_rfl) (fun _ _ _ h => h) (.inl ⟨by rfl, fun w hSw => by obtain ⟨_, _, _, _, _, _, _, _, _, _, _, _, _, _, _, _, _, q17, _, _, _⟩ := cells21 hSw; go_simp⟩) hHeld ?_
    simp only [Act.put, gTo, gZe, gSu, sTo, sZe, sSu]
    refine wpAnyH_ready (rs := [9]) (by kernel_rfl) (by simp) ?_
    refine AllReadyH.cons rfl (fun K2 hK2 => ?_) AllReadyH.nil
    go_simp
    go_at_call 140
    refine (C1.out _ (Below.refl _ _).drew).mono ?_
    rintro ee w1 ⟨rfl, hbu1⟩
    have hb1 : Below w0.heap.size w0 w1 := below_undrew hbu1
    refine hK2.out _ _ (KR.out _ hb1) (fun hHeld => ?_)
    clear hK2 K2
    try simp only [Act.put, gTo, gZe, gSu, sTo, sZe, sSu]
    refine wpAnyH_ready (rs := [12]) (by kernel_rfl) (by simp) ?_
    refine AllReadyH.cons rfl (fun K2 hK2 => ?_) AllReadyH.nil
    go_simp
    go_at_call 139
    refine (C2.out _ hb1).mono ?_
    rintro ee w2 ⟨rfl, hbu2⟩
    have hb2 : Below w0.heap.size w0 w2 := tr hb1 hbu2
    refine hK2.out _ _ (KR.out _ hb2) (fun hHeld => ?_)
    clear hK2 K2
    try simp only
    refine wpAnyH_take (i := 13) (v := .tuple #[.int .i64 a, .bool b]) rfl (by kernel_rfl) (by kernel_rfl) (by kernel_rfl) (fun _ _ _ h => h) (.inl ⟨by rfl, fun w hSw => by go_simp⟩) hHeld ?_
    simp only [Act.put, gTo, gZe, gSu, sTo, sZe, sSu]
    refine wpAnyH_take (i := 14) (v := .int .i64 a) rfl (by kernel_rfl) (by kernel_rfl) (by kernel_rfl) (fun _ _ _ h => h) (.inl ⟨by rfl, fun w hSw => by go_simp⟩) hHeld ?_
    simp only [Act.put, gTo, gZe, gSu, sTo, sZe, sSu]
    refine wpAnyH_take (i := 15) (v := .bool b) rfl (by kernel_rfl) (by kernel_rfl) (by kernel_rfl) (fun _ _ _ h => h) (.inl ⟨by rfl, fun w hSw => by go_simp⟩) hHeld ?_
    simp only [Act.put, gTo, gZe, gSu, sTo, sZe, sSu]
    refine wpAnyH_take (i := 16) (v := .int .i64 a) rfl (by kernel_rfl) (by kernel_rfl) (by kernel_rfl) (fun _ _ _ h => h) (.inl ⟨by rfl, fun w hSw => by go_simp⟩) hHeld ?_
    simp only [Act.put, gTo, gZe, gSu, sTo, sZe, sSu]
    refine wpAnyH_take (i := 17) (v := .bool b) rfl (by kernel_rfl) (by kernel_rfl) (by kernel_rfl) (fun _ _ _ h => h) (.inl ⟨by rfl, fun w hSw => by go_simp⟩) hHeld ?_
    simp only [Act.put, gTo, gZe, gSu, sTo, sZe, sSu]
    refine wpAnyH_done (by kernel_rfl) ?_ _
    go_wp2_with fail
    go_meet
    exact ⟨rfl, rfl, Lib.hid hb2⟩
  case rest =>
  obtain ⟨rfl, rfl, HB2⟩ := hcut
  obtain ⟨w2, hww⟩ : ∃ z, z = wc := ⟨_, rfl⟩
  subst hww
  cases b with
  | false =>
    go_wp2_with (refine wpList_store_row rfl 37 (.tmp 2) (.tmp 26) rfl (w.heap.size + 1) (zav) rfl rfl 37 zav (KZ.out w2 HB2.out) (by kernel_rfl) rfl (by kernel_rfl) ?_; obtain ⟨w9, hw9⟩ : ∃ w9, w9 = w2.setRow (w.heap.size + 1) (zav) := ⟨_, rfl⟩; rw [← hw9]; have HW9 := Lib.hid hw9; clear hw9)
    (try simp only [Exit.inBlock, Exit.then])
    refine bodyPost_ret (ret_ans rfl _ _ (w.heap.size + 1) (zav) rfl (by rw [HW9.out]; exact rowC (KZ.out w2 HB2.out) _) rfl) rfl ?_
    exact ⟨zA, rfl, .inl rfl, rfl, by rw [HW9.out]; exact rowB (tr HB0.out HB2.out) (Nat.le_add_right _ 1) _⟩
  | true =>
    have hmay := HCM.out rfl
    have hfo := (may_found hmay).1
    have hpos := may_pos hmay
    have hfair := fair_found (m := q.x.mm) (kind := 2) hfo HR0.out (.inl rfl) (rightB_iff.2 ⟨by omega, by omega⟩)
    have HOF : Hid (offerE q.c.cf q.x.mm a = sentE q.c.cf (findC q.c.cf a).1 (findC q.c.cf a).2.1 q.x.mm 2 a) := rfl
    have C5 := Lib.hid (fun W hW => C4.out _ _ _ hfair W hW)
    have C6 := Lib.hid (fun W hW => C3.out a W hW)
    clear hmay hpos hfair hfo C1 C2 C3 C4 HCM HR0
    generalize sentE q.c.cf (findC q.c.cf a).1 (findC q.c.cf a).2.1 q.x.mm 2 a = SE at C5 HOF
    obtain ⟨fi, hfi⟩ : ∃ fi, findC q.c.cf a = fi := ⟨_, rfl⟩
    rw [hfi] at C5 C6
    obtain ⟨f1, f2, f3⟩ := fi
    clear hfi
    obtain ⟨q0, q1, q2, _, _, _, _, _, _, _, _, _, _, _, _, _, _, _, _, _, _⟩ := KQ.out w2 HB2.out
    go_wp2_with fail
    refine (C6.out w2 HB2.out).mono ?_
    rintro e w3 ⟨rfl, hb3⟩
    have HB3 := Lib.hid (tr HB2.out hb3)
    clear hb3 q0 q1 q2
    go_wp2_with (refine wpList_load_row rfl 77 (.tmp 1) rfl w.heap.size rfl 77 q.cs (0, 0) _ (KR.out w3 HB3.out) Tryz.underlying77 rfl (by kernel_rfl) ?_)
    refine (C5.out w3 HB3.out).mono ?_
    rintro e w4 ⟨y, rfl, hmp, hya, hb4⟩
    have HB4 := Lib.hid (tr HB3.out hb4)
    have HMP := Lib.hid (hmp.mono (Nat.le_trans HB0.out.size HB3.out.size))
    have HYA := Lib.hid hya
    clear hb4 hmp hya
    go_wp2_with (refine wpList_store_row rfl 37 (.tmp 2) (.tmp 39) rfl (w.heap.size + 1) (y.cs) rfl rfl 37 zav (KZ.out w4 HB4.out) (by kernel_rfl) rfl (by kernel_rfl) ?_; obtain ⟨w9, hw9⟩ : ∃ w9, w9 = w4.setRow (w.heap.size + 1) (y.cs) := ⟨_, rfl⟩; rw [← hw9]; have HW9 := Lib.hid hw9; clear hw9)
    (try simp only [Exit.inBlock, Exit.then])
    refine bodyPost_ret (ret_ans rfl _ _ (w.heap.size + 1) (y.cs) rfl (by rw [HW9.out]; exact rowC (KZ.out w4 HB4.out) _) rfl) rfl ?_
    exact ⟨y, rfl, by rw [HW9.out]; exact HMP.out.off (KZ.out w4 HB4.out) (rowG _ _ _), HYA.out.trans HOF.out.symm, by rw [HW9.out]; exact rowB (tr HB0.out HB4.out) (Nat.le_add_right _ 1) _⟩
end Go.Proofs.YtoldppbakapohaaGreatDoor.Ez
end
/- What a query's grant comes to. Conditions: the query reads (Qv.ok), the client may have the address; what msg's package-level variables hold (En.ok). -/
section
set_option maxRecDepth 8000
namespace Go.Proofs.YtoldppbakapohaaGreatDoor.Ez
open Go.RowKit Tl Co Ms Cf Ad By Rp Ky Rc Ew Jw La Tb Pk Al Cl Eg Ey
open Dw (ba ba_size ba_data ba_list)
open Pw (alloc_more celM_all boxM)
open Vw (Cx cel3C atN atS snsOf sns_len sns_get nets_get)
open Rpw (Mo)

theorem lease_row {w : World} {g : Nat} (h : Cel w g 35 #[.int .i64 0, .int .i64 0, .int .i64 0, .string ⟨#[]⟩]) (l : L) : Cel (w.setRow g (lcs l)) g 35 (lcs l) := rowC h _
set_option maxHeartbeats 16000000 in
theorem grant_any (E : Mw.En) (q : Qv) (a : Int) (U : Nat) (w : World) (h : q.ok U w) (hU : U ≤ w.heap.size) (hE : E.ok w) (hm : mayA q.c.cf q.l q.net q.k a q.now = true) : Calls Tryz.prog 147 #[q.v, .int .i64 a] w (AnP w (givenE q.c.cf q.l q.x.mm q.k a q.now)) := by
  have hfo := (may_found hm).1
  have hpos := may_pos hm
  have hsub := found_sub hfo
  have hfair := fair_found (m := q.x.mm) (kind := 5) hfo h.r (.inr (.inl rfl)) (rightB_iff.2 ⟨by omega, by omega⟩)
  obtain ⟨_, ⟨hn0, hn1⟩, hs0', hs1⟩ := Rpw.subB_iff.1 hsub
  have htime := time_of (find_sn hfo).2.1
  obtain ⟨w0, hw0, hq0, hz0, hb0, hs0⟩ := boxQ w q
  have KQ := Lib.hid (fun W (hW : Below w0.heap.size w0 W) => cells21 (hq0.below hW hq0.lt))
  have KR := Lib.hid (fun W (hW : Below w0.heap.size w0 W) => hq0.below hW hq0.lt)
  have KZ := Lib.hid (fun W (hW : Below w0.heap.size w0 W) => hz0.below hW hz0.lt)
  have HB0 := Lib.hid hb0
  have HS0 := Lib.hid hs0
  have HB00 := Lib.hid (Below.refl w0.heap.size w0)
  have C1 := Lib.hid (fun W (hW : Below w0.heap.size w0 W) => Xw.find_any q.c a U W (h.below hU (tr hb0 hW)).c (Nat.le_trans hU (tr hb0 hW).size) h.s)
  have C3 := Lib.hid (fun (y : L) (hy : Fk y) W (hW : Below w0.heap.size w0 W) => Bw.set_any q.A q.n q.cc U q.l y W (h.below hU (tr hb0 hW)).t (Nat.le_trans hU (tr hb0 hW).size) h.f hy)
  have HG : Hid (givenE q.c.cf q.l q.x.mm q.k a q.now = if (setT q.l (givenL q.c.cf q.k a q.now)).2 = 0 then grantE q.c.cf q.x.mm q.k a q.now else zeroA) := rfl
  have HGL : Hid (givenL q.c.cf q.k a q.now = ⟨a, 1, endE q.now (snC q.c.cf (findC q.c.cf a).1 (findC q.c.cf a).2.1).time, q.k⟩) := rfl
  have HGR : Hid (grantE q.c.cf q.x.mm q.k a q.now = { sentE q.c.cf (findC q.c.cf a).1 (findC q.c.cf a).2.1 q.x.mm 5 a with keep := true, lease := givenL q.c.cf q.k a q.now }) := rfl
  generalize grantE q.c.cf q.x.mm q.k a q.now = GR at HG HGR
  generalize givenE q.c.cf q.l q.x.mm q.k a q.now = R at HG ⊢
  generalize givenL q.c.cf q.k a q.now = gl at HG HGL HGR
  obtain ⟨fi, hfi⟩ : ∃ fi, findC q.c.cf a = fi := ⟨_, rfl⟩
  rw [hfi] at C1 HGL HGR hfo hfair hn0 hn1 hs0' hs1 htime
  obtain ⟨f1, f2, f3⟩ := fi
  dsimp only at hfo hfair hn0 hn1 hs0' hs1 htime HGL HGR
  obtain rfl : f3 = true := hfo
  obtain ⟨i, rfl⟩ := Int.eq_ofNat_of_zero_le hn0
  obtain ⟨j, rfl⟩ := Int.eq_ofNat_of_zero_le hs0'
  have C4 := Lib.hid (fun W (hW : Below w0.heap.size w0 W) => send_any E q (i : Int) (j : Int) 5 a U W (h.below hU (tr hb0 hW)) (Nat.le_trans hU (tr hb0 hW).size) (hE.below (tr hb0 hW)) hfair (fun e => absurd e (by decide)))
  have hrd := Vw.Cx.ok.rd (h.c.below (hb0.mono hU))
  have hin : i < q.c.n := by have e := Vw.Cx.ok.nets h.c; omega
  have hcap := hrd.cap
  have hmax := hrd.max
  obtain ⟨b, o, nx, m, hA, hbU, hget, hrx, hcell⟩ := atN hrd hin
  have hcap2 := hrx.cap
  have hmax2 := hrx.max
  have hgn : q.c.cf.nets.getD i [] = snsOf nx.xs := by rw [List.getD_eq_getElem?_getD, show q.c.cf.nets[i]? = some (snsOf nx.xs) from nets_get hget.out]; rfl
  have hjm : j < m := by
    rw [Int.toNat_natCast, hgn, sns_len, hrx.len] at hs1
    omega
  obtain ⟨bs, os, s, pn, rn, hAs, hbs, hgs, _, _, _, hsev⟩ := atS hrx hjm
  have hat : snC q.c.cf (i : Int) (j : Int) = s.s := by
    unfold snC
    rw [Int.toNat_natCast, Int.toNat_natCast, hgn, List.getD_eq_getElem?_getD, sns_get hgs.out]
    rfl
  rw [hat] at HGL htime
  have ht2 : 0 ≤ s.time ∧ s.time ≤ 4294967295 := rightB_iff.1 htime
  have C2 := Lib.hid (fun W (hW : Below w0.heap.size w0 W) => after_any q s.time U W (h.below hU (tr hb0 hW)) ht2)
  have HGL2 : Hid (gl = ⟨a, 1, endE q.now s.time, q.k⟩) := HGL.out
  have HFK : Hid (Fk gl) := by show Fk gl; rw [HGL2.out]; exact h.k
  have HCE := Lib.hid (fun W (hW : Below w0.heap.size w0 W) => (hW.cell (p := ⟨b, o + i, none⟩) (by show b < w0.heap.size; have := hb0.size; omega)).trans hcell)
  have HTE := Lib.hid (fun W (hW : Below w0.heap.size w0 W) => (hW.cell (p := ⟨bs, os + j * 7 + 6, none⟩) (by show bs < w0.heap.size; have := hb0.size; omega)).trans hsev.2.2.2.2.2.2)
  rw [hAs] at HCE
  have KA := Lib.hid (fun W (hW : Below w0.heap.size w0 W) => (cells21 (hq0.below hW hq0.lt)).2.2.1)
  rw [hA] at KA
  clear h hU hE hm hfair hpos hsub hn1 hs1 htime hfi HGL hrd hA hget hrx hgn hAs hgs hat ht2 hcell hsev hq0 hz0 hb0 hs0
  generalize endE q.now s.time = en at C2 HGL2
  obtain ⟨q0, q1, q2, _, _, _, _, _, _, _, _, _, _, _, _, _, _, _, _, _, _⟩ := KQ.out w0 HB00.out
  go_enter Tryz.func147, Tryz.ntmps147
  go_upto_region 1 with fail
  rw [← hw0]
  clear hw0
  go_wp2_with fail
  refine (C1.out w0 HB00.out).mono ?_
  rintro e w1 ⟨rfl, hb1⟩
  have HB1 := Lib.hid hb1
  have hc01 := hb1
  clear hb1 q0 q1 q2
  have va := KA.out w1 HB1.out
  have vc := HCE.out w1 HB1.out
  have vt := HTE.out w1 HB1.out
  go_upto_region 3 with fail
  clear va vc vt
  go_cut [9] from 32 to 38 (fun v wx => ∃ g : Nat, v = .pointer (some ⟨g, 0, none⟩) ∧ Hid (Cel wx g 35 (lcs gl)) ∧ Hid (w0.heap.size ≤ g) ∧ Hid (Below w0.heap.size w0 wx))
  case first =>
    refine wp_region_held_drew (S := (fun W => Cel W w.heap.size 77 q.cs)) (by kernel_rfl) ?_ (fun hHeld => ?_)
    · exact KR.out _ (hc01).drew
    refine wpAnyH_take (i := 0) (v := .int .i64 a) rfl (by kernel_rfl) (by kernel_rfl) (by kernel_rfl) (fun _ _ _ h => h) (.inl ⟨by rfl, fun w hSw => by go_simp⟩) hHeld ?_
    simp only [Act.put, gTo, gZe, sTo, sZe, sSu]
    refine wpAnyH_take (i := 1) (v := q.v) rfl (by kernel_rfl) (by kernel_rfl) (by kernel_rfl) (fun _ _ _ h => h) (yields_row 77 (.tmp 2) rfl rfl w.heap.size rfl 77 q.cs _ (fun _ z => z) Tryz.underlying77 rfl (by kernel_rfl)) hHeld ?_
    simp only [Act.put, gTo, gZe, gSu, sTo, sZe, sSu]
    refine wpAnyH_take (i := 2) (v := .int .i64 s.time) rfl (by kernel_rfl) (by kernel_rfl) (by kernel_rfl) (fun _ _ _ h => h) (.inl ⟨by rfl, fun w hSw => by go_simp⟩) hHeld ?_
    simp only [Act.put, gTo, gZe, gSu, sTo, sZe, sSu]
    refine wpAnyH_take (i := 4) (v := .pointer (some ⟨w.heap.size, 20, none⟩)) rfl (by kernel_rfl) (by kernel_rfl) (by kernel_rfl) (fun _ _ _ h => h) (.inl ⟨by rfl, fun w hSw => by go_simp⟩) hHeld ?_
    simp only [Act.put, gTo, gZe, gSu, sTo, sZe, sSu]
    refine wpAnyH_take (i := 5) (v := .string (ba q.k)) rfl (by kernel_rfl) (by kernel_rfl) (by kernel_rfl) (fun _ _ _ h => h) (.inl ⟨by rfl, fun w hSw => by obtain ⟨_, _, _, _, _, _, _, _, _, _, _, _, _, _, _, _, _, _, _, _, q20⟩ := cells21 hSw; go_simp⟩) hHeld ?_
    simp only [Act.put, gTo, gZe, gSu, sTo, sZe, sSu]
    refine wpAnyH_ready (rs := [3, 7]) (by kernel_rfl) (by simp) ?_
    refine AllReadyH.cons rfl (fun K2 hK2 => ?_) (AllReadyH.cons rfl (fun K2 hK2 => ?_) AllReadyH.nil)
    · go_simp
      go_at_call 149
      refine (C2.out _ hc01.drew).mono ?_
      rintro ee w4 ⟨rfl, hbu⟩
      have hb4 : Below w0.heap.size w0 w4 := tr hc01 (below_undrew hbu)
      refine hK2.out _ _ (KR.out _ hb4) (fun hHeld => ?_)
      clear hK2 K2
      try simp only [Act.put, gTo, gZe, gSu, sTo, sZe, sSu]
      refine wpAnyH_take (i := 6) (v := .agg (lcs ⟨a, 1, en, q.k⟩)) rfl (by kernel_rfl) (by kernel_rfl) (by kernel_rfl) (fun _ _ _ h => h) (.inl ⟨by rfl, fun w hSw => by go_simp⟩) hHeld ?_
      simp only [Act.put, gTo, gZe, gSu, sTo, sZe, sSu]
      refine wpAnyH_ready (rs := [7]) (by kernel_rfl) (by simp) ?_
      refine AllReadyH.cons rfl (fun K2 hK2 => ?_) AllReadyH.nil
      go_simp
      obtain ⟨w5, hw5⟩ : ∃ w5, w5 = w4.alloc (.cells #[.int .i64 0, .int .i64 0, .int .i64 0, .string ⟨#[]⟩] 35) := ⟨_, rfl⟩
      rw [← hw5]
      have HZL := Lib.hid (show Cel w5 w4.heap.size 35 #[.int .i64 0, .int .i64 0, .int .i64 0, .string ⟨#[]⟩] by rw [hw5]; exact Cel.born _ _ _)
      have hb5 : Below w0.heap.size w0 w5 := tr hb4 (by rw [hw5]; exact alloc_more _ _)
      have hge : w0.heap.size ≤ w4.heap.size := hb4.size
      clear hw5
      refine hK2.out _ _ (KR.out _ hb5) (fun hHeld => ?_)
      clear hK2 K2
      try simp only [Act.put, gTo, gZe, gSu, sTo, sZe, sSu]
      refine wpAnyH_ready (rs := [8]) (by kernel_rfl) (by simp) ?_
      refine AllReadyH.cons rfl (fun K2 hK2 => ?_) AllReadyH.nil
      refine wp_store_row 35 (.tmp 9) (.tmp 38) rfl w4.heap.size (lcs ⟨a, 1, en, q.k⟩) rfl rfl 35 #[.int .i64 0, .int .i64 0, .int .i64 0, .string ⟨#[]⟩] HZL.out (by kernel_rfl) rfl (by kernel_rfl) ?_
      obtain ⟨w9, hw9⟩ : ∃ w9, w9 = w5.setRow (w4.heap.size) (lcs ⟨a, 1, en, q.k⟩) := ⟨_, rfl⟩
      rw [← hw9]
      have HL9 := Lib.hid (show Cel w9 (w4.heap.size) 35 (lcs gl) by rw [hw9, HGL2.out]; exact lease_row HZL.out _)
      have HB9 := Lib.hid (show Below w0.heap.size w0 w9 by rw [hw9]; exact rowB hb5 hge _)
      clear hw9
      refine hK2.out _ _ (KR.out _ HB9.out) (fun hHeld => ?_)
      clear hK2 K2
      try simp only [Act.put, gTo, gZe, gSu]
      refine wpAnyH_done (by kernel_rfl) ?_ _
      go_wp2_with fail
      go_meet
      exact ⟨_, rfl, HL9, Lib.hid hge, HB9⟩
    · go_simp
      obtain ⟨w5, hw5⟩ : ∃ w5, w5 = (w1.alloc (.cells #[.int .i64 0, .int .i64 0, .int .i64 0, .string ⟨#[]⟩] 35)).drew := ⟨_, rfl⟩
      rw [← hw5]
      have HZ5 := Lib.hid (show Cel w5 w1.heap.size 35 #[.int .i64 0, .int .i64 0, .int .i64 0, .string ⟨#[]⟩] by rw [hw5]; exact Cel.born _ _ _)
      have hb5 : Below w0.heap.size w0 w5 := by rw [hw5]; exact (tr hc01 (alloc_more _ _)).drew
      have hge : w0.heap.size ≤ w1.heap.size := hc01.size
      clear hw5
      refine hK2.out _ _ (KR.out _ hb5) (fun hHeld => ?_)
      clear hK2 K2
      try simp only [Act.put, gTo, gZe, gSu, sTo, sZe, sSu]
      refine wpAnyH_ready (rs := [3]) (by kernel_rfl) (by simp) ?_
      refine AllReadyH.cons rfl (fun K2 hK2 => ?_) AllReadyH.nil
      go_simp
      go_at_call 149
      refine (C2.out _ hb5).mono ?_
      rintro ee w4 ⟨rfl, hbu⟩
      have hb4 : Below w0.heap.size w0 w4 := tr hb5 hbu
      have HZL := Lib.hid (HZ5.out.below hbu HZ5.out.lt)
      refine hK2.out _ _ (KR.out _ hb4) (fun hHeld => ?_)
      clear hK2 K2
      try simp only [Act.put, gTo, gZe, gSu, sTo, sZe, sSu]
      refine wpAnyH_take (i := 6) (v := .agg (lcs ⟨a, 1, en, q.k⟩)) rfl (by kernel_rfl) (by kernel_rfl) (by kernel_rfl) (fun _ _ _ h => h) (.inl ⟨by rfl, fun w hSw => by go_simp⟩) hHeld ?_
      simp only [Act.put, gTo, gZe, gSu, sTo, sZe, sSu]
      refine wpAnyH_ready (rs := [8]) (by kernel_rfl) (by simp) ?_
      refine AllReadyH.cons rfl (fun K2 hK2 => ?_) AllReadyH.nil
      refine wp_store_row 35 (.tmp 9) (.tmp 38) rfl w1.heap.size (lcs ⟨a, 1, en, q.k⟩) rfl rfl 35 #[.int .i64 0, .int .i64 0, .int .i64 0, .string ⟨#[]⟩] HZL.out (by kernel_rfl) rfl (by kernel_rfl) ?_
      obtain ⟨w9, hw9⟩ : ∃ w9, w9 = w4.setRow (w1.heap.size) (lcs ⟨a, 1, en, q.k⟩) := ⟨_, rfl⟩
      rw [← hw9]
      have HL9 := Lib.hid (show Cel w9 (w1.heap.size) 35 (lcs gl) by rw [hw9, HGL2.out]; exact lease_row HZL.out _)
      have HB9 := Lib.hid (show Below w0.heap.size w0 w9 by rw [hw9]; exact rowB hb4 hge _)
      clear hw9
      refine hK2.out _ _ (KR.out _ HB9.out) (fun hHeld => ?_)
      clear hK2 K2
      try simp only [Act.put, gTo, gZe, gSu]
      refine wpAnyH_done (by kernel_rfl) ?_ _
      go_wp2_with fail
      go_meet
      exact ⟨_, rfl, HL9, Lib.hid hge, HB9⟩
  case rest =>
  obtain ⟨lg, rfl, HL2, HLG, HB2⟩ := hcut
  obtain ⟨w2, hww⟩ : ∃ z, z = wc := ⟨_, rfl⟩
  subst hww
  obtain ⟨l0, l1, l2, l3⟩ := Bw.cel4L HL2.out
  obtain ⟨_, _, _, q3, _, _, _, _, _, _, _, _, _, _, _, _, _, _, _, _, _⟩ := KQ.out w2 HB2.out
  obtain ⟨sp, hsp⟩ : ∃ sp, setT q.l gl = sp := ⟨_, rfl⟩
  have HSV := Lib.hid (C3.out gl HFK.out w2 HB2.out)
  rw [hsp] at HSV HG
  obtain ⟨sl, se⟩ := sp
  clear hsp hc01
  go_wp2_with fail
  refine HSV.out.mono ?_
  rintro e w3 ⟨A4, n4, k4, rfl, hown, hb3⟩
  have HB3 := Lib.hid (tr HB2.out hb3)
  have HL3 := Lib.hid (HL2.out.below hb3 HL2.out.lt)
  clear hown hb3 l0 l1 l2 l3 q3
  by_cases hse : se = 0
  rotate_left
  · have HR : Hid (R = zeroA) := by show _ = _; rw [HG.out, if_neg hse]
    have hsb : (se != 0) = true := by simpa using hse
    clear hse
    go_wp2_with (refine wpList_store_row rfl 37 (.tmp 4) (.tmp 48) rfl (w.heap.size + 1) (zav) rfl rfl 37 zav (KZ.out w3 HB3.out) (by kernel_rfl) rfl (by kernel_rfl) ?_; obtain ⟨w9, hw9⟩ : ∃ w9, w9 = w3.setRow (w.heap.size + 1) (zav) := ⟨_, rfl⟩; rw [← hw9]; have HW9 := Lib.hid hw9; clear hw9)
    (try simp only [Exit.inBlock, Exit.then])
    refine bodyPost_ret (ret_ans rfl _ _ (w.heap.size + 1) (zav) rfl (by rw [HW9.out]; exact rowC (KZ.out w3 HB3.out) _) rfl) rfl ?_
    exact ⟨zA, rfl, .inl rfl, by rw [HR.out]; rfl, by rw [HW9.out]; exact rowB (tr HB0.out HB3.out) (Nat.le_add_right _ 1) _⟩
  · subst hse
    have HR : Hid (R = GR) := by show _ = _; rw [HG.out]; exact if_pos rfl
    go_wp2_with (refine wpList_load_row rfl 77 (.tmp 2) rfl w.heap.size rfl 77 q.cs (0, 0) _ (KR.out w3 HB3.out) Tryz.underlying77 rfl (by kernel_rfl) ?_)
    refine (C4.out w3 HB3.out).mono ?_
    rintro e w4 ⟨y, rfl, hmk, hya, hb4⟩
    have HMK := Lib.hid hmk
    have HYA := Lib.hid hya
    have hal := alloc_more w4 (.cells y.cs 37)
    obtain ⟨w5, hw5⟩ : ∃ w5, w5 = w4.alloc (.cells y.cs 37) := ⟨_, rfl⟩
    have HY5 := Lib.hid (show Cel w5 w4.heap.size 37 y.cs by rw [hw5]; exact Cel.born _ _ _)
    rw [← hw5] at hal
    have HB45 := Lib.hid hal
    have HB5 := Lib.hid (tr (tr HB3.out hb4) hal)
    have HL5 := Lib.hid ((HL3.out.below hb4 HL3.out.lt).below hal (Nat.lt_of_lt_of_le HL3.out.lt hb4.size))
    have HG4 : Hid (w0.heap.size ≤ w4.heap.size) := Nat.le_trans HB3.out.size hb4.size
    have HLT4 : Hid (lg < w4.heap.size) := Nat.lt_of_lt_of_le HL3.out.lt hb4.size
    have HSN : Hid (y.send = true) := congrArg An.send hya
    clear hmk hya hal hb4
    go_upto_region 8 with (refine wpList_store_row rfl 37 (.tmp 12) (.tmp 53) rfl w4.heap.size y.cs rfl rfl 37 zav (Cel.born w4 37 zav) (by kernel_rfl) rfl (by kernel_rfl) ?_; rw [World.setRow_alloc_new, ← hw5]; clear hw5)
    obtain ⟨⟨y0, y1, y2, y3, y4, y5, y6, y7, y8, y9, y10, y11, y12, y13, y14, y15, y16, y17, y18, y19, y20, y21⟩, yf⟩ := cells22 HY5.out
    rw [HSN.out] at y0
    obtain ⟨l0, l1, l2, l3⟩ := Bw.cel4L HL5.out
    have hne1 : lg ≠ w4.heap.size := Nat.ne_of_lt HLT4.out
    have hne2 : w4.heap.size ≠ lg := fun e => hne1 e.symm
    clear y2 y3 y4 y5 y6 y7 y8 y9 y10 y11 y12 y13 y14 y15 y16 y17
    go_upto_region 9 with fail
    go_cut [56] from 56 to 58 (fun _ wx => Hid (Cel wx w4.heap.size 37 (keepV y gl).cs) ∧ Hid (Below w0.heap.size w0 wx) ∧ Hid (Below w4.heap.size w4 wx))
    case first =>
      have hb6 : ∀ {B : Nat} {v : World}, Below B v w5 → B ≤ w4.heap.size → Below B v ((((((w5.setCell ⟨w4.heap.size, 1, none⟩ (.bool true)).setCell ⟨w4.heap.size, 18, none⟩ (.int .i64 gl.addr)).setCell ⟨w4.heap.size, 19, none⟩ (.int .i64 gl.state)).setCell ⟨w4.heap.size, 20, none⟩ (.int .i64 gl.till)).setCell ⟨w4.heap.size, 21, none⟩ (.string (ba gl.key)))) := fun {B v} q hB => ((((q.setCell (p := ⟨w4.heap.size, 1, none⟩) hB _).setCell (p := ⟨w4.heap.size, 18, none⟩) hB _).setCell (p := ⟨w4.heap.size, 19, none⟩) hB _).setCell (p := ⟨w4.heap.size, 20, none⟩) hB _).setCell (p := ⟨w4.heap.size, 21, none⟩) hB _
      go_region
      go_wp2_with fail
      go_meet
      exact ⟨Lib.hid (cel_keep y gl HY5.out), Lib.hid (hb6 HB5.out HG4.out).drew, Lib.hid (hb6 HB45.out (Nat.le_refl _)).drew⟩
    case rest =>
    obtain ⟨HY6, HB6, HB46⟩ := hcut
    obtain ⟨w6, hww⟩ : ∃ z, z = wc := ⟨_, rfl⟩
    subst hww
    clear y0 y1 y18 y19 y20 y21 yf l0 l1 l2 l3
    go_wp2_with (first
      | refine wpList_load_row rfl 37 (.tmp 12) rfl w4.heap.size rfl 37 (keepV y gl).cs (0, 0) _ HY6.out Tryz.underlying37 rfl (by kernel_rfl) ?_
      | (refine wpList_store_row rfl 37 (.tmp 4) (.tmp 59) rfl (w.heap.size + 1) (keepV y gl).cs rfl rfl 37 zav (KZ.out w6 HB6.out) (by kernel_rfl) rfl (by kernel_rfl) ?_; obtain ⟨w9, hw9⟩ : ∃ w9, w9 = w6.setRow (w.heap.size + 1) (keepV y gl).cs := ⟨_, rfl⟩; rw [← hw9]; have HW9 := Lib.hid hw9; clear hw9))
    (try simp only [Exit.inBlock, Exit.then])
    refine bodyPost_ret (ret_ans rfl _ _ (w.heap.size + 1) (keepV y gl).cs rfl (by rw [HW9.out]; exact rowC (KZ.out w6 HB6.out) _) rfl) rfl ?_
    refine ⟨keepV y gl, rfl, ?_, ?_, by rw [HW9.out]; exact rowB (tr HB0.out HB6.out) (Nat.le_add_right _ 1) _⟩
    · rw [HW9.out]
      exact ((HMK.out.below HB46.out).off (KZ.out w6 HB6.out) (rowG _ _ _)).mono (Nat.le_trans HB0.out.size HB3.out.size)
    · rw [HR.out, HGR.out, ← HYA.out]
      rfl
end Go.Proofs.YtoldppbakapohaaGreatDoor.Ez
end
/- What a query's request comes to. Conditions: the query reads (Qv.ok); what msg's package-level variables hold (En.ok). -/
section
set_option maxRecDepth 8000
namespace Go.Proofs.YtoldppbakapohaaGreatDoor.Ez
open Go.RowKit Tl Co Ms Cf Ad By Rp Ky Rc Ew Jw La Tb Pk Al Cl Eg Ey
open Dw (ba ba_size ba_data ba_list)
open Pw (alloc_more celM_all boxM)
open Vw (Cx cel3C)
open Rpw (Mo)

theorem class_range (m : M) : classL m = 0 ∨ classL m = 1 ∨ classL m = 2 ∨ classL m = 3 := by
  rcases class_cases m with h | h | h | h
  · exact .inl h
  · exact .inr (.inl h.1)
  · exact .inr (.inr (.inl h.1))
  · exact .inr (.inr (.inr h.1))
set_option maxHeartbeats 16000000 in
theorem request_any (E : Mw.En) (q : Qv) (U : Nat) (w : World) (h : q.ok U w) (hU : U ≤ w.heap.size) (hE : E.ok w) : Calls Tryz.prog 82 #[q.v] w (AnP w (requestE q.c.cf q.l q.x.mm q.k q.net q.sub q.now)) := by
  obtain ⟨w0, hw0, hq0, hz0, hb0, hs0⟩ := boxQ w q
  have KQ := Lib.hid (fun W (hW : Below w0.heap.size w0 W) => cells21 (hq0.below hW hq0.lt))
  have KR := Lib.hid (fun W (hW : Below w0.heap.size w0 W) => hq0.below hW hq0.lt)
  have KZ := Lib.hid (fun W (hW : Below w0.heap.size w0 W) => hz0.below hW hz0.lt)
  have HB0 := Lib.hid hb0
  have HS0 := Lib.hid hs0
  have HB00 := Lib.hid (Below.refl w0.heap.size w0)
  have C1 := Lib.hid (fun W (hW : Below w0.heap.size w0 W) => Gw.about_any q.x W (h.below hU (tr hb0 hW)).x h.sm)
  have C2 := Lib.hid (fun W (hW : Below w0.heap.size w0 W) => Gw.of_any q.x W (h.below hU (tr hb0 hW)).x h.sm)
  have C3 := Lib.hid (fun W (hW : Below w0.heap.size w0 W) => Bw.get_any q.A q.n q.cc U q.l (aboutL q.x.mm) W (h.below hU (tr hb0 hW)).t (Nat.le_trans hU (tr hb0 hW).size) h.f)
  have C4 := Lib.hid (fun W (hW : Below w0.heap.size w0 W) => here_any q (aboutL q.x.mm) U W (h.below hU (tr hb0 hW)) (Nat.le_trans hU (tr hb0 hW).size))
  have C5 := Lib.hid (fun W (hW : Below w0.heap.size w0 W) => deny_any E q U W (h.below hU (tr hb0 hW)) (Nat.le_trans hU (tr hb0 hW).size) (hE.below (tr hb0 hW)))
  have C6 : Hid (∀ W : World, Below w0.heap.size w0 W → Calls Tryz.prog 33 #[q.c.v, .slice q.A q.n q.cc, .int .i64 q.net, .string (ba q.k), .int .i64 (aboutL q.x.mm), .int .i64 q.now] W (Vw.isB (mayA q.c.cf q.l q.net q.k (aboutL q.x.mm) q.now) W)) := fun W hW =>
    Xw.May_any ⟨q.c, q.A, q.n, q.cc, q.l, q.net, q.k, q.now⟩ (aboutL q.x.mm) U W ⟨(h.below hU (tr hb0 hW)).c, (h.below hU (tr hb0 hW)).t, h.f, h.s, h.k⟩ (Nat.le_trans hU (tr hb0 hW).size)
  have C7 := Lib.hid (fun (hm : mayA q.c.cf q.l q.net q.k (aboutL q.x.mm) q.now = true) W (hW : Below w0.heap.size w0 W) => grant_any E q (aboutL q.x.mm) U W (h.below hU (tr hb0 hW)) (Nat.le_trans hU (tr hb0 hW).size) (hE.below (tr hb0 hW)) hm)
  have HR : Hid (requestE q.c.cf q.l q.x.mm q.k q.net q.sub q.now = if classL q.x.mm = 0 then zeroA else if inA q.c.cf q.net (aboutL q.x.mm) = false then sentE q.c.cf q.net q.sub q.x.mm 6 0 else
    if 1 < classL q.x.mm ∧ (getT q.l (aboutL q.x.mm)).2 = false then zeroA else
      if 1 < classL q.x.mm ∧ ((getT q.l (aboutL q.x.mm)).1.key ≠ q.k ∨ (getT q.l (aboutL q.x.mm)).1.state = 3) then sentE q.c.cf q.net q.sub q.x.mm 6 0 else
        if mayA q.c.cf q.l q.net q.k (aboutL q.x.mm) q.now = true then givenE q.c.cf q.l q.x.mm q.k (aboutL q.x.mm) q.now else sentE q.c.cf q.net q.sub q.x.mm 6 0) := rfl
  generalize requestE q.c.cf q.l q.x.mm q.k q.net q.sub q.now = R at HR ⊢
  generalize sentE q.c.cf q.net q.sub q.x.mm 6 0 = SE at HR C5
  have HCR := Lib.hid (class_range q.x.mm)
  generalize classL q.x.mm = cls at C2 HR HCR
  generalize aboutL q.x.mm = ab at C1 C3 C4 C6 C7 HR
  generalize inA q.c.cf q.net ab = inb at C4 HR
  generalize getT q.l ab = gt at C3 HR
  obtain ⟨gl, gb⟩ := gt
  generalize mayA q.c.cf q.l q.net q.k ab q.now = may at C6 C7 HR
  generalize givenE q.c.cf q.l q.x.mm q.k ab q.now = GE at HR C7
  clear h hU hE hq0 hz0 hb0 hs0
  go_enter Tryz.func82, Tryz.ntmps82
  go_upto_region 1 with fail
  rw [← hw0]
  clear hw0
  go_cut [3, 4] from 8 to 13 (fun v3 v4 wx => v3 = .int .i64 ab ∧ v4 = .int .i64 cls ∧ Hid (Below w0.heap.size w0 wx))
  case first =>
    refine wp_region_held_drew (S := (fun W => Cel W w.heap.size 77 q.cs)) (by kernel_rfl) ?_ (fun hHeld => ?_)
    · exact KR.out _ (Below.refl _ _).drew
    refine wpAnyH_take (i := 0) (v := .pointer (some ⟨w.heap.size, 4, none⟩)) rfl (by kernel_rfl) (by kernel_rfl) (by kernel_rfl) (fun _ _ _ h => h) (.inl ⟨by rfl, fun w hSw => by go_simp⟩) hHeld ?_
    simp only [Act.put, gTo, gZe, sTo, sZe, sSu]
    refine wpAnyH_take (i := 1) (v := .agg q.x.cells) rfl (by kernel_rfl) (by kernel_rfl) (by kernel_rfl) (fun _ _ _ h => h) (.inl ⟨by rfl, fun w hSw => by obtain ⟨_, _, _, _, q4, q5, q6, q7, q8, q9, q10, q11, q12, q13, q14, q15, q16, _, _, _, _⟩ := cells21 hSw; go_simp⟩) hHeld ?_
    simp only [Act.put, gTo, gZe, gSu, sTo, sZe, sSu]
    refine wpAnyH_take (i := 3) (v := .pointer (some ⟨w.heap.size, 4, none⟩)) rfl (by kernel_rfl) (by kernel_rfl) (by kernel_rfl) (fun _ _ _ h => h) (.inl ⟨by rfl, fun w hSw => by go_simp⟩) hHeld ?_
    simp only [Act.put, gTo, gZe, gSu, sTo, sZe, sSu]
    refine wpAnyH_take (i := 4) (v := .agg q.x.cells) rfl (by kernel_rfl) (by kernel_rfl) (by kernel_rfl) (fun _ _ _ h => h) (.inl ⟨by rfl, fun w hSw => by obtain ⟨_, _, _, _, q4, q5, q6, q7, q8, q9, q10, q11, q12, q13, q14, q15, q16, _, _, _, _⟩ := cells21 hSw; go_simp⟩) hHeld ?_
    simp only [Act.put, gTo, gZe, gSu, sTo, sZe, sSu]
    refine wpAnyH_ready (rs := [2]) (by kernel_rfl) (by simp) ?_
    refine AllReadyH.cons rfl (fun K2 hK2 => ?_) AllReadyH.nil
    go_simp
    go_at_call 142
    refine (C1.out _ (Below.refl _ _).drew).mono ?_
    rintro ee w1 ⟨rfl, hbu1⟩
    have hb1 : Below w0.heap.size w0 w1 := below_undrew hbu1
    refine hK2.out _ _ (KR.out _ hb1) (fun hHeld => ?_)
    clear hK2 K2
    try simp only [Act.put, gTo, gZe, gSu, sTo, sZe, sSu]
    refine wpAnyH_ready (rs := [5]) (by kernel_rfl) (by simp) ?_
    refine AllReadyH.cons rfl (fun K2 hK2 => ?_) AllReadyH.nil
    go_simp
    go_at_call 143
    refine (C2.out _ hb1).mono ?_
    rintro ee w2 ⟨rfl, hbu2⟩
    have hb2 : Below w0.heap.size w0 w2 := tr hb1 hbu2
    refine hK2.out _ _ (KR.out _ hb2) (fun hHeld => ?_)
    clear hK2 K2
    try simp only [Act.put, gTo, gZe, gSu, sTo, sZe, sSu]
    refine wpAnyH_take (i := 6) (v := .int .i64 ab) rfl (by kernel_rfl) (by kernel_rfl) (by kernel_rfl) (fun _ _ _ h => h) (.inl ⟨by rfl, fun w hSw => by go_simp⟩) hHeld ?_
    simp only [Act.put, gTo, gZe, gSu, sTo, sZe, sSu]
    refine wpAnyH_take (i := 7) (v := .int .i64 cls) rfl (by kernel_rfl) (by kernel_rfl) (by kernel_rfl) (fun _ _ _ h => h) (.inl ⟨by rfl, fun w hSw => by go_simp⟩) hHeld ?_
    simp only [Act.put, gTo, gZe, gSu, sTo, sZe, sSu]
    refine wpAnyH_done (by kernel_rfl) ?_ _
    go_wp2_with fail
    go_meet
    exact ⟨rfl, rfl, Lib.hid hb2⟩
  case rest =>
  obtain ⟨rfl, rfl, HB2⟩ := hcut
  obtain ⟨w2, hww⟩ : ∃ z, z = wc := ⟨_, rfl⟩
  subst hww
  clear C1 C2
  obtain ⟨cl, hcl⟩ : ∃ cl, cl = decide (1 < cls) := ⟨_, rfl⟩
  have HCL := Lib.hid hcl
  clear hcl
  go_upto_region 2 with fail
  go_cut [5] from 14 to 19 (fun v wx => v = .bool cl ∧ wx = w2)
  case first =>
    rcases HCR.out with e | e | e | e
    · obtain rfl : cl = false := by rw [HCL.out, e]; rfl
      subst e
      go_wp2_with fail
      go_meet
      exact ⟨rfl, rfl⟩
    · obtain rfl : cl = false := by rw [HCL.out, e]; rfl
      subst e
      go_wp2_with fail
      go_meet
      exact ⟨rfl, rfl⟩
    · obtain rfl : cl = true := by rw [HCL.out, e]; rfl
      subst e
      go_wp2_with fail
      go_meet
      exact ⟨rfl, rfl⟩
    · obtain rfl : cl = true := by rw [HCL.out, e]; rfl
      subst e
      go_wp2_with fail
      go_meet
      exact ⟨rfl, rfl⟩
  case rest =>
  obtain ⟨rfl, hww⟩ := hcut
  obtain rfl := hww.symm
  obtain ⟨_, _, _, q3, _, _, _, _, _, _, _, _, _, _, _, _, _, _, _, _, _⟩ := KQ.out w2 HB2.out
  go_wp2_with fail
  refine (C3.out w2 HB2.out).mono ?_
  rintro e w3 ⟨rfl, hb3⟩
  have hal := alloc_more w3 (.cells (lcs gl) 35)
  obtain ⟨w4, hw4⟩ : ∃ w4, w4 = w3.alloc (.cells (lcs gl) 35) := ⟨_, rfl⟩
  have HL4 := Lib.hid (show Cel w4 w3.heap.size 35 (lcs gl) by rw [hw4]; exact Cel.born _ _ _)
  rw [← hw4] at hal
  have HB4 := Lib.hid (tr (tr HB2.out hb3) hal)
  clear hb3 hal q3
  go_upto_region 4 with fail
  rw [← hw4]
  clear hw4
  by_cases hc0 : cls = 0
  · subst hc0
    go_wp2_with (refine wpList_store_row rfl 37 (.tmp 2) (.tmp 30) rfl (w.heap.size + 1) (zav) rfl rfl 37 zav (KZ.out w4 HB4.out) (by kernel_rfl) rfl (by kernel_rfl) ?_; obtain ⟨w9, hw9⟩ : ∃ w9, w9 = w4.setRow (w.heap.size + 1) (zav) := ⟨_, rfl⟩; rw [← hw9]; have HW9 := Lib.hid hw9; clear hw9)
    (try simp only [Exit.inBlock, Exit.then])
    refine bodyPost_ret (ret_ans rfl _ _ (w.heap.size + 1) (zav) rfl (by rw [HW9.out]; exact rowC (KZ.out w4 HB4.out) _) rfl) rfl ?_
    exact ⟨zA, rfl, .inl rfl, by rw [HR.out, if_pos trivial]; rfl, by rw [HW9.out]; exact rowB (tr HB0.out HB4.out) (Nat.le_add_right _ 1) _⟩
  have HC0 := Lib.hid hc0
  have hcb : (cls == 0) = false := by simpa using hc0
  clear hc0
  go_wp2_with (refine wpList_load_row rfl 77 (.tmp 1) rfl w.heap.size rfl 77 q.cs (0, 0) _ (KR.out w4 HB4.out) Tryz.underlying77 rfl (by kernel_rfl) ?_)
  refine (C4.out w4 HB4.out).mono ?_
  rintro e w5 ⟨rfl, hb5⟩
  have HB5 := Lib.hid (tr HB4.out hb5)
  have HL5 := Lib.hid (HL4.out.below hb5 HL4.out.lt)
  clear hb5 hcb
  cases inb with
  | false =>
    have HRN : Hid (R = SE) := by show _ = _; rw [HR.out, if_neg HC0.out, if_pos rfl]
    clear HR
    have HR := HRN
    clear HRN
    go_wp2_with (refine wpList_load_row rfl 77 (.tmp 1) rfl w.heap.size rfl 77 q.cs (0, 0) _ (KR.out w5 HB5.out) Tryz.underlying77 rfl (by kernel_rfl) ?_)
    refine (C5.out w5 HB5.out).mono ?_
    rintro e w8 ⟨y, rfl, hmp, hya, hb8⟩
    have HB8 := Lib.hid (tr HB5.out hb8)
    have HMP := Lib.hid (hmp.mono (Nat.le_trans HB0.out.size HB5.out.size))
    have HYA := Lib.hid hya
    clear hmp hya hb8
    go_wp2_with (refine wpList_store_row rfl 37 (.tmp 2) (.tmp 37) rfl (w.heap.size + 1) (y.cs) rfl rfl 37 zav (KZ.out w8 HB8.out) (by kernel_rfl) rfl (by kernel_rfl) ?_; obtain ⟨w9, hw9⟩ : ∃ w9, w9 = w8.setRow (w.heap.size + 1) (y.cs) := ⟨_, rfl⟩; rw [← hw9]; have HW9 := Lib.hid hw9; clear hw9)
    (try simp only [Exit.inBlock, Exit.then])
    refine bodyPost_ret (ret_ans rfl _ _ (w.heap.size + 1) (y.cs) rfl (by rw [HW9.out]; exact rowC (KZ.out w8 HB8.out) _) rfl) rfl ?_
    exact ⟨y, rfl, by rw [HW9.out]; exact HMP.out.off (KZ.out w8 HB8.out) (rowG _ _ _), by rw [HR.out]; exact HYA.out, by rw [HW9.out]; exact rowB (tr HB0.out HB8.out) (Nat.le_add_right _ 1) _⟩
  | true =>
  have HR2 : Hid (R = if 1 < cls ∧ gb = false then zeroA else if 1 < cls ∧ (gl.key ≠ q.k ∨ gl.state = 3) then SE else if may = true then GE else SE) := by show _ = _; rw [HR.out, if_neg HC0.out, if_neg (by decide)]
  clear HR
  cases cl with
  | false =>
    have H1 : Hid (¬ 1 < cls) := of_decide_eq_false HCL.out.symm
    have HR : Hid (R = if may = true then GE else SE) := by show _ = _; rw [HR2.out, if_neg (fun z => H1.out z.1), if_neg (fun z => H1.out z.1)]
    obtain ⟨q0, q1, q2, q3, _, _, _, _, _, _, _, _, _, _, _, _, _, q17, q18, _, q20⟩ := KQ.out w5 HB5.out
    go_wp2_with fail
    refine (C6.out w5 HB5.out).mono ?_
    rintro e w7 ⟨rfl, hb7⟩
    have HB7 := Lib.hid (tr HB5.out hb7)
    clear hb7 q0 q1 q2 q3 q17 q18 q20
    cases may with
    | false =>
      have HRN : Hid (R = SE) := by show _ = _; rw [HR.out, if_neg (by decide)]
      clear HR
      have HR := HRN
      clear HRN
      go_wp2_with (refine wpList_load_row rfl 77 (.tmp 1) rfl w.heap.size rfl 77 q.cs (0, 0) _ (KR.out w7 HB7.out) Tryz.underlying77 rfl (by kernel_rfl) ?_)
      refine (C5.out w7 HB7.out).mono ?_
      rintro e w8 ⟨y, rfl, hmp, hya, hb8⟩
      have HB8 := Lib.hid (tr HB7.out hb8)
      have HMP := Lib.hid (hmp.mono (Nat.le_trans HB0.out.size HB7.out.size))
      have HYA := Lib.hid hya
      clear hmp hya hb8
      go_wp2_with (refine wpList_store_row rfl 37 (.tmp 2) (.tmp 73) rfl (w.heap.size + 1) (y.cs) rfl rfl 37 zav (KZ.out w8 HB8.out) (by kernel_rfl) rfl (by kernel_rfl) ?_; obtain ⟨w9, hw9⟩ : ∃ w9, w9 = w8.setRow (w.heap.size + 1) (y.cs) := ⟨_, rfl⟩; rw [← hw9]; have HW9 := Lib.hid hw9; clear hw9)
      (try simp only [Exit.inBlock, Exit.then])
      refine bodyPost_ret (ret_ans rfl _ _ (w.heap.size + 1) (y.cs) rfl (by rw [HW9.out]; exact rowC (KZ.out w8 HB8.out) _) rfl) rfl ?_
      exact ⟨y, rfl, by rw [HW9.out]; exact HMP.out.off (KZ.out w8 HB8.out) (rowG _ _ _), by rw [HR.out]; exact HYA.out, by rw [HW9.out]; exact rowB (tr HB0.out HB8.out) (Nat.le_add_right _ 1) _⟩
    | true =>
      have HRN : Hid (R = GE) := by show _ = _; rw [HR.out, if_pos rfl]
      clear HR
      have HR := HRN
      clear HRN
      go_wp2_with (refine wpList_load_row rfl 77 (.tmp 1) rfl w.heap.size rfl 77 q.cs (0, 0) _ (KR.out w7 HB7.out) Tryz.underlying77 rfl (by kernel_rfl) ?_)
      refine (C7.out trivial w7 HB7.out).mono ?_
      rintro e w8 ⟨y, rfl, hmp, hya, hb8⟩
      have HB8 := Lib.hid (tr HB7.out hb8)
      have HMP := Lib.hid (hmp.mono (Nat.le_trans HB0.out.size HB7.out.size))
      have HYA := Lib.hid hya
      clear hmp hya hb8
      go_wp2_with (refine wpList_store_row rfl 37 (.tmp 2) (.tmp 76) rfl (w.heap.size + 1) (y.cs) rfl rfl 37 zav (KZ.out w8 HB8.out) (by kernel_rfl) rfl (by kernel_rfl) ?_; obtain ⟨w9, hw9⟩ : ∃ w9, w9 = w8.setRow (w.heap.size + 1) (y.cs) := ⟨_, rfl⟩; rw [← hw9]; have HW9 := Lib.hid hw9; clear hw9)
      (try simp only [Exit.inBlock, Exit.then])
      refine bodyPost_ret (ret_ans rfl _ _ (w.heap.size + 1) (y.cs) rfl (by rw [HW9.out]; exact rowC (KZ.out w8 HB8.out) _) rfl) rfl ?_
      exact ⟨y, rfl, by rw [HW9.out]; exact HMP.out.off (KZ.out w8 HB8.out) (rowG _ _ _), by rw [HR.out]; exact HYA.out, by rw [HW9.out]; exact rowB (tr HB0.out HB8.out) (Nat.le_add_right _ 1) _⟩
  | true =>
    have H1 : Hid (1 < cls) := (of_decide_eq_true HCL.out.symm : 1 < cls)
    cases gb with
    | false =>
      have HR : Hid (R = zeroA) := by show _ = _; rw [HR2.out, if_pos ⟨H1.out, rfl⟩]
      go_wp2_with (refine wpList_store_row rfl 37 (.tmp 2) (.tmp 44) rfl (w.heap.size + 1) (zav) rfl rfl 37 zav (KZ.out w5 HB5.out) (by kernel_rfl) rfl (by kernel_rfl) ?_; obtain ⟨w9, hw9⟩ : ∃ w9, w9 = w5.setRow (w.heap.size + 1) (zav) := ⟨_, rfl⟩; rw [← hw9]; have HW9 := Lib.hid hw9; clear hw9)
      (try simp only [Exit.inBlock, Exit.then])
      refine bodyPost_ret (ret_ans rfl _ _ (w.heap.size + 1) (zav) rfl (by rw [HW9.out]; exact rowC (KZ.out w5 HB5.out) _) rfl) rfl ?_
      exact ⟨zA, rfl, .inl rfl, by rw [HR.out]; rfl, by rw [HW9.out]; exact rowB (tr HB0.out HB5.out) (Nat.le_add_right _ 1) _⟩
    | true =>
      obtain ⟨l0, l1, l2, l3⟩ := Bw.cel4L HL5.out
      obtain ⟨_, _, _, _, _, _, _, _, _, _, _, _, _, _, _, _, _, _, _, _, q20⟩ := KQ.out w5 HB5.out
      by_cases hk2 : gl.key = q.k
      · have hkb := Bw.beq_key hk2
        have hkc : ((ba gl.key).toList != (ba q.k).toList) = false := by rw [bne, hkb]; rfl
        by_cases hs3 : gl.state = 3
        · have HR : Hid (R = SE) := by show _ = _; rw [HR2.out, if_neg (fun z => absurd z.2 (by decide)), if_pos ⟨H1.out, .inr hs3⟩]
          have hsb : (gl.state == 3) = true := by simp [hs3]
          clear hk2 hs3
          go_wp2_with (refine wpList_load_row rfl 77 (.tmp 1) rfl w.heap.size rfl 77 q.cs (0, 0) _ (KR.out w5 HB5.out) Tryz.underlying77 rfl (by kernel_rfl) ?_)
          refine (C5.out w5 HB5.out).mono ?_
          rintro e w8 ⟨y, rfl, hmp, hya, hb8⟩
          have HB8 := Lib.hid (tr HB5.out hb8)
          have HMP := Lib.hid (hmp.mono (Nat.le_trans HB0.out.size HB5.out.size))
          have HYA := Lib.hid hya
          clear hmp hya hb8
          go_wp2_with (refine wpList_store_row rfl 37 (.tmp 2) (.tmp 73) rfl (w.heap.size + 1) (y.cs) rfl rfl 37 zav (KZ.out w8 HB8.out) (by kernel_rfl) rfl (by kernel_rfl) ?_; obtain ⟨w9, hw9⟩ : ∃ w9, w9 = w8.setRow (w.heap.size + 1) (y.cs) := ⟨_, rfl⟩; rw [← hw9]; have HW9 := Lib.hid hw9; clear hw9)
          (try simp only [Exit.inBlock, Exit.then])
          refine bodyPost_ret (ret_ans rfl _ _ (w.heap.size + 1) (y.cs) rfl (by rw [HW9.out]; exact rowC (KZ.out w8 HB8.out) _) rfl) rfl ?_
          exact ⟨y, rfl, by rw [HW9.out]; exact HMP.out.off (KZ.out w8 HB8.out) (rowG _ _ _), by rw [HR.out]; exact HYA.out, by rw [HW9.out]; exact rowB (tr HB0.out HB8.out) (Nat.le_add_right _ 1) _⟩
        · have HR : Hid (R = if may = true then GE else SE) := by show _ = _; rw [HR2.out, if_neg (fun z => absurd z.2 (by decide)), if_neg (fun z => by rcases z.2 with z2 | z2; exact z2 hk2; exact hs3 z2)]
          have hsb : (gl.state == 3) = false := by simpa using hs3
          clear hk2 hs3
          go_upto_region 11 with fail
          clear l0 l1 l2 l3 q20
          obtain ⟨q0, q1, q2, q3, _, _, _, _, _, _, _, _, _, _, _, _, _, q17, q18, _, q20⟩ := KQ.out w5 HB5.out
          go_wp2_with fail
          refine (C6.out w5 HB5.out).mono ?_
          rintro e w7 ⟨rfl, hb7⟩
          have HB7 := Lib.hid (tr HB5.out hb7)
          clear hb7 q0 q1 q2 q3 q17 q18 q20
          cases may with
          | false =>
            have HRN : Hid (R = SE) := by show _ = _; rw [HR.out, if_neg (by decide)]
            clear HR
            have HR := HRN
            clear HRN
            go_wp2_with (refine wpList_load_row rfl 77 (.tmp 1) rfl w.heap.size rfl 77 q.cs (0, 0) _ (KR.out w7 HB7.out) Tryz.underlying77 rfl (by kernel_rfl) ?_)
            refine (C5.out w7 HB7.out).mono ?_
            rintro e w8 ⟨y, rfl, hmp, hya, hb8⟩
            have HB8 := Lib.hid (tr HB7.out hb8)
            have HMP := Lib.hid (hmp.mono (Nat.le_trans HB0.out.size HB7.out.size))
            have HYA := Lib.hid hya
            clear hmp hya hb8
            go_wp2_with (refine wpList_store_row rfl 37 (.tmp 2) (.tmp 73) rfl (w.heap.size + 1) (y.cs) rfl rfl 37 zav (KZ.out w8 HB8.out) (by kernel_rfl) rfl (by kernel_rfl) ?_; obtain ⟨w9, hw9⟩ : ∃ w9, w9 = w8.setRow (w.heap.size + 1) (y.cs) := ⟨_, rfl⟩; rw [← hw9]; have HW9 := Lib.hid hw9; clear hw9)
            (try simp only [Exit.inBlock, Exit.then])
            refine bodyPost_ret (ret_ans rfl _ _ (w.heap.size + 1) (y.cs) rfl (by rw [HW9.out]; exact rowC (KZ.out w8 HB8.out) _) rfl) rfl ?_
            exact ⟨y, rfl, by rw [HW9.out]; exact HMP.out.off (KZ.out w8 HB8.out) (rowG _ _ _), by rw [HR.out]; exact HYA.out, by rw [HW9.out]; exact rowB (tr HB0.out HB8.out) (Nat.le_add_right _ 1) _⟩
          | true =>
            have HRN : Hid (R = GE) := by show _ = _; rw [HR.out, if_pos rfl]
            clear HR
            have HR := HRN
            clear HRN
            go_wp2_with (refine wpList_load_row rfl 77 (.tmp 1) rfl w.heap.size rfl 77 q.cs (0, 0) _ (KR.out w7 HB7.out) Tryz.underlying77 rfl (by kernel_rfl) ?_)
            refine (C7.out trivial w7 HB7.out).mono ?_
            rintro e w8 ⟨y, rfl, hmp, hya, hb8⟩
            have HB8 := Lib.hid (tr HB7.out hb8)
            have HMP := Lib.hid (hmp.mono (Nat.le_trans HB0.out.size HB7.out.size))
            have HYA := Lib.hid hya
            clear hmp hya hb8
            go_wp2_with (refine wpList_store_row rfl 37 (.tmp 2) (.tmp 76) rfl (w.heap.size + 1) (y.cs) rfl rfl 37 zav (KZ.out w8 HB8.out) (by kernel_rfl) rfl (by kernel_rfl) ?_; obtain ⟨w9, hw9⟩ : ∃ w9, w9 = w8.setRow (w.heap.size + 1) (y.cs) := ⟨_, rfl⟩; rw [← hw9]; have HW9 := Lib.hid hw9; clear hw9)
            (try simp only [Exit.inBlock, Exit.then])
            refine bodyPost_ret (ret_ans rfl _ _ (w.heap.size + 1) (y.cs) rfl (by rw [HW9.out]; exact rowC (KZ.out w8 HB8.out) _) rfl) rfl ?_
            exact ⟨y, rfl, by rw [HW9.out]; exact HMP.out.off (KZ.out w8 HB8.out) (rowG _ _ _), by rw [HR.out]; exact HYA.out, by rw [HW9.out]; exact rowB (tr HB0.out HB8.out) (Nat.le_add_right _ 1) _⟩
      · have hkb := Bw.bne_key hk2
        have hkc : ((ba gl.key).toList != (ba q.k).toList) = true := by rw [bne, hkb]; rfl
        have HR : Hid (R = SE) := by show _ = _; rw [HR2.out, if_neg (fun z => absurd z.2 (by decide)), if_pos ⟨H1.out, .inl hk2⟩]
        clear hk2
        go_wp2_with (refine wpList_load_row rfl 77 (.tmp 1) rfl w.heap.size rfl 77 q.cs (0, 0) _ (KR.out w5 HB5.out) Tryz.underlying77 rfl (by kernel_rfl) ?_)
        refine (C5.out w5 HB5.out).mono ?_
        rintro e w8 ⟨y, rfl, hmp, hya, hb8⟩
        have HB8 := Lib.hid (tr HB5.out hb8)
        have HMP := Lib.hid (hmp.mono (Nat.le_trans HB0.out.size HB5.out.size))
        have HYA := Lib.hid hya
        clear hmp hya hb8
        go_wp2_with (refine wpList_store_row rfl 37 (.tmp 2) (.tmp 73) rfl (w.heap.size + 1) (y.cs) rfl rfl 37 zav (KZ.out w8 HB8.out) (by kernel_rfl) rfl (by kernel_rfl) ?_; obtain ⟨w9, hw9⟩ : ∃ w9, w9 = w8.setRow (w.heap.size + 1) (y.cs) := ⟨_, rfl⟩; rw [← hw9]; have HW9 := Lib.hid hw9; clear hw9)
        (try simp only [Exit.inBlock, Exit.then])
        refine bodyPost_ret (ret_ans rfl _ _ (w.heap.size + 1) (y.cs) rfl (by rw [HW9.out]; exact rowC (KZ.out w8 HB8.out) _) rfl) rfl ?_
        exact ⟨y, rfl, by rw [HW9.out]; exact HMP.out.off (KZ.out w8 HB8.out) (rowG _ _ _), by rw [HR.out]; exact HYA.out, by rw [HW9.out]; exact rowB (tr HB0.out HB8.out) (Nat.le_add_right _ 1) _⟩
end Go.Proofs.YtoldppbakapohaaGreatDoor.Ez
end
