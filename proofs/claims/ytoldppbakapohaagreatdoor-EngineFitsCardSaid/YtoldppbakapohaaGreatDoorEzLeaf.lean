/- What a query's wanted, after, here and giveUp come to. Condition: the query reads (Qv.ok). -/
import Derived.Test.YtoldppbakapohaaGreatDoorEzKit
import Derived.Test.YtoldppbakapohaaGreatDoorXwA
import Derived.Test.YtoldppbakapohaaGreatDoorBwA
set_option maxRecDepth 8000
namespace Go.Proofs.YtoldppbakapohaaGreatDoor.Ez
open Go.RowKit Tl Co Ms Cf Ad By Rp Ky Rc Ew Jw La Tb Pk Al Cl Eg Ey
open Dw (ba ba_size ba_data ba_list)
open Pw (alloc_more celM_all boxM)
open Vw (Cx cel3C)
open Rpw (Mo)

set_option maxHeartbeats 1000000 in
theorem wanted_any (q : Qv) (U : Nat) (w : World) (h : q.ok U w) (hU : U ≤ w.heap.size) : Calls Tryz.prog 140 #[q.v] w fun e w' => e = .returned (.int .i64 (wantedE q.x.mm)) ∧ Below w.heap.size w w' := by
  obtain ⟨w0, hw0, hq0, hb0, hs0⟩ := boxQ1 w q
  have KQ := Lib.hid (fun W (hW : Below w0.heap.size w0 W) => cells21 (hq0.below hW hq0.lt))
  have KR := Lib.hid (fun W (hW : Below w0.heap.size w0 W) => hq0.below hW hq0.lt)
  have HB0 := Lib.hid hb0
  have HS0 := Lib.hid hs0
  have HB00 := Lib.hid (Below.refl w0.heap.size w0)
  have C1 := Lib.hid (fun W (hW : Below w0.heap.size w0 W) => Ow.number4_any q.x.B q.x.m q.x.d q.x.ps 50 W (h.below hU (tr hb0 hW)).x.os h.sm)
  have HR : Hid (wantedE q.x.mm = (((Ow.numL (osP q.x.ps) 50 4).getD 0 : Nat) : Int)) := rfl
  generalize wantedE q.x.mm = R at HR ⊢
  generalize Ow.numL (osP q.x.ps) 50 4 = r at HR C1
  clear h hU hq0 hb0 hs0
  obtain ⟨_, _, _, _, _, _, _, _, _, _, _, _, _, _, _, _, q16, _, _, _, _⟩ := KQ.out w0 HB00.out
  go_enter Tryz.func140, Tryz.ntmps140
  go_upto_region 1 with fail
  rw [← hw0]
  clear hw0
  go_wp2_with fail
  refine (C1.out w0 HB00.out).mono ?_
  rintro e w1 ⟨rfl, hb1⟩
  have HB1 := Lib.hid hb1
  clear hb1 q16
  go_wp2
  go_ret
  exact ⟨by rw [HR.out]; rfl, tr HB0.out HB1.out⟩
theorem end_min {now p : Int} : min (now + p) 1125899906842624 = endE now p := by
  unfold endE
  split <;> omega
set_option maxHeartbeats 1000000 in
theorem after_any (q : Qv) (p : Int) (U : Nat) (w : World) (h : q.ok U w) (hp : 0 ≤ p ∧ p ≤ 4294967295) : Calls Tryz.prog 149 #[q.v, .int .i64 p] w fun e w' => e = .returned (.int .i64 (endE q.now p)) ∧ Below w.heap.size w w' := by
  obtain ⟨w0, hw0, hq0, hb0, hs0⟩ := boxQ1 w q
  have KQ := Lib.hid (fun W (hW : Below w0.heap.size w0 W) => cells21 (hq0.below hW hq0.lt))
  have KR := Lib.hid (fun W (hW : Below w0.heap.size w0 W) => hq0.below hW hq0.lt)
  have HB0 := Lib.hid hb0
  have HS0 := Lib.hid hs0
  have HB00 := Lib.hid (Below.refl w0.heap.size w0)
  have hwr : IntKind.i64.wrap (q.now + p) = q.now + p := by
    have := h.now
    rw [IntKind.wrap_i64]; omega
  have HE := Lib.hid (end_min (now := q.now) (p := p))
  clear h hp hq0 hb0 hs0
  obtain ⟨_, _, _, _, _, _, _, _, _, _, _, _, _, _, _, _, _, q17, _, _, _⟩ := KQ.out w0 HB00.out
  go_enter Tryz.func149, Tryz.ntmps149
  go_upto_region 1 with fail
  rw [← hw0]
  clear hw0
  go_wp2
  go_ret
  exact ⟨by rw [← HE.out]; rfl, HB0.out⟩
set_option maxHeartbeats 1000000 in
theorem here_any (q : Qv) (a : Int) (U : Nat) (w : World) (h : q.ok U w) (hU : U ≤ w.heap.size) : Calls Tryz.prog 145 #[q.v, .int .i64 a] w (Vw.isB (inA q.c.cf q.net a) w) := by
  obtain ⟨w0, hw0, hq0, hb0, hs0⟩ := boxQ1 w q
  have KQ := Lib.hid (fun W (hW : Below w0.heap.size w0 W) => cells21 (hq0.below hW hq0.lt))
  have KR := Lib.hid (fun W (hW : Below w0.heap.size w0 W) => hq0.below hW hq0.lt)
  have HB0 := Lib.hid hb0
  have HS0 := Lib.hid hs0
  have HB00 := Lib.hid (Below.refl w0.heap.size w0)
  have C1 := Lib.hid (fun W (hW : Below w0.heap.size w0 W) => Xw.find_any q.c a U W (h.below hU (tr hb0 hW)).c (Nat.le_trans hU (tr hb0 hW).size) h.s)
  have HR : Hid (inA q.c.cf q.net a = ((findC q.c.cf a).2.2 && decide ((findC q.c.cf a).1 = q.net))) := rfl
  generalize inA q.c.cf q.net a = R at HR ⊢
  obtain ⟨fi, hfi⟩ : ∃ fi, findC q.c.cf a = fi := ⟨_, rfl⟩
  rw [hfi] at C1 HR
  obtain ⟨f1, f2, f3⟩ := fi
  clear h hU hq0 hb0 hs0 hfi
  obtain ⟨q0, q1, q2, _, _, _, _, _, _, _, _, _, _, _, _, _, _, _, _, _, _⟩ := KQ.out w0 HB00.out
  go_enter Tryz.func145, Tryz.ntmps145
  go_upto_region 1 with fail
  rw [← hw0]
  clear hw0
  go_wp2_with fail
  refine (C1.out w0 HB00.out).mono ?_
  rintro e w1 ⟨rfl, hb1⟩
  have HB1 := Lib.hid hb1
  clear hb1 q0 q1 q2
  obtain ⟨_, _, _, _, _, _, _, _, _, _, _, _, _, _, _, _, _, _, q18, _, _⟩ := KQ.out w1 HB1.out
  cases f3 with
  | false =>
    have HR2 : Hid (R = false) := HR.out
    go_wp2
    go_ret
    exact ⟨by rw [HR2.out]; rfl, tr HB0.out HB1.out⟩
  | true =>
    by_cases hn : f1 = q.net
    · have HR2 : Hid (R = true) := by show _ = _; rw [HR.out, decide_eq_true hn]; rfl
      have hnb : (f1 == q.net) = true := by simpa using hn
      clear hn
      go_wp2
      go_ret
      exact ⟨by rw [HR2.out]; rfl, tr HB0.out HB1.out⟩
    · have HR2 : Hid (R = false) := by show _ = _; rw [HR.out, decide_eq_false hn]; rfl
      have hnb : (f1 == q.net) = false := by simpa using hn
      clear hn
      go_wp2
      go_ret
      exact ⟨by rw [HR2.out]; rfl, tr HB0.out HB1.out⟩

/-! ### giveUp -/
set_option maxHeartbeats 4000000 in
theorem giveUp_any (q : Qv) (a st till : Int) (U : Nat) (w : World) (h : q.ok U w) (hU : U ≤ w.heap.size) : Calls Tryz.prog 148 #[q.v, .int .i64 a, .int .i64 st, .int .i64 till] w (AnP w (endedE q.l a q.k st till q.now)) := by
  obtain ⟨w0, hw0, hq0, hz0, hb0, hs0⟩ := boxQ w q
  have KQ := Lib.hid (fun W (hW : Below w0.heap.size w0 W) => cells21 (hq0.below hW hq0.lt))
  have KR := Lib.hid (fun W (hW : Below w0.heap.size w0 W) => hq0.below hW hq0.lt)
  have KZ := Lib.hid (fun W (hW : Below w0.heap.size w0 W) => hz0.below hW hz0.lt)
  have HB0 := Lib.hid hb0
  have HS0 := Lib.hid hs0
  have HB00 := Lib.hid (Below.refl w0.heap.size w0)
  have HG := Lib.hid (fun W (hW : Below w0.heap.size w0 W) => Bw.get_any q.A q.n q.cc U q.l a W (h.below hU (tr hb0 hW)).t (Nat.le_trans hU (tr hb0 hW).size) h.f)
  have HE : Hid (endedE q.l a q.k st till q.now = if (getT q.l a).2 = true ∧ (getT q.l a).1.key = q.k ∧ holdsT (getT q.l a).1 q.now = true then keptE a st till q.k else zeroA) := rfl
  generalize endedE q.l a q.k st till q.now = R at HE ⊢
  obtain ⟨g, hg⟩ : ∃ g, getT q.l a = g := ⟨_, rfl⟩
  rw [hg] at HG HE
  obtain ⟨y, b⟩ := g
  have HK := Lib.hid (Bw.holds_any y q.now)
  clear hg h hU hq0 hz0 hb0 hs0
  obtain ⟨_, _, _, q3, _, _, _, _, _, _, _, _, _, _, _, _, _, _, _, _, _⟩ := KQ.out w0 HB00.out
  go_enter Tryz.func148, Tryz.ntmps148
  go_upto_region 1 with fail
  rw [← hw0]
  clear hw0
  go_wp2_with fail
  refine (HG.out w0 HB00.out).mono ?_
  rintro e w1 ⟨rfl, hb1⟩
  have hal := alloc_more w1 (.cells (lcs y) 35)
  obtain ⟨w2, hw2⟩ : ∃ w2, w2 = w1.alloc (.cells (lcs y) 35) := ⟨_, rfl⟩
  have HL2 := Lib.hid (show Cel w2 w1.heap.size 35 (lcs y) by rw [hw2]; exact Cel.born _ _ _)
  rw [← hw2] at hal
  have HB2 := Lib.hid (tr hb1 hal)
  clear hb1 hal q3
  go_upto_region 2 with fail
  rw [← hw2]
  clear hw2
  obtain ⟨l0, l1, l2, l3⟩ := Bw.cel4L HL2.out
  obtain ⟨_, _, _, _, _, _, _, _, _, _, _, _, _, _, _, _, _, q17, _, _, q20⟩ := KQ.out w2 HB2.out
  cases b with
  | false =>
    have HR : Hid (R = zeroA) := by show _ = _; rw [HE.out, if_neg (fun q => by cases q.1)]
    go_wp2_with (refine wpList_store_row rfl 37 (.tmp 8) (.tmp 34) rfl (w.heap.size + 1) (zav) rfl rfl 37 zav (KZ.out w2 HB2.out) (by kernel_rfl) rfl (by kernel_rfl) ?_; obtain ⟨w9, hw9⟩ : ∃ w9, w9 = w2.setRow (w.heap.size + 1) (zav) := ⟨_, rfl⟩; rw [← hw9]; have HW9 := Lib.hid hw9; clear hw9)
    (try simp only [Exit.inBlock, Exit.then])
    refine bodyPost_ret (ret_ans rfl _ _ (w.heap.size + 1) (zav) rfl (by rw [HW9.out]; exact rowC (KZ.out w2 HB2.out) _) rfl) rfl ?_
    exact ⟨zA, rfl, .inl rfl, by rw [HR.out]; rfl, by rw [HW9.out]; exact rowB (tr HB0.out HB2.out) (Nat.le_add_right _ 1) _⟩
  | true =>
    by_cases hk : y.key = q.k
    rotate_left
    · have hkb := Bw.bne_key hk
      have hkc : ((ba y.key).toList != (ba q.k).toList) = true := by rw [bne, hkb]; rfl
      have HR : Hid (R = zeroA) := by show _ = _; rw [HE.out, if_neg (fun z => hk z.2.1)]
      clear hk
      go_wp2_with (refine wpList_store_row rfl 37 (.tmp 8) (.tmp 34) rfl (w.heap.size + 1) (zav) rfl rfl 37 zav (KZ.out w2 HB2.out) (by kernel_rfl) rfl (by kernel_rfl) ?_; obtain ⟨w9, hw9⟩ : ∃ w9, w9 = w2.setRow (w.heap.size + 1) (zav) := ⟨_, rfl⟩; rw [← hw9]; have HW9 := Lib.hid hw9; clear hw9)
      (try simp only [Exit.inBlock, Exit.then])
      refine bodyPost_ret (ret_ans rfl _ _ (w.heap.size + 1) (zav) rfl (by rw [HW9.out]; exact rowC (KZ.out w2 HB2.out) _) rfl) rfl ?_
      exact ⟨zA, rfl, .inl rfl, by rw [HR.out]; rfl, by rw [HW9.out]; exact rowB (tr HB0.out HB2.out) (Nat.le_add_right _ 1) _⟩
    · have hkb := Bw.beq_key hk
      have hkc : ((ba y.key).toList != (ba q.k).toList) = false := by rw [bne, hkb]; rfl
      have HKK := Lib.hid hk
      clear hk
      go_wp2_with fail
      refine (HK.out w2).mono ?_
      obtain ⟨hb, hhb⟩ : ∃ hb, holdsT y q.now = hb := ⟨_, rfl⟩
      have HHB := Lib.hid hhb
      rw [hhb]
      clear hhb
      rintro e w3 ⟨rfl, hb3⟩
      have HB3 := Lib.hid (tr HB2.out hb3)
      clear hb3 l0 l1 l2 l3 q17 q20
      obtain ⟨_, _, _, _, _, _, _, _, _, _, _, _, _, _, _, _, _, _, _, _, q20⟩ := KQ.out w3 HB3.out
      cases hb with
      | false =>
        have HR : Hid (R = zeroA) := by show _ = _; rw [HE.out, if_neg (fun z => absurd (HHB.out.symm.trans z.2.2) (by decide))]
        go_wp2_with (refine wpList_store_row rfl 37 (.tmp 8) (.tmp 34) rfl (w.heap.size + 1) (zav) rfl rfl 37 zav (KZ.out w3 HB3.out) (by kernel_rfl) rfl (by kernel_rfl) ?_; obtain ⟨w9, hw9⟩ : ∃ w9, w9 = w3.setRow (w.heap.size + 1) (zav) := ⟨_, rfl⟩; rw [← hw9]; have HW9 := Lib.hid hw9; clear hw9)
        (try simp only [Exit.inBlock, Exit.then])
        refine bodyPost_ret (ret_ans rfl _ _ (w.heap.size + 1) (zav) rfl (by rw [HW9.out]; exact rowC (KZ.out w3 HB3.out) _) rfl) rfl ?_
        exact ⟨zA, rfl, .inl rfl, by rw [HR.out]; rfl, by rw [HW9.out]; exact rowB (tr HB0.out HB3.out) (Nat.le_add_right _ 1) _⟩
      | true =>
        have HR : Hid (R = keptE a st till q.k) := by show _ = _; rw [HE.out, if_pos (by simp [HKK.out, HHB.out])]
        go_wp2_with (refine wpList_store_row rfl 37 (.tmp 8) (.tmp 41) rfl (w.heap.size + 1) (Av.cs ⟨false, true, zeroV, 0, 0, false, ⟨a, st, till, q.k⟩⟩) rfl rfl 37 zav (KZ.out w3 HB3.out) (by kernel_rfl) rfl (by kernel_rfl) ?_; obtain ⟨w9, hw9⟩ : ∃ w9, w9 = w3.setRow (w.heap.size + 1) (Av.cs ⟨false, true, zeroV, 0, 0, false, ⟨a, st, till, q.k⟩⟩) := ⟨_, rfl⟩; rw [← hw9]; have HW9 := Lib.hid hw9; clear hw9)
        (try simp only [Exit.inBlock, Exit.then])
        refine bodyPost_ret (ret_ans rfl _ _ (w.heap.size + 1) (Av.cs ⟨false, true, zeroV, 0, 0, false, ⟨a, st, till, q.k⟩⟩) rfl (by rw [HW9.out]; exact rowC (KZ.out w3 HB3.out) _) rfl) rfl ?_
        exact ⟨⟨false, true, zeroV, 0, 0, false, ⟨a, st, till, q.k⟩⟩, rfl, .inl rfl, by rw [HR.out]; rfl, by rw [HW9.out]; exact rowB (tr HB0.out HB3.out) (Nat.le_add_right _ 1) _⟩
end Go.Proofs.YtoldppbakapohaaGreatDoor.Ez
