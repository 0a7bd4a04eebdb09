/- What pick.Subnet comes to. Conditions: the configuration is small (boarderlaw13's Great is false); the options' data are no longer than 1000 bytes (boarderlaw04's is false). -/
import Derived.Test.YtehanbmnkoebcaaPwPlace
import Derived.Test.YtehanbmnkoebcaaVwC
set_option maxRecDepth 8000
namespace Go.Proofs.Ytehanbmnkoebcaa.Pw
open Go.RowKit Tl Co Ms Ry Cf Ad By Pk
open Vw (Cx FiR cel3C)
theorem boxCM (w : World) (x : Cx) (m : Mv) (t : TypeId) : ∃ w0, w0 = (w.alloc (.cells x.cs 35)).alloc (.cells m.cells t) ∧ Cel w0 w.heap.size 35 x.cs ∧ Cel w0 (w.heap.size + 1) t m.cells ∧ Below w.heap.size w w0 ∧ w0.heap.size = w.heap.size + 2 := by
  have hs : (w.alloc (.cells x.cs 35)).heap.size = w.heap.size + 1 := by simp
  have c1 := Cel.born (w.alloc (.cells x.cs 35)) t m.cells
  rw [hs] at c1
  exact ⟨_, rfl, (Cel.born w 35 x.cs).below (alloc_more _ _) (by rw [hs]; omega), c1, (alloc_more _ _).trans ((alloc_more _ _).mono (alloc_more _ _).size), by simp⟩
theorem sub_no {c : Cf} {m : M} {i : Int} (h : rightM m = false) : subnetM c m i = (0, 0, false) := by unfold subnetM; rw [if_neg (by rw [h]; decide)]
theorem sub_at {c : Cf} {m : M} {i a : Int} (h : rightM m = true) (hp : placeM m = (a, true)) : subnetM c m i = findC c a := by unfold subnetM; rw [if_pos h, hp, if_pos rfl]
theorem sub_wire {c : Cf} {m : M} {i a : Int} (h : rightM m = true) (hp : placeM m = (a, false)) : subnetM c m i = wireC c i := by unfold subnetM; rw [if_pos h, hp, if_neg (show ¬ (false = true) from Bool.false_ne_true)]

set_option maxHeartbeats 4000000 in
theorem subnet_any (c : Cx) (m : Mv) (i : Int) (U : Nat) (w : World) (hc : c.ok U w) (hU : U ≤ w.heap.size) (hS : Small c.cf) (hm : m.ok w) (hsm : ∀ p ∈ m.ps, p.l.length ≤ 1000) : Calls Try.prog 15 #[c.v, m.v, .int .i64 i] w (FiR (subnetM c.cf m.mm i) w) := by
  obtain ⟨w0, hw0, hc0, hm0, hb0, hz⟩ := boxCM w c m 25
  have HR := Lib.hid (Mw.right_any m w0 (hm.below hb0))
  have HP := Lib.hid (fun W (hW : Below w.heap.size w W) => place_any m W (hm.below hW) hsm)
  have HF : Hid (∀ (a : Int) (W : World), Below w.heap.size w W → Calls Try.prog 16 #[c.v, .int .i64 a] W (FiR (findC c.cf a) W)) := (fun a W hW => Vw.find_doc c a ▸ Vw.findX_any c a U W (hc.below (hW.mono hU)) (Nat.le_trans hU hW.size) hS)
  have HW : Hid (∀ W : World, Below w.heap.size w W → Calls Try.prog 29 #[c.v, .int .i64 i] W (FiR (wireC c.cf i) W)) := (fun W hW => Vw.wire_doc c i ▸ Vw.wireX_any c i U W (hc.below (hW.mono hU)) (Nat.le_trans hU hW.size) hS)
  have HB0 := Lib.hid hb0
  have HC0 := Lib.hid hc0
  have HM0 := Lib.hid hm0
  have HE0 := Lib.hid (@sub_no c.cf m.mm i)
  have HE1 := Lib.hid (fun a => @sub_at c.cf m.mm i a)
  have HE2 := Lib.hid (fun a => @sub_wire c.cf m.mm i a)
  generalize subnetM c.cf m.mm i = t at HE0 HE1 HE2 ⊢
  clear hc hU hS hm hb0 hc0 hm0 hsm
  cases hr : rightM m.mm with
  | false =>
    have HT := Lib.hid (HE0.out hr)
    rw [hr] at HR
    clear hr HE0 HE1 HE2 HP HF HW
    go_enter Try.func15, Try.ntmps15
    go_wp2_with fail
    rw [← hw0]
    clear hw0
    refine HR.out.mono ?_
    rintro e w1 ⟨rfl, hb1⟩
    go_wp2
    go_ret3
    rw [HT.out]
    exact ⟨rfl, HB0.out.trans (hb1.mono HB0.out.size)⟩
  | true =>
    obtain ⟨p, hp⟩ : ∃ p, placeM m.mm = p := ⟨_, rfl⟩
    rw [hp] at HP
    obtain ⟨a, is⟩ := p
    cases is with
    | true =>
      have HT := Lib.hid (HE1.out a hr hp)
      have HK := Lib.hid (HF.out a)
      generalize findC c.cf a = u at HT HK
      obtain ⟨u1, u2, u3⟩ := u
      rw [hr] at HR
      clear hr hp HE0 HE1 HE2 HF HW
      go_enter Try.func15, Try.ntmps15
      go_wp2_with fail
      rw [← hw0]
      clear hw0
      refine HR.out.mono ?_
      rintro e w1 ⟨rfl, hb1⟩
      have HB1 := Lib.hid (HB0.out.trans (hb1.mono HB0.out.size))
      obtain ⟨⟨m0, m1, m2, m3, m4, m5, m6⟩, m7, m8, m9, m10, m11, m12⟩ := celM_all (HM0.out.below hb1 HM0.out.lt)
      have HC1 := Lib.hid (HC0.out.below hb1 HC0.out.lt)
      clear hb1 HR
      go_wp2_with fail
      refine (HP.out w1 HB1.out).mono ?_
      rintro e w2 ⟨rfl, hb2⟩
      clear m0 m1 m2 m3 m4 m5 m6 m7 m8 m9 m10 m11 m12
      obtain ⟨x0, x1, x2⟩ := cel3C (HC1.out.below hb2 HC1.out.lt)
      have HB2 := Lib.hid (HB1.out.trans (hb2.mono HB1.out.size))
      clear hb2
      go_wp2_with fail
      refine (HK.out w2 HB2.out).mono ?_
      rintro e w3 ⟨rfl, hb3⟩
      go_wp2
      go_ret3
      rw [HT.out]
      exact ⟨rfl, HB2.out.trans (hb3.mono HB2.out.size)⟩
    | false =>
      have HT := Lib.hid (HE2.out a hr hp)
      generalize wireC c.cf i = u at HT HW
      obtain ⟨u1, u2, u3⟩ := u
      rw [hr] at HR
      clear hr hp HE0 HE1 HE2 HF
      go_enter Try.func15, Try.ntmps15
      go_wp2_with fail
      rw [← hw0]
      clear hw0
      refine HR.out.mono ?_
      rintro e w1 ⟨rfl, hb1⟩
      have HB1 := Lib.hid (HB0.out.trans (hb1.mono HB0.out.size))
      obtain ⟨⟨m0, m1, m2, m3, m4, m5, m6⟩, m7, m8, m9, m10, m11, m12⟩ := celM_all (HM0.out.below hb1 HM0.out.lt)
      have HC1 := Lib.hid (HC0.out.below hb1 HC0.out.lt)
      clear hb1 HR
      go_wp2_with fail
      refine (HP.out w1 HB1.out).mono ?_
      rintro e w2 ⟨rfl, hb2⟩
      clear m0 m1 m2 m3 m4 m5 m6 m7 m8 m9 m10 m11 m12
      obtain ⟨x0, x1, x2⟩ := cel3C (HC1.out.below hb2 HC1.out.lt)
      have HB2 := Lib.hid (HB1.out.trans (hb2.mono HB1.out.size))
      clear hb2
      go_wp2_with fail
      refine (HW.out w2 HB2.out).mono ?_
      rintro e w3 ⟨rfl, hb3⟩
      go_wp2
      go_ret3
      rw [HT.out]
      exact ⟨rfl, HB2.out.trans (hb3.mono HB2.out.size)⟩
end Go.Proofs.Ytehanbmnkoebcaa.Pw
