/- What the document's own subnet, lends and Form come to. Conditions: the configuration reads; for lends, the prefix is right. -/
import Derived.Test.YtoilljilndmmfaaVwChk
set_option maxRecDepth 8000
namespace Go.Proofs.Ytoilljilndmmfaa.Vw
open Go.RowKit By Cf Ad Ky
open Dw (ba ba_size ba_data ba_list alloc_more)

/-- Memory that has a subnet in a new block. -/
theorem boxedS (w : World) (x : Sx) (pn rn : Nat) : ∃ w0, w0 = w.alloc (.cells (x.cs pn rn) 45) ∧ Cel w0 w.heap.size 45 (x.cs pn rn) ∧ Below w.heap.size w w0 := ⟨_, rfl, Cel.born _ _ _, alloc_more _ _⟩
theorem all_next {α : Type} {p : α → Bool} {l : List α} {k : Nat} {a : α} (h : l[k]? = some a) (hE : (l.take k).all p = true) (hq : p a = true) : (l.take (k + 1)).all p = true := by
  rw [take_at h, List.all_append, hE, List.all_cons, hq]
  rfl
theorem all_bad {α : Type} {p : α → Bool} {l : List α} {k : Nat} {a : α} (h : l[k]? = some a) (hq : p a = false) : l.all p = false := List.all_eq_false.2 ⟨a, List.mem_of_getElem? h, by rw [hq]; decide⟩
set_option maxHeartbeats 1000000 in
theorem refLends_any (x : Sx) (pn rn : Nat) (a : Int) (w : World) (hf : fairB x.base x.bits = true) : Calls Try.prog 71 #[x.v pn rn, .int .i64 a] w (isB (lendsB x.s a) w) := by
  obtain ⟨w0, hw0, hc0, hb0⟩ := boxedS w x pn rn
  have HF := Lib.hid hf
  have hc := cel7 hc0
  have HB := Lib.hid hb0
  clear hf hc0 hb0
  obtain ⟨c0, c1, _, _, _, _, _⟩ := hc
  by_cases h1 : a > x.base
  · have H : Hid (lendsB x.s a = decide (a < x.base + sz x.bits - 1)) := by
      show _ = _
      unfold lendsB Sx.s
      rw [decide_eq_decide]
      simp only
      omega
    go_enter Try.func71, Try.ntmps71
    go_wp2_with fail
    rw [← hw0]
    clear hw0
    refine (Aw.refLast_any _ _ _ HF.out).mono ?_
    rintro e w1 ⟨rfl, rfl⟩
    go_wp2
    go_ret
    exact ⟨ret_bool H.out.symm, HB.out⟩
  · have H : Hid (lendsB x.s a = false) := by
      show _ = _
      unfold lendsB Sx.s
      exact decide_eq_false fun k => h1 k.1
    go_enter Try.func71, Try.ntmps71
    go_upto_region 1 with fail
    rw [← hw0]
    clear hw0
    go_wp2
    go_ret
    exact ⟨ret_bool H.out.symm, HB.out⟩
set_option maxHeartbeats 16000000 in
theorem refSubnet_any (x : Sx) (pn rn U : Nat) (w : World) (hok : x.ok U w pn rn) (hU : U ≤ w.heap.size) : Calls Try.prog 70 #[x.v pn rn] w (isB (snF x.s) w) := by
  obtain ⟨w0, hw0, hc0, hb0⟩ := boxedS w x pn rn
  have hz : w0.heap.size = w.heap.size + 1 := by rw [hw0]; simp
  have HOK := Lib.hid (hok.below (hb0.mono hU))
  have HPL := Lib.hid hok.p.len
  have HRL := Lib.hid hok.r.len
  have hpc := hok.p.cap
  have hpm := hok.p.max
  have hrc := hok.r.cap
  have hrm := hok.r.max
  have HUU : Hid (U ≤ w0.heap.size) := Lib.hid (by omega)
  have HF := Lib.hid (fun W => Aw.refFair_any x.base x.bits W)
  have HB := Lib.hid hb0
  have HC0 := Lib.hid hc0
  obtain ⟨c0, c1, c2, c3, c4, c5, c6⟩ := cel7 hc0
  clear hok hU hc0 hb0 hz
  cases f0 : fairB x.base x.bits with
  | false =>
    rw [f0] at HF
    have H : Hid (snF x.s = false) := by show _ = _; unfold snF Sx.s; simp only [f0, Bool.false_and]
    go_enter Try.func70, Try.ntmps70
    go_wp2_with fail
    rw [← hw0]
    clear hw0
    refine (HF.out w0).mono ?_
    rintro e wf ⟨rfl, rfl⟩
    go_wp2
    go_ret
    exact ⟨ret_bool H.out.symm, HB.out⟩
  | true =>
  rw [f0] at HF
  by_cases g1 : x.bits < 8
  · have f1 : decide (8 ≤ x.bits ∧ x.bits ≤ 30) = false := decide_eq_false (by omega)
    have H : Hid (snF x.s = false) := by show _ = _; unfold snF Sx.s; simp only [f1, Bool.false_and, Bool.and_false]
    go_enter Try.func70, Try.ntmps70
    go_wp2_with fail
    rw [← hw0]
    clear hw0
    refine (HF.out w0).mono ?_
    rintro e wf ⟨rfl, rfl⟩
    go_wp2
    go_ret
    exact ⟨ret_bool H.out.symm, HB.out⟩
  by_cases g2 : x.bits > 30
  · have f2 : decide (8 ≤ x.bits ∧ x.bits ≤ 30) = false := decide_eq_false (by omega)
    have H : Hid (snF x.s = false) := by show _ = _; unfold snF Sx.s; simp only [f2, Bool.false_and, Bool.and_false]
    go_enter Try.func70, Try.ntmps70
    go_wp2_with fail
    rw [← hw0]
    clear hw0
    refine (HF.out w0).mono ?_
    rintro e wf ⟨rfl, rfl⟩
    go_wp2
    go_ret
    exact ⟨ret_bool H.out.symm, HB.out⟩
  by_cases g3 : (pn : Int) > 4
  · have f3 : decide (x.pools.length ≤ 4) = false := decide_eq_false (by have := HPL.out; omega)
    have H : Hid (snF x.s = false) := by show _ = _; unfold snF Sx.s; simp only [f3, Bool.false_and, Bool.and_false]
    go_enter Try.func70, Try.ntmps70
    go_wp2_with fail
    rw [← hw0]
    clear hw0
    refine (HF.out w0).mono ?_
    rintro e wf ⟨rfl, rfl⟩
    go_wp2
    go_ret
    exact ⟨ret_bool H.out.symm, HB.out⟩
  by_cases g4 : (rn : Int) > 8
  · have f4 : decide (x.res.length ≤ 8) = false := decide_eq_false (by have := HRL.out; omega)
    have H : Hid (snF x.s = false) := by show _ = _; unfold snF Sx.s; simp only [f4, Bool.false_and, Bool.and_false]
    go_enter Try.func70, Try.ntmps70
    go_wp2_with fail
    rw [← hw0]
    clear hw0
    refine (HF.out w0).mono ?_
    rintro e wf ⟨rfl, rfl⟩
    go_wp2
    go_ret
    exact ⟨ret_bool H.out.symm, HB.out⟩
  by_cases g5 : x.iface < 0
  · have f5 : decide (0 ≤ x.iface ∧ x.iface ≤ 99) = false := decide_eq_false (by omega)
    have H : Hid (snF x.s = false) := by show _ = _; unfold snF Sx.s; simp only [f5, Bool.false_and, Bool.and_false]
    go_enter Try.func70, Try.ntmps70
    go_wp2_with fail
    rw [← hw0]
    clear hw0
    refine (HF.out w0).mono ?_
    rintro e wf ⟨rfl, rfl⟩
    go_wp2
    go_ret
    exact ⟨ret_bool H.out.symm, HB.out⟩
  by_cases g6 : x.iface > 99
  · have f6 : decide (0 ≤ x.iface ∧ x.iface ≤ 99) = false := decide_eq_false (by omega)
    have H : Hid (snF x.s = false) := by show _ = _; unfold snF Sx.s; simp only [f6, Bool.false_and, Bool.and_false]
    go_enter Try.func70, Try.ntmps70
    go_wp2_with fail
    rw [← hw0]
    clear hw0
    refine (HF.out w0).mono ?_
    rintro e wf ⟨rfl, rfl⟩
    go_wp2
    go_ret
    exact ⟨ret_bool H.out.symm, HB.out⟩
  by_cases g7 : x.time < 1
  · have f7 : decide (1 ≤ x.time ∧ x.time ≤ 2147483648) = false := decide_eq_false (by omega)
    have H : Hid (snF x.s = false) := by show _ = _; unfold snF Sx.s; simp only [f7, Bool.false_and, Bool.and_false]
    go_enter Try.func70, Try.ntmps70
    go_wp2_with fail
    rw [← hw0]
    clear hw0
    refine (HF.out w0).mono ?_
    rintro e wf ⟨rfl, rfl⟩
    go_wp2
    go_ret
    exact ⟨ret_bool H.out.symm, HB.out⟩
  by_cases g8 : x.time > 2147483648
  · have f8 : decide (1 ≤ x.time ∧ x.time ≤ 2147483648) = false := decide_eq_false (by omega)
    have H : Hid (snF x.s = false) := by show _ = _; unfold snF Sx.s; simp only [f8, Bool.false_and, Bool.and_false]
    go_enter Try.func70, Try.ntmps70
    go_wp2_with fail
    rw [← hw0]
    clear hw0
    refine (HF.out w0).mono ?_
    rintro e wf ⟨rfl, rfl⟩
    go_wp2
    go_ret
    exact ⟨ret_bool H.out.symm, HB.out⟩
  have f1 : decide (8 ≤ x.bits ∧ x.bits ≤ 30) = true := decide_eq_true (by omega)
  have f3 : decide (x.pools.length ≤ 4) = true := decide_eq_true (by have := HPL.out; omega)
  have f4 : decide (x.res.length ≤ 8) = true := decide_eq_true (by have := HRL.out; omega)
  have f5 : decide (0 ≤ x.iface ∧ x.iface ≤ 99) = true := decide_eq_true (by omega)
  have f7 : decide (1 ≤ x.time ∧ x.time ≤ 2147483648) = true := decide_eq_true (by omega)
  have H : Hid (snF x.s = (x.pools.all poolF && x.res.all resF)) := by
    show _ = _
    unfold snF Sx.s
    simp only [f0, f1, f3, f4, f5, f7, Bool.true_and]
  clear f0 f1 f3 f4 f5 f7
  go_enter Try.func70, Try.ntmps70
  go_wp2_with fail
  rw [← hw0]
  clear hw0
  refine (HF.out w0).mono ?_
  rintro e wf ⟨rfl, rfl⟩
  go_wp2_with fail
  go_loopw [3] (fun v wr => ∃ k : Nat, v = .int .i64 k ∧ k ≤ pn ∧ Hid ((x.pools.take k).all poolF = true) ∧ Hid (Below w0.heap.size w0 wr)) (fun v _ => pn - (intOf v).toNat)
  case atStart => exact ⟨0, rfl, by omega, rfl, Below.refl _ _⟩
  case round =>
    obtain ⟨k, rfl, hk2, HE, HB2⟩ := hrel
    clear c0 c1 c2 c3 c4 c5 c6
    obtain ⟨c0, c1, c2, c3, c4, c5, c6⟩ := cel7 (HC0.out.below HB2.out HC0.out.lt)
    by_cases hlt : k < pn
    · obtain ⟨b, o, q, hpA, hbU, HA, p0, p1⟩ := atP (HOK.out.p.below (HB2.out.mono HUU.out)) hlt
      have hkz : (k : Int) < (pn : Int) := by omega
      rw [hpA] at c2
      clear hpA
      by_cases hv : q.last < q.first
      · have HT : Hid (snF x.s = false) := by
          show _ = _
          rw [H.out, all_bad HA.out (by unfold poolF; exact decide_eq_false (by omega)), Bool.false_and]
        clear HE HA
        go_wp2_with fail
        go_quiet (fail)
        go_wp2
        go_ret
        exact ⟨ret_bool HT.out.symm, below_drewN (HB.out.trans (HB2.out.mono HB.out.size)) _⟩
      · have HT : Hid ((x.pools.take (k + 1)).all poolF = true) := all_next HA.out HE.out (by unfold poolF; exact decide_eq_true (by omega))
        clear HE HA
        go_wp2_with fail
        go_quiet (fail)
        go_wp2
        go_roundw
        case rel => exact ⟨k + 1, by go_num, by omega, HT.out, below_drewN HB2.out _⟩
        case measure => simp [intOf]; omega
    · obtain rfl : k = pn := by omega
      have HT : Hid (x.pools.all poolF = true) := by rw [← HPL.out] at HE; rw [List.take_length] at HE; exact HE
      rw [HT.out, Bool.true_and] at H
      have hkz : ¬ (k : Int) < (k : Int) := by omega
      clear hlt HE
      go_wp2_with fail
      go_loopw [4] (fun v wr => ∃ j : Nat, v = .int .i64 j ∧ j ≤ rn ∧ Hid ((x.res.take j).all resF = true) ∧ Hid (Below w0.heap.size w0 wr)) (fun v _ => rn - (intOf v).toNat)
      case atStart => exact ⟨0, rfl, by omega, rfl, HB2.out⟩
      case round =>
        obtain ⟨j, rfl, hj2, HE, HB3⟩ := hrel
        clear c0 c1 c2 c3 c4 c5 c6
        obtain ⟨c0, c1, c2, c3, c4, c5, c6⟩ := cel7 (HC0.out.below HB3.out HC0.out.lt)
        by_cases hlt2 : j < rn
        · obtain ⟨b, o, r, hrA, hbU, HA, p0, p1⟩ := atR (HOK.out.r.below (HB3.out.mono HUU.out)) hlt2
          have hjz : (j : Int) < (rn : Int) := by omega
          rw [hrA] at c3
          clear hrA
          have HR : Hid (∀ W, Calls Try.prog 85 #[.string (ba r.key)] W fun e w' => e = .returned (.bool (resF r)) ∧ W = w') := fun W => Kw.refRight_any (ba r.key) W (by rw [ba_size]; exact HOK.out.k r (List.mem_of_getElem? HA.out))
          cases hv : resF r with
          | false =>
            have HT2 : Hid (snF x.s = false) := by
              show _ = _
              rw [H.out, all_bad HA.out hv]
            rw [hv] at HR
            clear HE HA hv
            go_wp2_with fail
            refine (HR.out _).mono ?_
            rintro e w4 ⟨rfl, rfl⟩
            go_wp2
            go_ret
            exact ⟨ret_bool HT2.out.symm, HB.out.trans (HB3.out.mono HB.out.size)⟩
          | true =>
            have HT2 : Hid ((x.res.take (j + 1)).all resF = true) := all_next HA.out HE.out hv
            rw [hv] at HR
            clear HE HA hv
            go_wp2_with fail
            refine (HR.out _).mono ?_
            rintro e w4 ⟨rfl, rfl⟩
            go_wp2
            go_roundw
            case rel => exact ⟨j + 1, by go_num, by omega, HT2.out, HB3.out⟩
            case measure => simp [intOf]; omega
        · obtain rfl : j = rn := by omega
          have HT2 : Hid (snF x.s = true) := by
            show _ = _
            rw [H.out]
            rw [← HRL.out, List.take_length] at HE
            exact HE.out
          have hjz : ¬ (j : Int) < (j : Int) := by omega
          clear hlt2 HE
          go_wp2
          go_ret
          exact ⟨ret_bool HT2.out.symm, HB.out.trans (HB3.out.mono HB.out.size)⟩
end Go.Proofs.Ytoilljilndmmfaa.Vw
