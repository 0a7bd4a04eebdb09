/- What the document's own subnet, lends and Form come to. Conditions: the configuration reads; for lends, the prefix is right. -/
import Derived.Test.YtoldppbakapohaaGreatDoorVwB
import Derived.Deep.RegionHeld3
import Derived.Deep.RegionWith
section
set_option maxRecDepth 8000
namespace Go.Proofs.YtoldppbakapohaaGreatDoor.Vw
open Go.RowKit By Cf Ad Ky
open Dw (ba ba_size ba_data ba_list alloc_more)

/-- Memory that has a subnet in a new block. -/
theorem boxedS (w : World) (x : Sx) (pn rn : Nat) : ∃ w0, w0 = w.alloc (.cells (x.cs pn rn) 115) ∧ Cel w0 w.heap.size 115 (x.cs pn rn) ∧ Below w.heap.size w w0 := ⟨_, rfl, Cel.born _ _ _, alloc_more _ _⟩
theorem all_next {α : Type} {p : α → Bool} {l : List α} {k : Nat} {a : α} (h : l[k]? = some a) (hE : (l.take k).all p = true) (hq : p a = true) : (l.take (k + 1)).all p = true := by
  rw [take_at h, List.all_append, hE, List.all_cons, hq]
  rfl
theorem all_bad {α : Type} {p : α → Bool} {l : List α} {k : Nat} {a : α} (h : l[k]? = some a) (hq : p a = false) : l.all p = false := List.all_eq_false.2 ⟨a, List.mem_of_getElem? h, by rw [hq]; decide⟩
set_option maxHeartbeats 1000000 in
theorem refLends_any (x : Sx) (pn rn : Nat) (a : Int) (w : World) (hf : fairB x.base x.bits = true) : Calls Tryz.prog 99 #[x.v pn rn, .int .i64 a] w (isB (lendsB x.s a) w) := by
  obtain ⟨w0, hw0, hc0, hb0⟩ := boxedS w x pn rn
  have HF := Lib.hid hf
  have hc := cel7 hc0
  have HB := Lib.hid hb0
  clear hf hc0 hb0
  obtain ⟨c0, c1, _, _, _, _, _⟩ := hc
  by_cases h1 : a > x.base
  · have H : Hid (lendsB x.s a = decide (a < x.base + sz x.bits - 1)) := by
      show _ = _
      unfold lendsB Sx.s
      rw [decide_eq_decide]
      simp only
      omega
    go_enter Tryz.func99, Tryz.ntmps99
    go_wp2_with fail
    rw [← hw0]
    clear hw0
    refine (Aw.refLast_any _ _ _ HF.out).mono ?_
    rintro e w1 ⟨rfl, rfl⟩
    go_wp2
    go_ret
    exact ⟨ret_bool H.out.symm, HB.out⟩
  · have H : Hid (lendsB x.s a = false) := by
      show _ = _
      unfold lendsB Sx.s
      exact decide_eq_false fun k => h1 k.1
    go_enter Tryz.func99, Tryz.ntmps99
    go_upto_region 1 with fail
    rw [← hw0]
    clear hw0
    go_wp2
    go_ret
    exact ⟨ret_bool H.out.symm, HB.out⟩
set_option maxHeartbeats 16000000 in
theorem refSubnet_any (x : Sx) (pn rn U : Nat) (w : World) (hok : x.ok U w pn rn) (hU : U ≤ w.heap.size) : Calls Tryz.prog 98 #[x.v pn rn] w (isB (snF x.s) w) := by
  obtain ⟨w0, hw0, hc0, hb0⟩ := boxedS w x pn rn
  have hz : w0.heap.size = w.heap.size + 1 := by rw [hw0]; simp
  have HOK := Lib.hid (hok.below (hb0.mono hU))
  have HPL := Lib.hid hok.p.len
  have HRL := Lib.hid hok.r.len
  have hpc := hok.p.cap
  have hpm := hok.p.max
  have hrc := hok.r.cap
  have hrm := hok.r.max
  have HUU : Hid (U ≤ w0.heap.size) := Lib.hid (by omega)
  have HF := Lib.hid (fun W => Aw.refFair_any x.base x.bits W)
  have HB := Lib.hid hb0
  have HC0 := Lib.hid hc0
  obtain ⟨c0, c1, c2, c3, c4, c5, c6⟩ := cel7 hc0
  clear hok hU hc0 hb0 hz
  cases f0 : fairB x.base x.bits with
  | false =>
    rw [f0] at HF
    have H : Hid (snF x.s = false) := by show _ = _; unfold snF Sx.s; simp only [f0, Bool.false_and]
    go_enter Tryz.func98, Tryz.ntmps98
    go_wp2_with fail
    rw [← hw0]
    clear hw0
    refine (HF.out w0).mono ?_
    rintro e wf ⟨rfl, rfl⟩
    go_wp2
    go_ret
    exact ⟨ret_bool H.out.symm, HB.out⟩
  | true =>
  rw [f0] at HF
  by_cases g1 : x.bits < 8
  · have f1 : decide (8 ≤ x.bits ∧ x.bits ≤ 30) = false := decide_eq_false (by omega)
    have H : Hid (snF x.s = false) := by show _ = _; unfold snF Sx.s; simp only [f1, Bool.false_and, Bool.and_false]
    go_enter Tryz.func98, Tryz.ntmps98
    go_wp2_with fail
    rw [← hw0]
    clear hw0
    refine (HF.out w0).mono ?_
    rintro e wf ⟨rfl, rfl⟩
    go_wp2
    go_ret
    exact ⟨ret_bool H.out.symm, HB.out⟩
  by_cases g2 : x.bits > 30
  · have f2 : decide (8 ≤ x.bits ∧ x.bits ≤ 30) = false := decide_eq_false (by omega)
    have H : Hid (snF x.s = false) := by show _ = _; unfold snF Sx.s; simp only [f2, Bool.false_and, Bool.and_false]
    go_enter Tryz.func98, Tryz.ntmps98
    go_wp2_with fail
    rw [← hw0]
    clear hw0
    refine (HF.out w0).mono ?_
    rintro e wf ⟨rfl, rfl⟩
    go_wp2
    go_ret
    exact ⟨ret_bool H.out.symm, HB.out⟩
  by_cases g3 : (pn : Int) > 4
  · have f3 : decide (x.pools.length ≤ 4) = false := decide_eq_false (by have := HPL.out; omega)
    have H : Hid (snF x.s = false) := by show _ = _; unfold snF Sx.s; simp only [f3, Bool.false_and, Bool.and_false]
    go_enter Tryz.func98, Tryz.ntmps98
    go_wp2_with fail
    rw [← hw0]
    clear hw0
    refine (HF.out w0).mono ?_
    rintro e wf ⟨rfl, rfl⟩
    go_wp2
    go_ret
    exact ⟨ret_bool H.out.symm, HB.out⟩
  by_cases g4 : (rn : Int) > 8
  · have f4 : decide (x.res.length ≤ 8) = false := decide_eq_false (by have := HRL.out; omega)
    have H : Hid (snF x.s = false) := by show _ = _; unfold snF Sx.s; simp only [f4, Bool.false_and, Bool.and_false]
    go_enter Tryz.func98, Tryz.ntmps98
    go_wp2_with fail
    rw [← hw0]
    clear hw0
    refine (HF.out w0).mono ?_
    rintro e wf ⟨rfl, rfl⟩
    go_wp2
    go_ret
    exact ⟨ret_bool H.out.symm, HB.out⟩
  by_cases g5 : x.iface < 0
  · have f5 : decide (0 ≤ x.iface ∧ x.iface ≤ 99) = false := decide_eq_false (by omega)
    have H : Hid (snF x.s = false) := by show _ = _; unfold snF Sx.s; simp only [f5, Bool.false_and, Bool.and_false]
    go_enter Tryz.func98, Tryz.ntmps98
    go_wp2_with fail
    rw [← hw0]
    clear hw0
    refine (HF.out w0).mono ?_
    rintro e wf ⟨rfl, rfl⟩
    go_wp2
    go_ret
    exact ⟨ret_bool H.out.symm, HB.out⟩
  by_cases g6 : x.iface > 99
  · have f6 : decide (0 ≤ x.iface ∧ x.iface ≤ 99) = false := decide_eq_false (by omega)
    have H : Hid (snF x.s = false) := by show _ = _; unfold snF Sx.s; simp only [f6, Bool.false_and, Bool.and_false]
    go_enter Tryz.func98, Tryz.ntmps98
    go_wp2_with fail
    rw [← hw0]
    clear hw0
    refine (HF.out w0).mono ?_
    rintro e wf ⟨rfl, rfl⟩
    go_wp2
    go_ret
    exact ⟨ret_bool H.out.symm, HB.out⟩
  by_cases g7 : x.time < 1
  · have f7 : decide (1 ≤ x.time ∧ x.time ≤ 2147483648) = false := decide_eq_false (by omega)
    have H : Hid (snF x.s = false) := by show _ = _; unfold snF Sx.s; simp only [f7, Bool.false_and, Bool.and_false]
    go_enter Tryz.func98, Tryz.ntmps98
    go_wp2_with fail
    rw [← hw0]
    clear hw0
    refine (HF.out w0).mono ?_
    rintro e wf ⟨rfl, rfl⟩
    go_wp2
    go_ret
    exact ⟨ret_bool H.out.symm, HB.out⟩
  by_cases g8 : x.time > 2147483648
  · have f8 : decide (1 ≤ x.time ∧ x.time ≤ 2147483648) = false := decide_eq_false (by omega)
    have H : Hid (snF x.s = false) := by show _ = _; unfold snF Sx.s; simp only [f8, Bool.false_and, Bool.and_false]
    go_enter Tryz.func98, Tryz.ntmps98
    go_wp2_with fail
    rw [← hw0]
    clear hw0
    refine (HF.out w0).mono ?_
    rintro e wf ⟨rfl, rfl⟩
    go_wp2
    go_ret
    exact ⟨ret_bool H.out.symm, HB.out⟩
  have f1 : decide (8 ≤ x.bits ∧ x.bits ≤ 30) = true := decide_eq_true (by omega)
  have f3 : decide (x.pools.length ≤ 4) = true := decide_eq_true (by have := HPL.out; omega)
  have f4 : decide (x.res.length ≤ 8) = true := decide_eq_true (by have := HRL.out; omega)
  have f5 : decide (0 ≤ x.iface ∧ x.iface ≤ 99) = true := decide_eq_true (by omega)
  have f7 : decide (1 ≤ x.time ∧ x.time ≤ 2147483648) = true := decide_eq_true (by omega)
  have H : Hid (snF x.s = (x.pools.all poolF && x.res.all resF)) := by
    show _ = _
    unfold snF Sx.s
    simp only [f0, f1, f3, f4, f5, f7, Bool.true_and]
  clear f0 f1 f3 f4 f5 f7
  go_enter Tryz.func98, Tryz.ntmps98
  go_wp2_with fail
  rw [← hw0]
  clear hw0
  refine (HF.out w0).mono ?_
  rintro e wf ⟨rfl, rfl⟩
  go_wp2_with fail
  go_loopw [3] (fun v wr => ∃ k : Nat, v = .int .i64 k ∧ k ≤ pn ∧ Hid ((x.pools.take k).all poolF = true) ∧ Hid (Below w0.heap.size w0 wr)) (fun v _ => pn - (intOf v).toNat)
  case atStart => exact ⟨0, rfl, by omega, rfl, Below.refl _ _⟩
  case round =>
    obtain ⟨k, rfl, hk2, HE, HB2⟩ := hrel
    clear c0 c1 c2 c3 c4 c5 c6
    obtain ⟨c0, c1, c2, c3, c4, c5, c6⟩ := cel7 (HC0.out.below HB2.out HC0.out.lt)
    by_cases hlt : k < pn
    · obtain ⟨b, o, q, hpA, hbU, HA, p0, p1⟩ := atP (HOK.out.p.below (HB2.out.mono HUU.out)) hlt
      have hkz : (k : Int) < (pn : Int) := by omega
      rw [hpA] at c2
      clear hpA
      by_cases hv : q.last < q.first
      · have HT : Hid (snF x.s = false) := by
          show _ = _
          rw [H.out, all_bad HA.out (by unfold poolF; exact decide_eq_false (by omega)), Bool.false_and]
        clear HE HA
        go_wp2_with fail
        go_quiet (fail)
        go_wp2
        go_ret
        exact ⟨ret_bool HT.out.symm, below_drewN (HB.out.trans (HB2.out.mono HB.out.size)) _⟩
      · have HT : Hid ((x.pools.take (k + 1)).all poolF = true) := all_next HA.out HE.out (by unfold poolF; exact decide_eq_true (by omega))
        clear HE HA
        go_wp2_with fail
        go_quiet (fail)
        go_wp2
        go_roundw
        case rel => exact ⟨k + 1, by go_num, by omega, HT.out, below_drewN HB2.out _⟩
        case measure => simp [intOf]; omega
    · obtain rfl : k = pn := by omega
      have HT : Hid (x.pools.all poolF = true) := by rw [← HPL.out] at HE; rw [List.take_length] at HE; exact HE
      rw [HT.out, Bool.true_and] at H
      have hkz : ¬ (k : Int) < (k : Int) := by omega
      clear hlt HE
      go_wp2_with fail
      go_loopw [4] (fun v wr => ∃ j : Nat, v = .int .i64 j ∧ j ≤ rn ∧ Hid ((x.res.take j).all resF = true) ∧ Hid (Below w0.heap.size w0 wr)) (fun v _ => rn - (intOf v).toNat)
      case atStart => exact ⟨0, rfl, by omega, rfl, HB2.out⟩
      case round =>
        obtain ⟨j, rfl, hj2, HE, HB3⟩ := hrel
        clear c0 c1 c2 c3 c4 c5 c6
        obtain ⟨c0, c1, c2, c3, c4, c5, c6⟩ := cel7 (HC0.out.below HB3.out HC0.out.lt)
        by_cases hlt2 : j < rn
        · obtain ⟨b, o, r, hrA, hbU, HA, p0, p1⟩ := atR (HOK.out.r.below (HB3.out.mono HUU.out)) hlt2
          have hjz : (j : Int) < (rn : Int) := by omega
          rw [hrA] at c3
          clear hrA
          have HR : Hid (∀ W, Calls Tryz.prog 67 #[.string (ba r.key)] W fun e w' => e = .returned (.bool (resF r)) ∧ W = w') := fun W => Kw.refRight_any (ba r.key) W (by rw [ba_size]; exact HOK.out.k r (List.mem_of_getElem? HA.out))
          cases hv : resF r with
          | false =>
            have HT2 : Hid (snF x.s = false) := by
              show _ = _
              rw [H.out, all_bad HA.out hv]
            rw [hv] at HR
            clear HE HA hv
            go_wp2_with fail
            refine (HR.out _).mono ?_
            rintro e w4 ⟨rfl, rfl⟩
            go_wp2
            go_ret
            exact ⟨ret_bool HT2.out.symm, HB.out.trans (HB3.out.mono HB.out.size)⟩
          | true =>
            have HT2 : Hid ((x.res.take (j + 1)).all resF = true) := all_next HA.out HE.out hv
            rw [hv] at HR
            clear HE HA hv
            go_wp2_with fail
            refine (HR.out _).mono ?_
            rintro e w4 ⟨rfl, rfl⟩
            go_wp2
            go_roundw
            case rel => exact ⟨j + 1, by go_num, by omega, HT2.out, HB3.out⟩
            case measure => simp [intOf]; omega
        · obtain rfl : j = rn := by omega
          have HT2 : Hid (snF x.s = true) := by
            show _ = _
            rw [H.out]
            rw [← HRL.out, List.take_length] at HE
            exact HE.out
          have hjz : ¬ (j : Int) < (j : Int) := by omega
          clear hlt2 HE
          go_wp2
          go_ret
          exact ⟨ret_bool HT2.out.symm, HB.out.trans (HB3.out.mono HB.out.size)⟩
end Go.Proofs.YtoldppbakapohaaGreatDoor.Vw
end
/- What the document's own Form comes to. Condition: the configuration reads. -/
section
set_option maxRecDepth 8000
namespace Go.Proofs.YtoldppbakapohaaGreatDoor.Vw
open Go.RowKit By Cf Ad Ky
open Dw (ba ba_size ba_data ba_list alloc_more)

theorem celC {w : World} {g : Nat} {t : TypeId} {a b c : Value} (h : Cel w g t #[a, b, c]) : w.cell? ⟨g, 0, none⟩ = some a ∧ w.cell? ⟨g, 1, none⟩ = some b ∧ w.cell? ⟨g, 2, none⟩ = some c := ⟨by rw [h.cell]; rfl, by rw [h.cell]; rfl, by rw [h.cell]; rfl⟩
theorem netF_at {y : Nx} {m : Nat} (hm : y.xs.length = m) : netF y.l = (decide (1 ≤ m ∧ m ≤ 4) && y.xs.all fun x => snF x.s) := by
  unfold netF Nx.l
  rw [sns_len, hm]
  unfold snsOf
  rw [List.all_map]
  rfl
theorem form_at (x : Cx) : formC x.cf = (rightB x.server && decide (1 ≤ x.prob ∧ x.prob ≤ 2147483648) && decide (x.ns.length ≤ 4) && x.ns.all fun y => netF y.l) := by
  unfold formC
  rw [show x.cf.nets = netsOf x.ns from rfl, nets_len]
  unfold netsOf
  rw [List.all_map]
  rfl
set_option maxHeartbeats 8000000 in
theorem refForm_any (x : Cx) (U : Nat) (w : World) (h : x.ok U w) (hU : U ≤ w.heap.size) : Calls Tryz.prog 57 #[x.v] w (isB (formC x.cf) w) := by
  obtain ⟨w0, hw0, hc0, hb0⟩ := boxedC w x
  have hfm := form_at x
  obtain ⟨srv, prob, A, n, c, ns⟩ := x
  have HX : Hid (RdNx U w A n c ns) := h.rd
  have HL : Hid (ns.length = n) := h.rd.len
  have HUU := Lib.hid hU
  have hcp : n ≤ c := h.rd.cap
  have hmx : c ≤ 9223372036854775807 := h.rd.max
  have HR := Lib.hid (fun W => Aw.refRight_any srv W)
  have HB := Lib.hid hb0
  have HC0 : Hid (Cel w0 w.heap.size 24 #[.int .i64 srv, .int .i64 prob, .slice A n c]) := hc0
  simp only at hfm
  rw [h.len] at hfm
  simp only at hfm
  show Calls _ _ #[.agg #[.int .i64 srv, .int .i64 prob, .slice A n c]] w (isB (formC (Cx.cf ⟨srv, prob, A, n, c, ns⟩)) w)
  have hw0' : w0 = w.alloc (.cells #[.int .i64 srv, .int .i64 prob, .slice A n c] 24) := hw0
  generalize formC (Cx.cf ⟨srv, prob, A, n, c, ns⟩) = ans at hfm ⊢
  have HFM := Lib.hid hfm
  clear h hU hc0 hb0 hw0 hfm
  cases f0 : rightB srv with
  | false =>
    have H : Hid (ans = false) := by show _ = _; rw [HFM.out, f0]; rfl
    rw [f0] at HR
    go_enter Tryz.func57, Tryz.ntmps57
    go_upto_region 1 with fail
    rw [← hw0']
    clear hw0'
    obtain ⟨c0, c1, c2⟩ := celC HC0.out
    go_wp2_with fail
    refine (HR.out w0).mono ?_
    rintro e w1 ⟨rfl, rfl⟩
    go_wp2
    go_ret
    exact ⟨ret_bool H.out.symm, HB.out⟩
  | true =>
  rw [f0] at HR
  by_cases g1 : prob < 1
  · have H : Hid (ans = false) := by show _ = _; rw [HFM.out, decide_eq_false (show ¬ (1 ≤ prob ∧ prob ≤ 2147483648) by omega)]; simp
    go_enter Tryz.func57, Tryz.ntmps57
    go_upto_region 1 with fail
    rw [← hw0']
    clear hw0'
    obtain ⟨c0, c1, c2⟩ := celC HC0.out
    go_wp2_with fail
    refine (HR.out w0).mono ?_
    rintro e w1 ⟨rfl, rfl⟩
    go_wp2
    go_ret
    exact ⟨ret_bool H.out.symm, HB.out⟩
  by_cases g2 : prob > 2147483648
  · have H : Hid (ans = false) := by show _ = _; rw [HFM.out, decide_eq_false (show ¬ (1 ≤ prob ∧ prob ≤ 2147483648) by omega)]; simp
    go_enter Tryz.func57, Tryz.ntmps57
    go_upto_region 1 with fail
    rw [← hw0']
    clear hw0'
    obtain ⟨c0, c1, c2⟩ := celC HC0.out
    go_wp2_with fail
    refine (HR.out w0).mono ?_
    rintro e w1 ⟨rfl, rfl⟩
    go_wp2
    go_ret
    exact ⟨ret_bool H.out.symm, HB.out⟩
  by_cases g3 : (n : Int) > 4
  · have H : Hid (ans = false) := by show _ = _; rw [HFM.out, decide_eq_false (show ¬ n ≤ 4 by omega)]; simp
    go_enter Tryz.func57, Tryz.ntmps57
    go_upto_region 1 with fail
    rw [← hw0']
    clear hw0'
    obtain ⟨c0, c1, c2⟩ := celC HC0.out
    go_wp2_with fail
    refine (HR.out w0).mono ?_
    rintro e w1 ⟨rfl, rfl⟩
    go_wp2
    go_ret
    exact ⟨ret_bool H.out.symm, HB.out⟩
  have H : Hid (ans = ns.all fun y => netF y.l) := by
    show _ = _
    rw [HFM.out, f0, decide_eq_true (show 1 ≤ prob ∧ prob ≤ 2147483648 by omega), decide_eq_true (show n ≤ 4 by omega)]
    rfl
  clear f0 HFM
  go_enter Tryz.func57, Tryz.ntmps57
  go_upto_region 1 with fail
  rw [← hw0']
  clear hw0'
  obtain ⟨c0, c1, c2⟩ := celC HC0.out
  go_wp2_with fail
  refine (HR.out w0).mono ?_
  rintro e w1 ⟨rfl, rfl⟩
  clear c0 c1 c2
  obtain ⟨c0, c1, c2⟩ := celC HC0.out
  go_wp2_with fail
  clear c0 c1 c2
  go_loopw [3] (fun v wr => ∃ i : Nat, v = .int .i64 i ∧ i ≤ n ∧ Hid (((ns.take i).all fun y => netF y.l) = true) ∧ Hid (Below w0.heap.size w0 wr)) (fun v _ => n - (intOf v).toNat)
  case atStart => exact ⟨0, rfl, by omega, rfl, Below.refl _ _⟩
  case round =>
    obtain ⟨i, rfl, hi2, HE, HB2⟩ := hrel
    have HBW := Lib.hid (HB.out.trans (HB2.out.mono HB.out.size))
    obtain ⟨c0, c1, c2⟩ := celC (HC0.out.below HB2.out HC0.out.lt)
    by_cases hlt : i < n
    · obtain ⟨b, o, y, m, rfl, hbU, HA, hy, n0⟩ := atN HX.out hlt
      have hiz : (i : Int) < (n : Int) := by omega
      have HY0 := Lib.hid hy
      have hyc := hy.cap
      have hym := hy.max
      have HNF := Lib.hid (netF_at hy.len)
      have HN0 : Hid (∀ W, Below w.heap.size w W → W.cell? ⟨b, o + i, none⟩ = some (.slice y.A m y.c)) := fun W hW => (hW.cell (p := ⟨b, o + i, none⟩) (Nat.lt_of_lt_of_le hbU HUU.out)).trans n0
      clear hy n0
      obtain ⟨yA, yc, xs⟩ := y
      have HY : Hid (RdSx U w yA m yc xs) := HY0
      have HN : Hid (∀ W, Below w.heap.size w W → W.cell? ⟨b, o + i, none⟩ = some (.slice yA m yc)) := HN0
      replace hyc : m ≤ yc := hyc
      replace hym : yc ≤ 9223372036854775807 := hym
      clear HY0 HN0
      have n0 := HN.out wr HBW.out
      by_cases hm0 : m = 0
      · have HT : Hid (ans = false) := by show _ = _; rw [H.out, all_bad HA.out (by rw [HNF.out, decide_eq_false (by omega)]; rfl)]
        subst hm0
        clear HE HA
        go_wp2
        go_ret
        exact ⟨ret_bool HT.out.symm, HBW.out⟩
      have hmz : ((m : Int) == 0) = false := by simpa using hm0
      by_cases hm4 : (m : Int) > 4
      · have HT : Hid (ans = false) := by show _ = _; rw [H.out, all_bad HA.out (by rw [HNF.out, decide_eq_false (by omega)]; rfl)]
        clear HE HA hm0
        go_wp2
        go_ret
        exact ⟨ret_bool HT.out.symm, HBW.out⟩
      have HNG : Hid (netF (Nx.l ⟨yA, yc, xs⟩) = xs.all fun x => snF x.s) := by show _ = _; rw [HNF.out, decide_eq_true (by omega)]; rfl
      clear hm0 HNF
      go_wp2_with fail
      clear c0 c1 c2 n0
      go_loopw [4] (fun v wr => ∃ k : Nat, v = .int .i64 k ∧ k ≤ m ∧ Hid (((xs.take k).all fun x => snF x.s) = true) ∧ Hid (Below w0.heap.size w0 wr)) (fun v _ => m - (intOf v).toNat)
      case atStart => exact ⟨0, rfl, by omega, rfl, HB2.out⟩
      case round =>
        obtain ⟨k, rfl, hk2, HE2, HB3⟩ := hrel
        have HBV := Lib.hid (HB.out.trans (HB3.out.mono HB.out.size))
        obtain ⟨c0, c1, c2⟩ := celC (HC0.out.below HB3.out HC0.out.lt)
        have n0 := HN.out wr HBV.out
        by_cases hlt2 : k < m
        · obtain ⟨b2, o2, s, pn, rn, rfl, hbU2, HD, hok, _, _, hsv⟩ := atS HY.out hlt2
          have hkz : (k : Int) < (m : Int) := by omega
          obtain ⟨s0, s1, s2, s3, s4, s5, s6⟩ := hsv.below (HBV.out.mono HUU.out) hbU2
          have HSN := Lib.hid (refSubnet_any s pn rn U wr (hok.below (HBV.out.mono HUU.out)) (Nat.le_trans HUU.out HBV.out.size))
          clear hok hsv
          cases hv : snF s.s with
          | false =>
            have HT : Hid (ans = false) := by show _ = _; rw [H.out, all_bad HA.out (by rw [HNG.out, all_bad HD.out hv])]
            rw [hv] at HSN
            clear HE HA HE2 HD hv
            go_wp2_with fail
            refine HSN.out.mono ?_
            rintro e w4 ⟨rfl, hb4⟩
            go_wp2
            go_ret
            exact ⟨ret_bool HT.out.symm, HBV.out.trans (hb4.mono HBV.out.size)⟩
          | true =>
            have HT : Hid (((xs.take (k + 1)).all fun x => snF x.s) = true) := all_next HD.out HE2.out hv
            rw [hv] at HSN
            clear HE2 HD hv
            go_wp2_with fail
            refine HSN.out.mono ?_
            rintro e w4 ⟨rfl, hb4⟩
            go_wp2
            go_roundw
            case rel => exact ⟨k + 1, by go_num, by omega, HT.out, HB3.out.trans (hb4.mono HB3.out.size)⟩
            case measure => simp [intOf]; omega
        · obtain rfl : k = m := by omega
          have HT : Hid (((ns.take (i + 1)).all fun y => netF y.l) = true) := all_next HA.out HE.out (by
            rw [HNG.out]
            rw [← HY.out.len, List.take_length] at HE2
            exact HE2.out)
          have hkz : ¬ (k : Int) < (k : Int) := by omega
          clear hlt2 HE2 HE HA
          go_wp2
          go_roundw
          case rel => exact ⟨i + 1, by go_num, by omega, HT.out, HB3.out⟩
          case measure => simp [intOf]; omega
    · obtain rfl : i = n := by omega
      have HT : Hid (ans = true) := by
        show _ = _
        rw [H.out]
        rw [← HL.out, List.take_length] at HE
        exact HE.out
      have hiz : ¬ (i : Int) < (i : Int) := by omega
      clear hlt HE
      go_wp2
      go_ret
      exact ⟨ret_bool HT.out.symm, HBW.out⟩
end Go.Proofs.YtoldppbakapohaaGreatDoor.Vw
end
/- What the document's own Places comes to. Conditions: the configuration reads, and its form is right. -/
section
set_option maxRecDepth 8000
namespace Go.Proofs.YtoldppbakapohaaGreatDoor.Vw
open Go.RowKit By Cf Ad Ky
open Dw (ba ba_size ba_data ba_list alloc_more)

theorem places_at (x : Cx) : placesC x.cf = x.ns.all fun y => y.xs.all fun s => snO x.server s.s := by
  unfold placesC
  rw [show x.cf.nets = netsOf x.ns from rfl]
  unfold netsOf
  rw [List.all_map]
  refine congrArg (x.ns.all ·) (funext fun y => ?_)
  show (snsOf y.xs).all _ = _
  unfold snsOf
  rw [List.all_map]
  rfl
theorem form_fair {x : Cx} (h : formC x.cf = true) : ∀ y ∈ x.ns, ∀ s ∈ y.xs, fairB s.base s.bits = true := by
  intro y hy s hs
  rw [form_at, Bool.and_eq_true, List.all_eq_true] at h
  have h1 := h.2 y hy
  unfold netF at h1
  rw [Bool.and_eq_true, List.all_eq_true] at h1
  exact sn_fair (h1.2 s.s (List.mem_map.2 ⟨s, hs, rfl⟩))
set_option maxHeartbeats 16000000 in
theorem refPlaces_any (x : Cx) (U : Nat) (w : World) (h : x.ok U w) (hU : U ≤ w.heap.size) (hf : formC x.cf = true) : Calls Tryz.prog 58 #[x.v] w (isB (placesC x.cf) w) := by
  obtain ⟨w0, hw0, hc0, hb0⟩ := boxedC w x
  have hfm := places_at x
  have hfr := form_fair hf
  obtain ⟨srv, prob, A, n, c, ns⟩ := x
  have HX : Hid (RdNx U w A n c ns) := h.rd
  have HL : Hid (ns.length = n) := h.rd.len
  have HUU := Lib.hid hU
  have hcp : n ≤ c := h.rd.cap
  have hmx : c ≤ 9223372036854775807 := h.rd.max
  have HB := Lib.hid hb0
  have HC0 : Hid (Cel w0 w.heap.size 24 #[.int .i64 srv, .int .i64 prob, .slice A n c]) := hc0
  have HFR : Hid (∀ y ∈ ns, ∀ s ∈ y.xs, fairB s.base s.bits = true) := hfr
  have H : Hid (placesC (Cx.cf ⟨srv, prob, A, n, c, ns⟩) = ns.all fun y => y.xs.all fun s => snO srv s.s) := hfm
  show Calls _ _ #[.agg #[.int .i64 srv, .int .i64 prob, .slice A n c]] w (isB (placesC (Cx.cf ⟨srv, prob, A, n, c, ns⟩)) w)
  have hw0' : w0 = w.alloc (.cells #[.int .i64 srv, .int .i64 prob, .slice A n c] 24) := hw0
  generalize placesC (Cx.cf ⟨srv, prob, A, n, c, ns⟩) = ans at H ⊢
  clear h hU hc0 hb0 hw0 hfm hfr hf
  go_enter Tryz.func58, Tryz.ntmps58
  go_upto_region 1 with fail
  rw [← hw0']
  clear hw0'
  go_wp2_with fail
  go_loopw [3] (fun v wr => ∃ i : Nat, v = .int .i64 i ∧ i ≤ n ∧ Hid (((ns.take i).all fun y => y.xs.all fun s => snO srv s.s) = true) ∧ Hid (Below w0.heap.size w0 wr)) (fun v _ => n - (intOf v).toNat)
  case atStart => exact ⟨0, rfl, by omega, rfl, Below.refl _ _⟩
  case round =>
    obtain ⟨i, rfl, hi2, HE, HB2⟩ := hrel
    have HBW := Lib.hid (HB.out.trans (HB2.out.mono HB.out.size))
    obtain ⟨c0, c1, c2⟩ := celC (HC0.out.below HB2.out HC0.out.lt)
    by_cases hlt : i < n
    · obtain ⟨b, o, y, m, rfl, hbU, HA, hy, n0⟩ := atN HX.out hlt
      have hiz : (i : Int) < (n : Int) := by omega
      have HY0 := Lib.hid hy
      have hyc := hy.cap
      have hym := hy.max
      have HN0 : Hid (∀ W, Below w.heap.size w W → W.cell? ⟨b, o + i, none⟩ = some (.slice y.A m y.c)) := fun W hW => (hW.cell (p := ⟨b, o + i, none⟩) (Nat.lt_of_lt_of_le hbU HUU.out)).trans n0
      have HFY := Lib.hid (HFR.out y (List.mem_of_getElem? HA.out))
      clear hy n0
      obtain ⟨yA, yc, xs⟩ := y
      have HY : Hid (RdSx U w yA m yc xs) := HY0
      have HN : Hid (∀ W, Below w.heap.size w W → W.cell? ⟨b, o + i, none⟩ = some (.slice yA m yc)) := HN0
      have HFX : Hid (∀ s ∈ xs, fairB s.base s.bits = true) := HFY
      replace hyc : m ≤ yc := hyc
      replace hym : yc ≤ 9223372036854775807 := hym
      clear HY0 HN0 HFY
      have n0 := HN.out wr HBW.out
      go_wp2_with fail
      clear c0 c1 c2 n0
      go_loopw [4] (fun v wr => ∃ k : Nat, v = .int .i64 k ∧ k ≤ m ∧ Hid (((xs.take k).all fun s => snO srv s.s) = true) ∧ Hid (Below w0.heap.size w0 wr)) (fun v _ => m - (intOf v).toNat)
      case atStart => exact ⟨0, rfl, by omega, rfl, HB2.out⟩
      case round =>
        obtain ⟨k, rfl, hk2, HE2, HB3⟩ := hrel
        have HBV := Lib.hid (HB.out.trans (HB3.out.mono HB.out.size))
        obtain ⟨c0, c1, c2⟩ := celC (HC0.out.below HB3.out HC0.out.lt)
        have n0 := HN.out wr HBV.out
        by_cases hlt2 : k < m
        · obtain ⟨b2, o2, s, pn, rn, rfl, hbU2, HD, hok, HPN, HRN, hsv⟩ := atS HY.out hlt2
          have hkz : (k : Int) < (m : Int) := by omega
          obtain ⟨s0, s1, s2, s3, s4, s5, s6⟩ := hsv.below (HBV.out.mono HUU.out) hbU2
          have hfs := HFX.out s (List.mem_of_getElem? HD.out)
          have HLN := Lib.hid (fun a W => refLends_any s pn rn a W hfs)
          have HPR := Lib.hid hok.p
          have HRR := Lib.hid hok.r
          have hpc := hok.p.cap
          have hpm := hok.p.max
          have hrc := hok.r.cap
          have hrm := hok.r.max
          have HSN : Hid (snO srv s.s = (s.pools.all (poolO srv s.s) && s.res.all (resO srv s.s) && (decide (s.router = 0) || hasB s.base s.bits s.router))) := rfl
          have HBAD : Hid (snO srv s.s = false → ans = false) := fun hv => by rw [H.out, all_bad HA.out (all_bad HD.out hv)]
          have HNXT : Hid (snO srv s.s = true → ((xs.take (k + 1)).all fun s => snO srv s.s) = true) := fun hv => all_next HD.out HE2.out hv
          obtain ⟨w5, hw5⟩ : ∃ w5, w5 = wr.alloc (.cells (s.cs pn rn) 115) := ⟨_, rfl⟩
          have hb5 : Below wr.heap.size wr w5 := by rw [hw5]; exact alloc_more _ _
          have hc5 : Cel w5 wr.heap.size 115 (s.cs pn rn) := by rw [hw5]; exact Cel.born _ _ _
          have HC5 := Lib.hid hc5
          have HLT : Hid (wr.heap.size < w5.heap.size) := hc5.lt
          have HB5 := Lib.hid (HB3.out.trans (hb5.mono HB3.out.size))
          have HBX := Lib.hid (HB.out.trans (HB5.out.mono HB.out.size))
          clear hok hsv hb5 hc5 hfs
          go_upto_region 8 with fail
          rw [← hw5]
          clear hw5
          generalize wr.heap.size = gg at HC5 HLT ⊢
          go_wp2_with fail
          clear c0 c1 c2 n0 s0 s1 s2 s3 s4 s5 s6
          go_loopw [6] (fun v wr => ∃ j : Nat, v = .int .i64 j ∧ j ≤ pn ∧ Hid ((s.pools.take j).all (poolO srv s.s) = true) ∧ Hid (Below w5.heap.size w5 wr)) (fun v _ => pn - (intOf v).toNat)
          case atStart => exact ⟨0, rfl, by omega, rfl, Below.refl _ _⟩
          case round =>
            obtain ⟨j, rfl, hj2, HE3, HB6⟩ := hrel
            have HBY := Lib.hid (HBX.out.trans (HB6.out.mono HBX.out.size))
            obtain ⟨s0, s1, s2, s3, s4, s5, s6⟩ := cel7 (HC5.out.below HB6.out HLT.out)
            by_cases hlt3 : j < pn
            · obtain ⟨b3, o3, q, hpA, hbU3, HQ, p0, p1⟩ := atP (HPR.out.below (HBY.out.mono HUU.out)) hlt3
              have hjz : (j : Int) < (pn : Int) := by omega
              rw [hpA] at s2
              clear hpA
              have HBADP : Hid (poolO srv s.s q = false → ans = false) := fun hv => HBAD.out (by rw [HSN.out, all_bad HQ.out hv]; rfl)
              have HNXP : Hid (poolO srv s.s q = true → (s.pools.take (j + 1)).all (poolO srv s.s) = true) := fun hv => all_next HQ.out HE3.out hv
              obtain ⟨w6, hw6⟩ : ∃ w6, w6 = wr.alloc (.cells #[.int .i64 q.first, .int .i64 q.last] 124) := ⟨_, rfl⟩
              have hb6 : Below wr.heap.size wr w6 := by rw [hw6]; exact alloc_more _ _
              have hc6 : Cel w6 wr.heap.size 124 #[.int .i64 q.first, .int .i64 q.last] := by rw [hw6]; exact Cel.born _ _ _
              have HB7 := Lib.hid (HB6.out.trans (hb6.mono HB6.out.size))
              have HBZ := Lib.hid (HBX.out.trans (HB7.out.mono HBX.out.size))
              have K : Hid (∀ W, Below w6.heap.size w6 W → (W.cell? ⟨gg, 0, none⟩ = some (.int .i64 s.base) ∧ W.cell? ⟨gg, 1, none⟩ = some (.int .i64 s.bits) ∧ W.cell? ⟨gg, 2, none⟩ = some (.slice s.pA pn s.pc) ∧ W.cell? ⟨gg, 3, none⟩ = some (.slice s.rA rn s.rc) ∧
                  W.cell? ⟨gg, 4, none⟩ = some (.int .i64 s.iface) ∧ W.cell? ⟨gg, 5, none⟩ = some (.int .i64 s.router) ∧ W.cell? ⟨gg, 6, none⟩ = some (.int .i64 s.time)) ∧
                  (W.cell? ⟨wr.heap.size, 0, none⟩ = some (.int .i64 q.first) ∧ W.cell? ⟨wr.heap.size, 1, none⟩ = some (.int .i64 q.last)) ∧ W.cell? ⟨w.heap.size, 0, none⟩ = some (.int .i64 srv)) := fun W hW => by
                have hb := HB7.out.trans (hW.mono HB7.out.size)
                have hbz := HB5.out.trans (hb.mono HB5.out.size)
                exact ⟨cel7 (HC5.out.below hb HLT.out), celP (hc6.below hW hc6.lt), (celC (HC0.out.below hbz HC0.out.lt)).1⟩
              have HLA := Lib.hid (HLN.out q.first)
              have HLB := Lib.hid (HLN.out q.last)
              have HPO : Hid (poolO srv s.s q = (lendsB s.s q.first && lendsB s.s q.last && !inPl q srv)) := rfl
              clear hb6 hc6
              cases h1 : lendsB s.s q.first with
              | false =>
                have HT : Hid (ans = false) := HBADP.out (by rw [HPO.out, h1]; rfl)
                rw [h1] at HLA
                clear h1 HQ HE3 HD HE2 HA HE
                go_upto_region 12 with fail
                rw [← hw6]
                clear hw6 s0 s1 s2 s3 s4 s5 s6 p0 p1
                obtain ⟨⟨s0, s1, s2, s3, s4, s5, s6⟩, ⟨p0, p1⟩, c0⟩ := K.out w6 (Below.refl _ _)
                go_wp2_with fail
                refine (HLA.out w6).mono ?_
                rintro e w7 ⟨rfl, hb7⟩
                clear s0 s1 s2 s3 s4 s5 s6 p0 p1 c0
                obtain ⟨⟨s0, s1, s2, s3, s4, s5, s6⟩, ⟨p0, p1⟩, c0⟩ := K.out w7 hb7
                go_wp2
                go_ret
                exact ⟨ret_bool HT.out.symm, HBZ.out.trans (hb7.mono HBZ.out.size)⟩
              | true =>
              rw [h1] at HLA
              cases h2 : lendsB s.s q.last with
              | false =>
                have HT : Hid (ans = false) := HBADP.out (by rw [HPO.out, h1, h2]; rfl)
                rw [h2] at HLB
                clear h1 h2 HQ HE3 HD HE2 HA HE
                go_upto_region 12 with fail
                rw [← hw6]
                clear hw6 s0 s1 s2 s3 s4 s5 s6 p0 p1
                obtain ⟨⟨s0, s1, s2, s3, s4, s5, s6⟩, ⟨p0, p1⟩, c0⟩ := K.out w6 (Below.refl _ _)
                go_wp2_with fail
                refine (HLA.out w6).mono ?_
                rintro e w7 ⟨rfl, hb7⟩
                clear s0 s1 s2 s3 s4 s5 s6 p0 p1 c0
                obtain ⟨⟨s0, s1, s2, s3, s4, s5, s6⟩, ⟨p0, p1⟩, c0⟩ := K.out w7 hb7
                go_wp2_with fail
                refine (HLB.out w7).mono ?_
                rintro e w8 ⟨rfl, hb8⟩
                have hb9 := hb7.trans (hb8.mono hb7.size)
                clear s0 s1 s2 s3 s4 s5 s6 p0 p1 c0
                obtain ⟨⟨s0, s1, s2, s3, s4, s5, s6⟩, ⟨p0, p1⟩, c0⟩ := K.out w8 hb9
                clear hb7 hb8
                go_wp2
                go_ret
                exact ⟨ret_bool HT.out.symm, HBZ.out.trans (hb9.mono HBZ.out.size)⟩
              | true =>
              rw [h2] at HLB
              by_cases h3 : srv ≥ q.first
              · by_cases h4 : srv ≤ q.last
                · have HT : Hid (ans = false) := HBADP.out (by rw [HPO.out, h1, h2, show inPl q srv = true from decide_eq_true ⟨h3, h4⟩]; rfl)
                  clear h1 h2 HQ HE3 HD HE2 HA HE
                  go_upto_region 12 with fail
                  rw [← hw6]
                  clear hw6 s0 s1 s2 s3 s4 s5 s6 p0 p1
                  obtain ⟨⟨s0, s1, s2, s3, s4, s5, s6⟩, ⟨p0, p1⟩, c0⟩ := K.out w6 (Below.refl _ _)
                  go_wp2_with fail
                  refine (HLA.out w6).mono ?_
                  rintro e w7 ⟨rfl, hb7⟩
                  clear s0 s1 s2 s3 s4 s5 s6 p0 p1 c0
                  obtain ⟨⟨s0, s1, s2, s3, s4, s5, s6⟩, ⟨p0, p1⟩, c0⟩ := K.out w7 hb7
                  go_wp2_with fail
                  refine (HLB.out w7).mono ?_
                  rintro e w8 ⟨rfl, hb8⟩
                  have hb9 := hb7.trans (hb8.mono hb7.size)
                  clear s0 s1 s2 s3 s4 s5 s6 p0 p1 c0
                  obtain ⟨⟨s0, s1, s2, s3, s4, s5, s6⟩, ⟨p0, p1⟩, c0⟩ := K.out w8 hb9
                  clear hb7 hb8
                  go_wp2
                  go_ret
                  exact ⟨ret_bool HT.out.symm, HBZ.out.trans (hb9.mono HBZ.out.size)⟩
                · have HT : Hid ((s.pools.take (j + 1)).all (poolO srv s.s) = true) := HNXP.out (by rw [HPO.out, h1, h2, show inPl q srv = false from decide_eq_false fun k => h4 k.2]; rfl)
                  clear h1 h2 HQ HE3
                  go_upto_region 12 with fail
                  rw [← hw6]
                  clear hw6 s0 s1 s2 s3 s4 s5 s6 p0 p1
                  obtain ⟨⟨s0, s1, s2, s3, s4, s5, s6⟩, ⟨p0, p1⟩, c0⟩ := K.out w6 (Below.refl _ _)
                  go_wp2_with fail
                  refine (HLA.out w6).mono ?_
                  rintro e w7 ⟨rfl, hb7⟩
                  clear s0 s1 s2 s3 s4 s5 s6 p0 p1 c0
                  obtain ⟨⟨s0, s1, s2, s3, s4, s5, s6⟩, ⟨p0, p1⟩, c0⟩ := K.out w7 hb7
                  go_wp2_with fail
                  refine (HLB.out w7).mono ?_
                  rintro e w8 ⟨rfl, hb8⟩
                  have hb9 := hb7.trans (hb8.mono hb7.size)
                  clear s0 s1 s2 s3 s4 s5 s6 p0 p1 c0
                  obtain ⟨⟨s0, s1, s2, s3, s4, s5, s6⟩, ⟨p0, p1⟩, c0⟩ := K.out w8 hb9
                  clear hb7 hb8
                  go_wp2
                  go_roundw
                  case rel => exact ⟨j + 1, by go_num, by omega, HT.out, HB7.out.trans (hb9.mono HB7.out.size)⟩
                  case measure => simp [intOf]; omega
              · have HT : Hid ((s.pools.take (j + 1)).all (poolO srv s.s) = true) := HNXP.out (by rw [HPO.out, h1, h2, show inPl q srv = false from decide_eq_false fun k => h3 k.1]; rfl)
                clear h1 h2 HQ HE3
                go_upto_region 12 with fail
                rw [← hw6]
                clear hw6 s0 s1 s2 s3 s4 s5 s6 p0 p1
                obtain ⟨⟨s0, s1, s2, s3, s4, s5, s6⟩, ⟨p0, p1⟩, c0⟩ := K.out w6 (Below.refl _ _)
                go_wp2_with fail
                refine (HLA.out w6).mono ?_
                rintro e w7 ⟨rfl, hb7⟩
                clear s0 s1 s2 s3 s4 s5 s6 p0 p1 c0
                obtain ⟨⟨s0, s1, s2, s3, s4, s5, s6⟩, ⟨p0, p1⟩, c0⟩ := K.out w7 hb7
                go_wp2_with fail
                refine (HLB.out w7).mono ?_
                rintro e w8 ⟨rfl, hb8⟩
                have hb9 := hb7.trans (hb8.mono hb7.size)
                clear s0 s1 s2 s3 s4 s5 s6 p0 p1 c0
                obtain ⟨⟨s0, s1, s2, s3, s4, s5, s6⟩, ⟨p0, p1⟩, c0⟩ := K.out w8 hb9
                clear hb7 hb8
                go_wp2
                go_roundw
                case rel => exact ⟨j + 1, by go_num, by omega, HT.out, HB7.out.trans (hb9.mono HB7.out.size)⟩
                case measure => simp [intOf]; omega
            · obtain rfl : j = pn := by omega
              have HPA : Hid (s.pools.all (poolO srv s.s) = true) := by rw [← HPN.out] at HE3; rw [List.take_length] at HE3; exact HE3
              rw [HPA.out, Bool.true_and] at HSN
              have hjz : ¬ (j : Int) < (j : Int) := by omega
              clear hlt3 HE3
              go_wp2_with fail
              clear s0 s1 s2 s3 s4 s5 s6
              go_loopw [8] (fun v wr => ∃ r : Nat, v = .int .i64 r ∧ r ≤ rn ∧ Hid ((s.res.take r).all (resO srv s.s) = true) ∧ Hid (Below w5.heap.size w5 wr)) (fun v _ => rn - (intOf v).toNat)
              case atStart => exact ⟨0, rfl, by omega, rfl, HB6.out⟩
              case round =>
                obtain ⟨r, rfl, hr2, HE4, HB8⟩ := hrel
                have HBZ := Lib.hid (HBX.out.trans (HB8.out.mono HBX.out.size))
                obtain ⟨s0, s1, s2, s3, s4, s5, s6⟩ := cel7 (HC5.out.below HB8.out HLT.out)
                by_cases hlt4 : r < rn
                · obtain ⟨b4, o4, t, hrA, hbU4, HT4, p0, p1⟩ := atR (HRR.out.below (HBZ.out.mono HUU.out)) hlt4
                  have hrz : (r : Int) < (rn : Int) := by omega
                  have HBADR : Hid (resO srv s.s t = false → ans = false) := fun hv => HBAD.out (by rw [HSN.out, all_bad HT4.out hv]; rfl)
                  have HNXR : Hid (resO srv s.s t = true → (s.res.take (r + 1)).all (resO srv s.s) = true) := fun hv => all_next HT4.out HE4.out hv
                  have HRO : Hid (resO srv s.s t = (lendsB s.s t.addr && !decide (t.addr = srv))) := rfl
                  have HLA := Lib.hid (HLN.out t.addr)
                  have K : Hid (∀ W, Below wr.heap.size wr W → W.cell? ⟨gg, 0, none⟩ = some (.int .i64 s.base) ∧ W.cell? ⟨gg, 1, none⟩ = some (.int .i64 s.bits) ∧ W.cell? ⟨gg, 2, none⟩ = some (.slice s.pA j s.pc) ∧ W.cell? ⟨gg, 3, none⟩ = some (.slice (some ⟨b4, o4, none⟩) rn s.rc) ∧
                      W.cell? ⟨gg, 4, none⟩ = some (.int .i64 s.iface) ∧ W.cell? ⟨gg, 5, none⟩ = some (.int .i64 s.router) ∧ W.cell? ⟨gg, 6, none⟩ = some (.int .i64 s.time) ∧
                      W.cell? ⟨b4, o4 + r * 2 + 1, none⟩ = some (.int .i64 t.addr) ∧ W.cell? ⟨w.heap.size, 0, none⟩ = some (.int .i64 srv)) := fun W hW => by
                    have hb := HB8.out.trans (hW.mono HB8.out.size)
                    have hbz := HB5.out.trans (hb.mono HB5.out.size)
                    obtain ⟨z0, z1, z2, z3, z4, z5, z6⟩ := cel7 (HC5.out.below hb HLT.out)
                    rw [hrA] at z3
                    exact ⟨z0, z1, z2, z3, z4, z5, z6, (hW.cell (p := ⟨b4, o4 + r * 2 + 1, none⟩) (Nat.lt_of_lt_of_le hbU4 (Nat.le_trans HUU.out HBZ.out.size))).trans p1, (celC (HC0.out.below hbz HC0.out.lt)).1⟩
                  have HEQ : Hid (s.v j rn = .agg #[.int .i64 s.base, .int .i64 s.bits, .slice s.pA j s.pc, .slice (some ⟨b4, o4, none⟩) rn s.rc, .int .i64 s.iface, .int .i64 s.router, .int .i64 s.time]) := by
                    show _ = _
                    unfold Sx.v
                    rw [hrA]
                  rw [HEQ.out] at HLA
                  clear hrA HE4 HT4 HEQ s0 s1 s2 s3 s4 s5 s6 p0 p1
                  obtain ⟨s0, s1, s2, s3, s4, s5, s6, p1, c0⟩ := K.out wr (Below.refl _ _)
                  cases h1 : lendsB s.s t.addr with
                  | false =>
                    have HT : Hid (ans = false) := HBADR.out (by rw [HRO.out, h1]; rfl)
                    rw [h1] at HLA
                    clear h1 HD HE2 HA HE
                    go_wp2_with fail
                    clear s0 s1 s2 s3 s4 s5 s6 p1 c0
                    obtain ⟨s0, s1, s2, s3, s4, s5, s6, p1, c0⟩ := K.out wr.drew (Below.refl _ _).drew
                    refine wp_region_any (by kernel_rfl) ?_
                    change wpAny _ _ _ _ _ _ _ (World.drew _)
                    refine wpAny_take (i := 1) (v := .pointer (some ⟨gg, 3, none⟩)) rfl (by kernel_rfl) (by kernel_rfl) (by kernel_rfl) (fun _ _ _ h => h) (.inl ⟨by rfl, fun w => by go_simp⟩) ?_
                    simp only [Act.put, gTo, gZe, gSu, sTo, sZe, sSu]
                    refine wpAny_take (i := 3) (v := .int .i64 (r : Int)) rfl (by kernel_rfl) (by kernel_rfl) (by kernel_rfl) (fun _ _ _ h => h) (.inl ⟨by rfl, fun w => by go_simp⟩) ?_
                    simp only [Act.put, gTo, gZe, gSu, sTo, sZe, sSu]
                    refine wpAny_ready (rs := [0, 2]) (by kernel_rfl) (by simp) ?_
                    refine AllReady.cons rfl (fun K2 hK2 => ?_) (AllReady.cons rfl (fun K2 hK2 => ?_) (AllReady.nil))
                    · go_simp
                      refine hK2 _ _ ?_
                      clear hK2 K2
                      refine wpAny_ready (rs := [2]) (by kernel_rfl) (by simp) ?_
                      refine AllReady.cons rfl (fun K2 hK2 => ?_) (AllReady.nil)
                      go_simp
                      refine hK2 _ _ ?_
                      clear hK2 K2
                      refine wpAny_take (i := 4) (v := .pointer (some ⟨b4, o4 + r * 2, none⟩)) rfl (by kernel_rfl) (by kernel_rfl) (by kernel_rfl) (fun _ _ _ h => h) (.inl ⟨by rfl, fun w => by go_simp⟩) ?_
                      simp only [Act.put, gTo, gZe, gSu, sTo, sZe, sSu]
                      refine wpAny_take (i := 5) (v := .pointer (some ⟨b4, o4 + r * 2 + 1, none⟩)) rfl (by kernel_rfl) (by kernel_rfl) (by kernel_rfl) (fun _ _ _ h => h) (.inl ⟨by rfl, fun w => by go_simp⟩) ?_
                      simp only [Act.put, gTo, gZe, gSu, sTo, sZe, sSu]
                      refine wpAny_ready (rs := [6]) (by kernel_rfl) (by simp) ?_
                      refine AllReady.cons rfl (fun K2 hK2 => ?_) (AllReady.nil)
                      go_simp
                      refine hK2 _ _ ?_
                      clear hK2 K2
                      refine wpAny_ready (rs := [7]) (by kernel_rfl) (by simp) ?_
                      refine AllReady.cons rfl (fun K2 hK2 => ?_) (AllReady.nil)
                      go_simp
                      go_at_call 99
                      refine (HLA.out _).mono ?_
                      rintro ee wu ⟨rfl, hbu⟩
                      have hbu9 : Below wr.heap.size wr wu := below_undrew hbu
                      refine hK2 _ _ ?_
                      clear hK2 K2
                      refine wpAny_take (i := 8) (v := .bool true) rfl (by kernel_rfl) (by kernel_rfl) (by kernel_rfl) (fun _ _ _ h => h) (.inl ⟨by rfl, fun w => by go_simp⟩) ?_
                      simp only [Act.put, gTo, gZe, gSu, sTo, sZe, sSu]
                      refine wpAny_take (i := 9) (v := .bool true) rfl (by kernel_rfl) (by kernel_rfl) (by kernel_rfl) (fun _ _ _ h => h) (.inl ⟨by rfl, fun w => by go_simp⟩) ?_
                      simp only [Act.put, gTo, gZe, gSu, sTo, sZe, sSu]
                      refine wpAny_take (i := 10) (v := undef) rfl (by kernel_rfl) (by kernel_rfl) (by kernel_rfl) (fun _ _ _ h => h) (.inr ⟨by rfl, rfl⟩) ?_
                      simp only [Act.put, gTo, gZe, gSu, sTo, sZe, sSu]
                      refine wpAny_take (i := 11) (v := undef) rfl (by kernel_rfl) (by kernel_rfl) (by kernel_rfl) (fun _ _ _ h => h) (.inr ⟨by rfl, rfl⟩) ?_
                      simp only [Act.put, gTo, gZe, gSu, sTo, sZe, sSu]
                      refine wpAny_take (i := 12) (v := undef) rfl (by kernel_rfl) (by kernel_rfl) (by kernel_rfl) (fun _ _ _ h => h) (.inr ⟨by rfl, rfl⟩) ?_
                      simp only [Act.put, gTo, gZe, gSu, sTo, sZe, sSu]
                      refine wpAny_take (i := 13) (v := undef) rfl (by kernel_rfl) (by kernel_rfl) (by kernel_rfl) (fun _ _ _ h => h) (.inr ⟨by rfl, rfl⟩) ?_
                      simp only [Act.put, gTo, gZe, gSu, sTo, sZe, sSu]
                      refine wpAny_take (i := 14) (v := undef) rfl (by kernel_rfl) (by kernel_rfl) (by kernel_rfl) (fun _ _ _ h => h) (.inr ⟨by rfl, rfl⟩) ?_
                      simp only [Act.put, gTo, gZe, gSu, sTo, sZe, sSu]
                      refine wpAny_take (i := 15) (v := undef) rfl (by kernel_rfl) (by kernel_rfl) (by kernel_rfl) (fun _ _ _ h => h) (.inr ⟨by rfl, rfl⟩) ?_
                      simp only [Act.put, gTo, gZe, gSu, sTo, sZe, sSu]
                      refine wpAny_take (i := 16) (v := undef) rfl (by kernel_rfl) (by kernel_rfl) (by kernel_rfl) (fun _ _ _ h => h) (.inr ⟨by rfl, rfl⟩) ?_
                      simp only [Act.put, gTo, gZe, gSu, sTo, sZe, sSu]
                      refine wpAny_take (i := 17) (v := undef) rfl (by kernel_rfl) (by kernel_rfl) (by kernel_rfl) (fun _ _ _ h => h) (.inr ⟨by rfl, rfl⟩) ?_
                      simp only [Act.put, gTo, gZe, gSu, sTo, sZe, sSu]
                      refine wpAny_take (i := 18) (v := undef) rfl (by kernel_rfl) (by kernel_rfl) (by kernel_rfl) (fun _ _ _ h => h) (.inr ⟨by rfl, rfl⟩) ?_
                      simp only [Act.put, gTo, gZe, gSu, sTo, sZe, sSu]
                      refine wpAny_take (i := 19) (v := .bool true) rfl (by kernel_rfl) (by kernel_rfl) (by kernel_rfl) (fun _ _ _ h => h) (.inl ⟨by rfl, fun w => by go_simp⟩) ?_
                      simp only [Act.put, gTo, gZe, gSu, sTo, sZe, sSu]
                      refine wpAny_done (by kernel_rfl) ?_ _
                      go_wp2
                      go_ret
                      exact ⟨ret_bool HT.out.symm, HBZ.out.trans (hbu9.mono HBZ.out.size)⟩
                    · go_simp
                      refine hK2 _ _ ?_
                      clear hK2 K2
                      refine wpAny_take (i := 4) (v := .pointer (some ⟨b4, o4 + r * 2, none⟩)) rfl (by kernel_rfl) (by kernel_rfl) (by kernel_rfl) (fun _ _ _ h => h) (.inl ⟨by rfl, fun w => by go_simp⟩) ?_
                      simp only [Act.put, gTo, gZe, gSu, sTo, sZe, sSu]
                      refine wpAny_take (i := 5) (v := .pointer (some ⟨b4, o4 + r * 2 + 1, none⟩)) rfl (by kernel_rfl) (by kernel_rfl) (by kernel_rfl) (fun _ _ _ h => h) (.inl ⟨by rfl, fun w => by go_simp⟩) ?_
                      simp only [Act.put, gTo, gZe, gSu, sTo, sZe, sSu]
                      refine wpAny_ready (rs := [0, 6]) (by kernel_rfl) (by simp) ?_
                      refine AllReady.cons rfl (fun K2 hK2 => ?_) (AllReady.cons rfl (fun K2 hK2 => ?_) (AllReady.nil))
                      · go_simp
                        refine hK2 _ _ ?_
                        clear hK2 K2
                        refine wpAny_ready (rs := [6]) (by kernel_rfl) (by simp) ?_
                        refine AllReady.cons rfl (fun K2 hK2 => ?_) (AllReady.nil)
                        go_simp
                        refine hK2 _ _ ?_
                        clear hK2 K2
                        refine wpAny_ready (rs := [7]) (by kernel_rfl) (by simp) ?_
                        refine AllReady.cons rfl (fun K2 hK2 => ?_) (AllReady.nil)
                        go_simp
                        go_at_call 99
                        refine (HLA.out _).mono ?_
                        rintro ee wu ⟨rfl, hbu⟩
                        have hbu9 : Below wr.heap.size wr wu := below_undrew hbu
                        refine hK2 _ _ ?_
                        clear hK2 K2
                        refine wpAny_take (i := 8) (v := .bool true) rfl (by kernel_rfl) (by kernel_rfl) (by kernel_rfl) (fun _ _ _ h => h) (.inl ⟨by rfl, fun w => by go_simp⟩) ?_
                        simp only [Act.put, gTo, gZe, gSu, sTo, sZe, sSu]
                        refine wpAny_take (i := 9) (v := .bool true) rfl (by kernel_rfl) (by kernel_rfl) (by kernel_rfl) (fun _ _ _ h => h) (.inl ⟨by rfl, fun w => by go_simp⟩) ?_
                        simp only [Act.put, gTo, gZe, gSu, sTo, sZe, sSu]
                        refine wpAny_take (i := 10) (v := undef) rfl (by kernel_rfl) (by kernel_rfl) (by kernel_rfl) (fun _ _ _ h => h) (.inr ⟨by rfl, rfl⟩) ?_
                        simp only [Act.put, gTo, gZe, gSu, sTo, sZe, sSu]
                        refine wpAny_take (i := 11) (v := undef) rfl (by kernel_rfl) (by kernel_rfl) (by kernel_rfl) (fun _ _ _ h => h) (.inr ⟨by rfl, rfl⟩) ?_
                        simp only [Act.put, gTo, gZe, gSu, sTo, sZe, sSu]
                        refine wpAny_take (i := 12) (v := undef) rfl (by kernel_rfl) (by kernel_rfl) (by kernel_rfl) (fun _ _ _ h => h) (.inr ⟨by rfl, rfl⟩) ?_
                        simp only [Act.put, gTo, gZe, gSu, sTo, sZe, sSu]
                        refine wpAny_take (i := 13) (v := undef) rfl (by kernel_rfl) (by kernel_rfl) (by kernel_rfl) (fun _ _ _ h => h) (.inr ⟨by rfl, rfl⟩) ?_
                        simp only [Act.put, gTo, gZe, gSu, sTo, sZe, sSu]
                        refine wpAny_take (i := 14) (v := undef) rfl (by kernel_rfl) (by kernel_rfl) (by kernel_rfl) (fun _ _ _ h => h) (.inr ⟨by rfl, rfl⟩) ?_
                        simp only [Act.put, gTo, gZe, gSu, sTo, sZe, sSu]
                        refine wpAny_take (i := 15) (v := undef) rfl (by kernel_rfl) (by kernel_rfl) (by kernel_rfl) (fun _ _ _ h => h) (.inr ⟨by rfl, rfl⟩) ?_
                        simp only [Act.put, gTo, gZe, gSu, sTo, sZe, sSu]
                        refine wpAny_take (i := 16) (v := undef) rfl (by kernel_rfl) (by kernel_rfl) (by kernel_rfl) (fun _ _ _ h => h) (.inr ⟨by rfl, rfl⟩) ?_
                        simp only [Act.put, gTo, gZe, gSu, sTo, sZe, sSu]
                        refine wpAny_take (i := 17) (v := undef) rfl (by kernel_rfl) (by kernel_rfl) (by kernel_rfl) (fun _ _ _ h => h) (.inr ⟨by rfl, rfl⟩) ?_
                        simp only [Act.put, gTo, gZe, gSu, sTo, sZe, sSu]
                        refine wpAny_take (i := 18) (v := undef) rfl (by kernel_rfl) (by kernel_rfl) (by kernel_rfl) (fun _ _ _ h => h) (.inr ⟨by rfl, rfl⟩) ?_
                        simp only [Act.put, gTo, gZe, gSu, sTo, sZe, sSu]
                        refine wpAny_take (i := 19) (v := .bool true) rfl (by kernel_rfl) (by kernel_rfl) (by kernel_rfl) (fun _ _ _ h => h) (.inl ⟨by rfl, fun w => by go_simp⟩) ?_
                        simp only [Act.put, gTo, gZe, gSu, sTo, sZe, sSu]
                        refine wpAny_done (by kernel_rfl) ?_ _
                        go_wp2
                        go_ret
                        exact ⟨ret_bool HT.out.symm, HBZ.out.trans (hbu9.mono HBZ.out.size)⟩
                      · go_simp
                        refine hK2 _ _ ?_
                        clear hK2 K2
                        refine wpAny_ready (rs := [0]) (by kernel_rfl) (by simp) ?_
                        refine AllReady.cons rfl (fun K2 hK2 => ?_) (AllReady.nil)
                        go_simp
                        refine hK2 _ _ ?_
                        clear hK2 K2
                        refine wpAny_ready (rs := [7]) (by kernel_rfl) (by simp) ?_
                        refine AllReady.cons rfl (fun K2 hK2 => ?_) (AllReady.nil)
                        go_simp
                        go_at_call 99
                        refine (HLA.out _).mono ?_
                        rintro ee wu ⟨rfl, hbu⟩
                        have hbu9 : Below wr.heap.size wr wu := below_undrew hbu
                        refine hK2 _ _ ?_
                        clear hK2 K2
                        refine wpAny_take (i := 8) (v := .bool true) rfl (by kernel_rfl) (by kernel_rfl) (by kernel_rfl) (fun _ _ _ h => h) (.inl ⟨by rfl, fun w => by go_simp⟩) ?_
                        simp only [Act.put, gTo, gZe, gSu, sTo, sZe, sSu]
                        refine wpAny_take (i := 9) (v := .bool true) rfl (by kernel_rfl) (by kernel_rfl) (by kernel_rfl) (fun _ _ _ h => h) (.inl ⟨by rfl, fun w => by go_simp⟩) ?_
                        simp only [Act.put, gTo, gZe, gSu, sTo, sZe, sSu]
                        refine wpAny_take (i := 10) (v := undef) rfl (by kernel_rfl) (by kernel_rfl) (by kernel_rfl) (fun _ _ _ h => h) (.inr ⟨by rfl, rfl⟩) ?_
                        simp only [Act.put, gTo, gZe, gSu, sTo, sZe, sSu]
                        refine wpAny_take (i := 11) (v := undef) rfl (by kernel_rfl) (by kernel_rfl) (by kernel_rfl) (fun _ _ _ h => h) (.inr ⟨by rfl, rfl⟩) ?_
                        simp only [Act.put, gTo, gZe, gSu, sTo, sZe, sSu]
                        refine wpAny_take (i := 12) (v := undef) rfl (by kernel_rfl) (by kernel_rfl) (by kernel_rfl) (fun _ _ _ h => h) (.inr ⟨by rfl, rfl⟩) ?_
                        simp only [Act.put, gTo, gZe, gSu, sTo, sZe, sSu]
                        refine wpAny_take (i := 13) (v := undef) rfl (by kernel_rfl) (by kernel_rfl) (by kernel_rfl) (fun _ _ _ h => h) (.inr ⟨by rfl, rfl⟩) ?_
                        simp only [Act.put, gTo, gZe, gSu, sTo, sZe, sSu]
                        refine wpAny_take (i := 14) (v := undef) rfl (by kernel_rfl) (by kernel_rfl) (by kernel_rfl) (fun _ _ _ h => h) (.inr ⟨by rfl, rfl⟩) ?_
                        simp only [Act.put, gTo, gZe, gSu, sTo, sZe, sSu]
                        refine wpAny_take (i := 15) (v := undef) rfl (by kernel_rfl) (by kernel_rfl) (by kernel_rfl) (fun _ _ _ h => h) (.inr ⟨by rfl, rfl⟩) ?_
                        simp only [Act.put, gTo, gZe, gSu, sTo, sZe, sSu]
                        refine wpAny_take (i := 16) (v := undef) rfl (by kernel_rfl) (by kernel_rfl) (by kernel_rfl) (fun _ _ _ h => h) (.inr ⟨by rfl, rfl⟩) ?_
                        simp only [Act.put, gTo, gZe, gSu, sTo, sZe, sSu]
                        refine wpAny_take (i := 17) (v := undef) rfl (by kernel_rfl) (by kernel_rfl) (by kernel_rfl) (fun _ _ _ h => h) (.inr ⟨by rfl, rfl⟩) ?_
                        simp only [Act.put, gTo, gZe, gSu, sTo, sZe, sSu]
                        refine wpAny_take (i := 18) (v := undef) rfl (by kernel_rfl) (by kernel_rfl) (by kernel_rfl) (fun _ _ _ h => h) (.inr ⟨by rfl, rfl⟩) ?_
                        simp only [Act.put, gTo, gZe, gSu, sTo, sZe, sSu]
                        refine wpAny_take (i := 19) (v := .bool true) rfl (by kernel_rfl) (by kernel_rfl) (by kernel_rfl) (fun _ _ _ h => h) (.inl ⟨by rfl, fun w => by go_simp⟩) ?_
                        simp only [Act.put, gTo, gZe, gSu, sTo, sZe, sSu]
                        refine wpAny_done (by kernel_rfl) ?_ _
                        go_wp2
                        go_ret
                        exact ⟨ret_bool HT.out.symm, HBZ.out.trans (hbu9.mono HBZ.out.size)⟩
                  | true =>
                  rw [h1] at HLA
                  by_cases h2 : t.addr = srv
                  · have HT : Hid (ans = false) := HBADR.out (by rw [HRO.out, h1, decide_eq_true h2]; rfl)
                    have hz : (t.addr == srv) = true := by simpa using h2
                    clear h1 h2 HD HE2 HA HE
                    go_wp2_with fail
                    go_region_held3 (fun W => W.cell? ⟨gg, 0, none⟩ = some (.int .i64 s.base) ∧ W.cell? ⟨gg, 1, none⟩ = some (.int .i64 s.bits) ∧ W.cell? ⟨gg, 2, none⟩ = some (.slice s.pA j s.pc) ∧ W.cell? ⟨gg, 3, none⟩ = some (.slice (some ⟨b4, o4, none⟩) rn s.rc) ∧ W.cell? ⟨gg, 4, none⟩ = some (.int .i64 s.iface) ∧ W.cell? ⟨gg, 5, none⟩ = some (.int .i64 s.router) ∧ W.cell? ⟨gg, 6, none⟩ = some (.int .i64 s.time) ∧ W.cell? ⟨b4, o4 + r * 2 + 1, none⟩ = some (.int .i64 t.addr) ∧ W.cell? ⟨w.heap.size, 0, none⟩ = some (.int .i64 srv))
                      (first
                        | exact K.out _ (Below.refl _ _)
                        | exact K.out _ (Below.refl _ _).drew
                        | exact K.out _ hbu9)
                      ((go_simp; go_at_call 99; (with_reducible refine (HLA.out _).mono ?_); rintro ee wu ⟨rfl, hbu⟩; have hbu9 : Below wr.heap.size wr wu := below_undrew hbu))
                    all_goals (
                      go_wp2
                      go_ret
                      exact ⟨ret_bool HT.out.symm, HBZ.out.trans (hbu9.mono HBZ.out.size)⟩)
                  · have HT : Hid ((s.res.take (r + 1)).all (resO srv s.s) = true) := HNXR.out (by rw [HRO.out, h1, decide_eq_false h2]; rfl)
                    have hz : (t.addr == srv) = false := by simpa using h2
                    clear h1 h2
                    go_wp2_with fail
                    go_region_held3 (fun W => W.cell? ⟨gg, 0, none⟩ = some (.int .i64 s.base) ∧ W.cell? ⟨gg, 1, none⟩ = some (.int .i64 s.bits) ∧ W.cell? ⟨gg, 2, none⟩ = some (.slice s.pA j s.pc) ∧ W.cell? ⟨gg, 3, none⟩ = some (.slice (some ⟨b4, o4, none⟩) rn s.rc) ∧ W.cell? ⟨gg, 4, none⟩ = some (.int .i64 s.iface) ∧ W.cell? ⟨gg, 5, none⟩ = some (.int .i64 s.router) ∧ W.cell? ⟨gg, 6, none⟩ = some (.int .i64 s.time) ∧ W.cell? ⟨b4, o4 + r * 2 + 1, none⟩ = some (.int .i64 t.addr) ∧ W.cell? ⟨w.heap.size, 0, none⟩ = some (.int .i64 srv))
                      (first
                        | exact K.out _ (Below.refl _ _)
                        | exact K.out _ (Below.refl _ _).drew
                        | exact K.out _ hbu9)
                      ((go_simp; go_at_call 99; (with_reducible refine (HLA.out _).mono ?_); rintro ee wu ⟨rfl, hbu⟩; have hbu9 : Below wr.heap.size wr wu := below_undrew hbu))
                    all_goals (
                      go_wp2
                      go_roundw
                      case rel => exact ⟨r + 1, by go_num, by omega, HT.out, HB8.out.trans (hbu9.mono HB8.out.size)⟩
                      case measure => simp [intOf]; omega)
                · obtain rfl : r = rn := by omega
                  have HRA : Hid (s.res.all (resO srv s.s) = true) := by rw [← HRN.out] at HE4; rw [List.take_length] at HE4; exact HE4
                  rw [HRA.out, Bool.true_and] at HSN
                  have hrz : ¬ (r : Int) < (r : Int) := by omega
                  clear hlt4 HE4
                  by_cases h1 : s.router = 0
                  · have HT : Hid (((xs.take (k + 1)).all fun s => snO srv s.s) = true) := HNXT.out (by rw [HSN.out, decide_eq_true h1]; rfl)
                    have hz : (s.router == 0) = true := by simpa using h1
                    have hz2 : (s.router != 0) = false := by rw [bne, hz]; rfl
                    clear h1 HD HE2
                    go_wp2
                    go_roundw
                    case rel => exact ⟨k + 1, by go_num, by omega, HT.out, HB5.out.trans (HB8.out.mono HB5.out.size)⟩
                    case measure => simp [intOf]; omega
                  have hz : (s.router == 0) = false := by simpa using h1
                  have hz2 : (s.router != 0) = true := by rw [bne, hz]; rfl
                  cases h2 : hasB s.base s.bits s.router with
                  | false =>
                    have HT : Hid (ans = false) := HBAD.out (by rw [HSN.out, decide_eq_false h1, h2]; rfl)
                    clear h1 HD HE2 HA HE
                    go_wp2_with fail
                    refine (Aw.refHas_any _ _ _ _).mono ?_
                    rintro e w9 ⟨rfl, rfl⟩
                    rw [h2]
                    go_wp2
                    go_ret
                    exact ⟨ret_bool HT.out.symm, HBZ.out⟩
                  | true =>
                    have HT : Hid (((xs.take (k + 1)).all fun s => snO srv s.s) = true) := HNXT.out (by rw [HSN.out, h2, Bool.or_true])
                    clear h1 HD HE2
                    go_wp2_with fail
                    refine (Aw.refHas_any _ _ _ _).mono ?_
                    rintro e w9 ⟨rfl, rfl⟩
                    rw [h2]
                    go_wp2
                    go_roundw
                    case rel => exact ⟨k + 1, by go_num, by omega, HT.out, HB5.out.trans (HB8.out.mono HB5.out.size)⟩
                    case measure => simp [intOf]; omega
        · obtain rfl : k = m := by omega
          have HT : Hid (((ns.take (i + 1)).all fun y => y.xs.all fun s => snO srv s.s) = true) := all_next HA.out HE.out (by
            rw [← HY.out.len, List.take_length] at HE2
            exact HE2.out)
          have hkz : ¬ (k : Int) < (k : Int) := by omega
          clear hlt2 HE2 HE HA
          go_wp2
          go_roundw
          case rel => exact ⟨i + 1, by go_num, by omega, HT.out, HB3.out⟩
          case measure => simp [intOf]; omega
    · obtain rfl : i = n := by omega
      have HT : Hid (ans = true) := by
        show _ = _
        rw [H.out]
        rw [← HL.out, List.take_length] at HE
        exact HE.out
      have hiz : ¬ (i : Int) < (i : Int) := by omega
      clear hlt HE
      go_wp2
      go_ret
      exact ⟨ret_bool HT.out.symm, HBW.out⟩
end Go.Proofs.YtoldppbakapohaaGreatDoor.Vw
end
/- What the document's own Flat and Pooled come to. Conditions: the configuration reads; for Flat, at most ten networks of ten subnets each. -/
section
set_option maxRecDepth 8000
namespace Go.Proofs.YtoldppbakapohaaGreatDoor.Vw
open Go.RowKit By Cf Ad Ky
open Dw (ba ba_size ba_data ba_list alloc_more)

/-! ### Rows of numbers -/
def layI : Lay Nat := ⟨1, fun n => [.int .i64 (n : Int)], fun _ => rfl, fun e u hu => by
  simp only [List.mem_cons, List.not_mem_nil, or_false] at hu
  rcases hu with rfl; rfl⟩
abbrev RdI (U : Nat) (w : World) (A : Option Addr) (n c : Nat) (l : List Nat) : Prop := RdG layI U w A n c l
theorem intP : RgP Tryz.prog 118 3 layI (.int .i64 0) 8 := ⟨Tryz.underlying118, by kernel_rfl⟩
theorem snP : RgP Tryz.prog 108 115 layS (.agg #[.int .i64 0, .int .i64 0, .slice none 0 0, .slice none 0 0, .int .i64 0, .int .i64 0, .int .i64 0]) 88 := ⟨Tryz.underlying108, by kernel_rfl⟩
theorem rsP : RgP Tryz.prog 113 126 layR (.agg #[.string ⟨#[]⟩, .int .i64 0]) 24 := ⟨Tryz.underlying113, by kernel_rfl⟩
theorem atI {U : Nat} {w : World} {A : Option Addr} {n c : Nat} {l : List Nat} (h : RdI U w A n c l) {k : Nat} (hk : k < n) : ∃ b o i, A = some ⟨b, o, none⟩ ∧ b < U ∧ Hid (l[k]? = some i) ∧ w.cell? ⟨b, o + k, none⟩ = some (.int .i64 (i : Int)) := by
  obtain ⟨b, o, e, hU, i, hl, hc⟩ := h.at_ hk
  refine ⟨b, o, i, e, hU, hl, ?_⟩
  have := hc 0 _ rfl
  rw [show o + k * layI.s + 0 = o + k from by show o + k * 1 + 0 = o + k; omega] at this
  exact this
/-- Two rows of different element types do not share a block: what is done to one leaves the other. -/
theorem rowsApart {w : World} {e e' B B' s s' n n' : Nat} {A A' : Option Addr} {c c' : Nat} {xs ys : List Value} (hne : e ≠ e') (h : w.ownsRow B e s (.slice A n c) n xs) (h' : w.ownsRow B' e' s' (.slice A' n' c') n' ys) :
    (Value.slice A n c).ownBlock = none ∨ (Value.slice A n c).ownBlock ≠ (Value.slice A' n' c').ownBlock := by
  rcases h.2 with ⟨e1, _⟩ | ⟨g, cap, cur, e1, _, hg, _⟩
  · rw [e1]; exact .inl rfl
  · rcases h'.2 with ⟨e2, _⟩ | ⟨g', cap', cur', e2, _, hg', _⟩
    · rw [e1, e2]; exact .inr (by simp [Value.ownBlock])
    · rw [e1, e2]
      refine .inr fun k => ?_
      simp [Value.ownBlock] at k
      subst k
      rw [hg] at hg'
      injection hg' with hg'
      injection hg' with _ ht
      exact hne ht
theorem ownG_grown {α β : Type} {Y : Lay α} {Z : Lay β} {e e' B B' n n' c c' : Nat} {A A' : Option Addr} {l : List α} {m : List β} {w w' : World} (hne : e ≠ e') (h : OwnG Y e B w A n c l) (h' : OwnG Z e' B' w A' n' c' m) (hg : w.grownBy w' (Value.slice A' n' c').ownBlock) : OwnG Y e B w' A n c l :=
  ⟨World.ownsRow.kept h.1 hg (rowsApart hne h.1 h'.1), h.2⟩
theorem litSx (w : World) (x : Sx) {pn rn : Nat} (hp : x.pools.length = pn) (hr : x.res.length = rn) : RdG layS (w.heap.size + 1) (w.alloc (.cells (x.cs pn rn) 115)) (some ⟨w.heap.size, 0, none⟩) 1 1 [x] := by
  subst hp hr
  have := (OwnG.lit (Y := layS) 115 w [x] (by simp)).rd
  have e : (w.alloc (.cells (layS.cells [x]).toArray 115)).heap.size = w.heap.size + 1 := by simp
  rw [e, layS.cells_one] at this
  exact this
theorem litI (w : World) (i : Nat) : RdI (w.heap.size + 1) (w.alloc (.cells #[.int .i64 (i : Int)] 3)) (some ⟨w.heap.size, 0, none⟩) 1 1 [i] := by
  have := (OwnG.lit (Y := layI) 3 w [i] (by simp)).rd
  have e : (w.alloc (.cells (layI.cells [i]).toArray 3)).heap.size = w.heap.size + 1 := by simp
  rw [e, layI.cells_one] at this
  exact this
/-- What Flat answers: all subnets, and of each its network. -/
def FlR (w : World) (ps : List Px) (e : Ending) (w' : World) : Prop := ∃ A1 c1 A2 c2 n, e = .returned (.tuple #[.slice A1 n c1, .slice A2 n c2]) ∧ RdSx w'.heap.size w' A1 n c1 (ps.map Px.x) ∧ RdI w'.heap.size w' A2 n c2 (ps.map Px.net) ∧ Below w.heap.size w w'
set_option maxHeartbeats 8000000 in
theorem refFlat_any (x : Cx) (U : Nat) (w : World) (h : x.ok U w) (hU : U ≤ w.heap.size) (hn : x.n ≤ 10) (hs : ∀ y ∈ x.ns, y.xs.length ≤ 10) : Calls Tryz.prog 97 #[x.v] w (FlR w (pxF 0 x.ns)) := by
  obtain ⟨w0, hw0, hc0, hb0⟩ := boxedC w x
  obtain ⟨srv, prob, A, n, c, ns⟩ := x
  have HX : Hid (RdNx U w A n c ns) := h.rd
  have HL : Hid (ns.length = n) := h.rd.len
  have HUU := Lib.hid hU
  have hcp : n ≤ c := h.rd.cap
  have hmx : c ≤ 9223372036854775807 := h.rd.max
  have HS : Hid (∀ y ∈ ns, y.xs.length ≤ 10) := hs
  replace hn : n ≤ 10 := hn
  have HB := Lib.hid hb0
  have HC0 : Hid (Cel w0 w.heap.size 24 #[.int .i64 srv, .int .i64 prob, .slice A n c]) := hc0
  show Calls _ _ #[.agg #[.int .i64 srv, .int .i64 prob, .slice A n c]] w (FlR w (pxF 0 ns))
  have hw0' : w0 = w.alloc (.cells #[.int .i64 srv, .int .i64 prob, .slice A n c] 24) := hw0
  clear h hU hc0 hb0 hw0 hs
  go_enter Tryz.func97, Tryz.ntmps97
  go_upto_region 1 with fail
  rw [← hw0']
  clear hw0'
  go_wp2_with fail
  go_loopw [4, 5, 6] (fun u v i wr => ∃ (k : Nat) (A1 : Option Addr) (c1 : Nat) (A2 : Option Addr) (c2 : Nat) (ps : List Px), k ≤ n ∧ ps.length ≤ 10 * k ∧ i = .int .i64 k ∧ u = .slice A1 ps.length c1 ∧ v = .slice A2 ps.length c2 ∧ Hid (OwnG layS 115 w0.heap.size wr A1 ps.length c1 (ps.map Px.x)) ∧ Hid (OwnG layI 3 w0.heap.size wr A2 ps.length c2 (ps.map Px.net)) ∧ Hid (ps = pxF 0 (ns.take k)) ∧ Hid (Below w0.heap.size w0 wr)) (fun _ _ i _ => n - (intOf i).toNat)
  case atStart => exact ⟨0, none, 0, none, 0, [], by omega, Nat.le_refl _, rfl, rfl, rfl, OwnG.nil _ _ _, OwnG.nil _ _ _, rfl, Below.refl _ _⟩
  case round =>
    obtain ⟨k, A1, c1, A2, c2, ps, hk, hkl, rfl, rfl, rfl, HO1, HO2, HE, HB2⟩ := hrel
    have HBW := Lib.hid (HB.out.trans (HB2.out.mono HB.out.size))
    obtain ⟨q0, q1, q2⟩ := celC (HC0.out.below HB2.out HC0.out.lt)
    by_cases hlt : k < n
    · obtain ⟨b, o, y, m, rfl, hbU, HA, hy, n0⟩ := atN HX.out hlt
      have hkz : (k : Int) < (n : Int) := by omega
      have hm10 : m ≤ 10 := by have := HS.out y (List.mem_of_getElem? HA.out); have := hy.len; omega
      have HY0 := Lib.hid hy
      have hyc := hy.cap
      have hym := hy.max
      have HN0 : Hid (∀ W, Below w.heap.size w W → W.cell? ⟨b, o + k, none⟩ = some (.slice y.A m y.c)) := fun W hW => (hW.cell (p := ⟨b, o + k, none⟩) (Nat.lt_of_lt_of_le hbU HUU.out)).trans n0
      clear hy n0
      obtain ⟨yA, yc, xs⟩ := y
      have HY : Hid (RdSx U w yA m yc xs) := HY0
      have HN : Hid (∀ W, Below w.heap.size w W → W.cell? ⟨b, o + k, none⟩ = some (.slice yA m yc)) := HN0
      replace hyc : m ≤ yc := hyc
      replace hym : yc ≤ 9223372036854775807 := hym
      clear HY0 HN0
      have n0 := HN.out wr HBW.out
      go_wp2_with fail
      clear q0 q1 q2 n0
      go_loopw [4, 5, 7] (fun u v i wr => ∃ (j : Nat) (A3 : Option Addr) (c3 : Nat) (A4 : Option Addr) (c4 : Nat) (qs : List Px), j ≤ m ∧ qs.length ≤ 10 * k + j ∧ i = .int .i64 j ∧ u = .slice A3 qs.length c3 ∧ v = .slice A4 qs.length c4 ∧ Hid (OwnG layS 115 w0.heap.size wr A3 qs.length c3 (qs.map Px.x)) ∧ Hid (OwnG layI 3 w0.heap.size wr A4 qs.length c4 (qs.map Px.net)) ∧ Hid (qs = ps ++ pxN k (xs.take j)) ∧ Hid (Below w0.heap.size w0 wr)) (fun _ _ i _ => m - (intOf i).toNat)
      case atStart => exact ⟨0, A1, c1, A2, c2, ps, by omega, by omega, rfl, rfl, rfl, HO1.out, HO2.out, by simp [pxN, Hid], HB2.out⟩
      case round =>
        obtain ⟨j, A3, c3, A4, c4, qs, hj, hjl, rfl, rfl, rfl, HP1, HP2, HF, HB3⟩ := hrel
        have HBV := Lib.hid (HB.out.trans (HB3.out.mono HB.out.size))
        obtain ⟨q0, q1, q2⟩ := celC (HC0.out.below HB3.out HC0.out.lt)
        have n0 := HN.out wr HBV.out
        by_cases hlt2 : j < m
        · obtain ⟨b2, o2, x, pn, rn, rfl, hbU2, HD, hok, HP, HR, hsv⟩ := atS HY.out hlt2
          have hjz : (j : Int) < (m : Int) := by omega
          obtain ⟨s0, s1, s2, s3, s4, s5, s6⟩ := hsv.below (HBV.out.mono HUU.out) hbU2
          have hba : Below wr.heap.size wr (wr.alloc (.cells (x.cs pn rn) 115)) := alloc_more _ _
          have hown := HP1.out.below hba
          have hown2 := HP2.out.below hba
          have hlit := litSx wr x HP.out HR.out
          have hsz := HB3.out.size
          have HBA := Lib.hid (HB3.out.trans (hba.mono hsz))
          have HT : Hid (qs ++ [⟨x, k, j⟩] = ps ++ pxN k (xs.take (j + 1))) := by
            show _ = _
            rw [HF.out, take_at HD.out, pxN_snoc, List.append_assoc, List.length_take, Nat.min_eq_left (by have := HY.out.len; omega)]
          clear hok HP HR HD hsv hba
          go_upto_region 10 with (at_builtin; refine wpList_appG snP (by decide) (by decide) (by kernel_rfl) ?_ (.tmp 26) (.tmp 36) ?_ ?_ hown ?_ hlit (by omega) (by simp; omega) ?_; rfl; rfl; rfl; rfl; intro A5 c5 w5 happ)
          have HB5 := Lib.hid (HBA.out.trans happ.2.1)
          have hsz5 := HB5.out.size
          have hI5 := ownG_grown (by decide) hown2 hown happ.2.2.1
          have hba5 : Below w5.heap.size w5 (w5.alloc (.cells #[.int .i64 (k : Int)] 3)) := alloc_more _ _
          have HS6 := Lib.hid (happ.1.below hba5)
          have hI6 := hI5.below hba5
          have hlit2 := litI w5 k
          have HB6 := Lib.hid (HB5.out.trans (hba5.mono hsz5))
          clear happ hba5 hI5
          go_wp2_with (at_builtin; refine wpList_appG intP (by decide) (by decide) (by kernel_rfl) ?_ (.tmp 38) (.tmp 40) ?_ ?_ hI6 ?_ hlit2 (by omega) (by simp; omega) ?_; rfl; rfl; rfl; rfl; intro A7 c7 w7 happ7)
          go_roundw
          case rel =>
            refine ⟨j + 1, A5, c5, A7, c7, qs ++ [⟨x, k, j⟩], by omega, by rw [List.length_append]; simp; omega, by go_num, by rw [List.length_append]; rfl, by rw [List.length_append]; rfl, ?_, ?_, HT, HB6.out.trans happ7.2.1⟩
            · rw [List.length_append, List.map_append]
              exact ownG_grown (by decide) HS6.out hI6 happ7.2.2.1
            · rw [List.length_append, List.map_append]
              exact happ7.1
          case measure => simp [intOf]; omega
        · obtain rfl : j = m := by omega
          have HT : Hid (qs = pxF 0 (ns.take (k + 1))) := by
            show _ = _
            rw [HF.out, take_at HA.out, pxF_snoc, List.length_take, Nat.min_eq_left (by rw [HL.out]; omega), Nat.zero_add, ← HE.out, ← HY.out.len, List.take_length]
          have hjz : ¬ (j : Int) < (j : Int) := by omega
          clear hlt2 HE HA HF
          go_wp2
          go_roundw
          case rel => exact ⟨k + 1, A3, c3, A4, c4, qs, by omega, by omega, by go_num, rfl, rfl, HP1.out, HP2.out, HT.out, HB3.out⟩
          case measure => simp [intOf]; omega
    · obtain rfl : k = n := by omega
      have HT : Hid (ps = pxF 0 ns) := by rw [← HL.out] at HE; rw [List.take_length] at HE; exact HE
      have hkz : ¬ (k : Int) < (k : Int) := by omega
      clear hlt HE
      go_wp2
      go_ret2
      refine ⟨A1, c1, A2, c2, ps.length, rfl, ?_, ?_, HBW.out⟩
      · rw [← HT.out]
        refine ⟨HO1.out.rd, fun s hp => ?_⟩
        obtain ⟨p, hq, rfl⟩ := List.mem_map.1 hp
        obtain ⟨y, hy, hp⟩ := mem_pxF (show p ∈ pxF 0 ns by rw [← HT.out]; exact hq)
        exact (((HX.out.below (HBW.out.mono HUU.out)).2 y hy).2 _ hp).mono (Nat.le_trans HUU.out HBW.out.size)
      · rw [← HT.out]
        exact HO2.out.rd
theorem atPb {U : Nat} {w : World} {b o n c : Nat} {l : List Pl} (h : RdPl U w (some ⟨b, o, none⟩) n c l) {k : Nat} (hk : k < n) : ∃ p, Hid (l[k]? = some p) ∧ w.cell? ⟨b, o + k * 2, none⟩ = some (.int .i64 p.first) ∧ w.cell? ⟨b, o + k * 2 + 1, none⟩ = some (.int .i64 p.last) := by
  obtain ⟨b', o', p, e, _, hl, c0, c1⟩ := atP h hk
  injection e with e
  injection e with e1 e2
  subst e1 e2
  exact ⟨p, hl, c0, c1⟩
set_option maxHeartbeats 8000000 in
theorem refPooled_any (x : Sx) (pn rn U : Nat) (w : World) (hok : x.ok U w pn rn) (hU : U ≤ w.heap.size) : Calls Tryz.prog 100 #[x.v pn rn] w (isB (pooledB x.s) w) := by
  obtain ⟨w0, hw0, hc0, hb0⟩ := boxedS w x pn rn
  obtain ⟨base, bits, A, pc, pools, rA, rc, res, iface, router, time⟩ := x
  have HP : Hid (RdPl U w A pn pc pools) := hok.p
  have HL : Hid (pools.length = pn) := hok.p.len
  have hcp : pn ≤ pc := hok.p.cap
  have hmx : pc ≤ 9223372036854775807 := hok.p.max
  have HUU := Lib.hid hU
  have HB := Lib.hid hb0
  have HC0 : Hid (Cel w0 w.heap.size 115 #[.int .i64 base, .int .i64 bits, .slice A pn pc, .slice rA rn rc, .int .i64 iface, .int .i64 router, .int .i64 time]) := hc0
  show Calls _ _ #[.agg #[.int .i64 base, .int .i64 bits, .slice A pn pc, .slice rA rn rc, .int .i64 iface, .int .i64 router, .int .i64 time]] w (isB (pairB plMeet pools) w)
  have hw0' : w0 = w.alloc (.cells #[.int .i64 base, .int .i64 bits, .slice A pn pc, .slice rA rn rc, .int .i64 iface, .int .i64 router, .int .i64 time] 115) := hw0
  clear hok hU hc0 hb0 hw0
  go_enter Tryz.func100, Tryz.ntmps100
  go_upto_region 1 with fail
  rw [← hw0']
  clear hw0'
  go_wp2_with fail
  go_loopw [3] (fun v wr => ∃ i : Nat, v = .int .i64 i ∧ i ≤ pn ∧ Hid (pairB plMeet (pools.take i) = false) ∧ Hid (Below w0.heap.size w0 wr)) (fun v _ => pn - (intOf v).toNat)
  case atStart => exact ⟨0, rfl, by omega, rfl, Below.refl _ _⟩
  case round =>
    obtain ⟨i, rfl, hi2, HE, HB2⟩ := hrel
    have HBW := Lib.hid (HB.out.trans (HB2.out.mono HB.out.size))
    have c2 : wr.cell? ⟨w.heap.size, 2, none⟩ = some (.slice A pn pc) := by rw [(HC0.out.below HB2.out HC0.out.lt).cell]; rfl
    by_cases hlt : i < pn
    · obtain ⟨b, o, p, rfl, hbU, HA, p0, p1⟩ := atP HP.out hlt
      have HPC : Hid (∀ W, Below w.heap.size w W → W.cell? ⟨b, o + i * 2, none⟩ = some (.int .i64 p.first) ∧ W.cell? ⟨b, o + i * 2 + 1, none⟩ = some (.int .i64 p.last)) := fun W hW => ⟨(hW.cell (p := ⟨b, o + i * 2, none⟩) (Nat.lt_of_lt_of_le hbU HUU.out)).trans p0, (hW.cell (p := ⟨b, o + i * 2 + 1, none⟩) (Nat.lt_of_lt_of_le hbU HUU.out)).trans p1⟩
      have hiz : (i : Int) < (pn : Int) := by omega
      clear p0 p1
      go_wp2_with fail
      clear c2
      go_loopw [4] (fun v wr => ∃ k : Nat, v = .int .i64 k ∧ k ≤ i ∧ Hid ((pools.take k).any (plMeet p) = false) ∧ Hid (Below w0.heap.size w0 wr)) (fun v _ => i - (intOf v).toNat)
      case atStart => exact ⟨0, rfl, by omega, rfl, HB2.out⟩
      case round =>
        obtain ⟨k, rfl, hk2, HF, HB3⟩ := hrel
        have HBV := Lib.hid (HB.out.trans (HB3.out.mono HB.out.size))
        have c2 : wr.cell? ⟨w.heap.size, 2, none⟩ = some (.slice (some ⟨b, o, none⟩) pn pc) := by rw [(HC0.out.below HB3.out HC0.out.lt).cell]; rfl
        by_cases hlt2 : k < i
        · obtain ⟨p0, p1⟩ := HPC.out wr HBV.out
          obtain ⟨q, HD, q0, q1⟩ := atPb (HP.out.below (HBV.out.mono HUU.out)) (show k < pn by omega)
          have hkz : (k : Int) < (i : Int) := by omega
          have hkn : (k : Int) < (pn : Int) := by omega
          by_cases h1 : p.first ≤ q.last
          · by_cases h2 : q.first ≤ p.last
            · have HT : Hid (pairB plMeet pools = true) := pair_hit HA.out HD.out hlt2 (by unfold plMeet; exact decide_eq_true ⟨h1, h2⟩)
              clear HE HA HD HF
              go_wp2_with fail
              go_quiet (fail)
              go_wp2
              go_ret
              exact ⟨ret_bool HT.out.symm, below_drewN HBV.out _⟩
            · have HT : Hid ((pools.take (k + 1)).any (plMeet p) = false) := any_skip HD.out HF.out (by unfold plMeet; exact decide_eq_false fun z => h2 z.2)
              clear HD HF
              go_wp2_with fail
              go_quiet (fail)
              go_wp2
              go_roundw
              case rel => exact ⟨k + 1, by go_num, by omega, HT.out, below_drewN HB3.out _⟩
              case measure => simp [intOf]; omega
          · have HT : Hid ((pools.take (k + 1)).any (plMeet p) = false) := any_skip HD.out HF.out (by unfold plMeet; exact decide_eq_false fun z => h1 z.1)
            have hd : decide (p.first ≤ q.last) = false := decide_eq_false h1
            clear HD HF
            go_wp2_with fail
            go_quiet (fail)
            go_wp2
            go_roundw
            case rel => exact ⟨k + 1, by go_num, by omega, HT.out, below_drewN HB3.out _⟩
            case measure => simp [intOf]; omega
        · obtain rfl : k = i := by omega
          have HT : Hid (pairB plMeet (pools.take (k + 1)) = false) := pair_next HA.out HE.out HF.out
          have hkz : ¬ (k : Int) < (k : Int) := by omega
          clear hlt2 HE HA HF
          go_wp2
          go_roundw
          case rel => exact ⟨k + 1, by go_num, by omega, HT.out, HB3.out⟩
          case measure => simp [intOf]; omega
    · obtain rfl : i = pn := by omega
      have HT : Hid (pairB plMeet pools = false) := by rw [← HL.out] at HE; rw [List.take_length] at HE; exact HE
      have hiz : ¬ (i : Int) < (i : Int) := by omega
      clear hlt HE
      go_wp2
      go_ret
      exact ⟨ret_bool HT.out.symm, HBW.out⟩
end Go.Proofs.YtoldppbakapohaaGreatDoor.Vw
end
/- What the document's own Twice comes to. Conditions: the configuration reads; at most ten networks of ten subnets each, at most twenty reservations in each of them. -/
section
set_option maxRecDepth 8000
namespace Go.Proofs.YtoldppbakapohaaGreatDoor.Vw
open Go.RowKit By Cf Ad Ky
open Dw (ba ba_size ba_data ba_list alloc_more)

theorem get_map {α β : Type} {f : α → β} {l : List α} {k : Nat} {b : β} (h : (l.map f)[k]? = some b) : ∃ a, l[k]? = some a ∧ f a = b := by
  rw [List.getElem?_map, Option.map_eq_some_iff] at h
  exact h
/-- One subnet, and its network, out of two rows that lie side by side. -/
theorem atF {U : Nat} {w : World} {A1 A2 : Option Addr} {n c1 c2 : Nat} {ps : List Px} (h1 : RdSx U w A1 n c1 (ps.map Px.x)) (h2 : RdI U w A2 n c2 (ps.map Px.net)) {k : Nat} (hk : k < n) :
    ∃ b o b' o' p pn rn, A1 = some ⟨b, o, none⟩ ∧ A2 = some ⟨b', o', none⟩ ∧ b < U ∧ b' < U ∧ Hid (ps[k]? = some p) ∧ p.x.ok U w pn rn ∧ Hid (p.x.pools.length = pn) ∧ Hid (p.x.res.length = rn) ∧ Seven w b (o + k * 7) p.x pn rn ∧ w.cell? ⟨b', o' + k, none⟩ = some (.int .i64 (p.net : Int)) := by
  obtain ⟨b, o, x, pn, rn, e1, hb, hx, hok, hp, hr, hs⟩ := atS h1 hk
  obtain ⟨b', o', i, e2, hb', hi, hc⟩ := atI h2 hk
  obtain ⟨p, hp1, rfl⟩ := get_map hx.out
  obtain ⟨p', hp2, rfl⟩ := get_map hi.out
  obtain rfl : p = p' := by rw [hp1] at hp2; injection hp2
  exact ⟨b, o, b', o', p, pn, rn, e1, e2, hb, hb', hp1, hok, hp, hr, hs, hc⟩
theorem atFb {U : Nat} {w : World} {b o b' o' n c1 c2 : Nat} {ps : List Px} (h1 : RdSx U w (some ⟨b, o, none⟩) n c1 (ps.map Px.x)) (h2 : RdI U w (some ⟨b', o', none⟩) n c2 (ps.map Px.net)) {k : Nat} (hk : k < n) :
    ∃ p pn rn, Hid (ps[k]? = some p) ∧ Seven w b (o + k * 7) p.x pn rn ∧ w.cell? ⟨b', o' + k, none⟩ = some (.int .i64 (p.net : Int)) := by
  obtain ⟨_, _, _, _, p, pn, rn, e1, e2, _, _, hp, _, _, _, hs, hc⟩ := atF h1 h2 hk
  injection e1 with e1
  injection e1 with f1 f2
  injection e2 with e2
  injection e2 with g1 g2
  subst f1 f2 g1 g2
  exact ⟨p, pn, rn, hp, hs, hc⟩
/-- One reservation, and its network, out of two rows that lie side by side. -/
theorem atG {U : Nat} {w : World} {A1 A2 : Option Addr} {n c1 c2 : Nat} {ks : List Kx} (h1 : RdRs U w A1 n c1 (ks.map Kx.r)) (h2 : RdI U w A2 n c2 (ks.map Kx.net)) {k : Nat} (hk : k < n) :
    ∃ b o b' o' a, A1 = some ⟨b, o, none⟩ ∧ A2 = some ⟨b', o', none⟩ ∧ b < U ∧ b' < U ∧ Hid (ks[k]? = some a) ∧ w.cell? ⟨b, o + k * 2, none⟩ = some (.string (ba a.r.key)) ∧ w.cell? ⟨b, o + k * 2 + 1, none⟩ = some (.int .i64 a.r.addr) ∧ w.cell? ⟨b', o' + k, none⟩ = some (.int .i64 (a.net : Int)) := by
  obtain ⟨b, o, r, e1, hb, hr, c0, c1⟩ := atR h1 hk
  obtain ⟨b', o', i, e2, hb', hi, hc⟩ := atI h2 hk
  obtain ⟨p, hp1, rfl⟩ := get_map hr.out
  obtain ⟨p', hp2, rfl⟩ := get_map hi.out
  obtain rfl : p = p' := by rw [hp1] at hp2; injection hp2
  exact ⟨b, o, b', o', p, e1, e2, hb, hb', hp1, c0, c1, hc⟩
theorem atGb {U : Nat} {w : World} {b o b' o' n c1 c2 : Nat} {ks : List Kx} (h1 : RdRs U w (some ⟨b, o, none⟩) n c1 (ks.map Kx.r)) (h2 : RdI U w (some ⟨b', o', none⟩) n c2 (ks.map Kx.net)) {k : Nat} (hk : k < n) :
    ∃ a, Hid (ks[k]? = some a) ∧ w.cell? ⟨b, o + k * 2, none⟩ = some (.string (ba a.r.key)) ∧ w.cell? ⟨b, o + k * 2 + 1, none⟩ = some (.int .i64 a.r.addr) ∧ w.cell? ⟨b', o' + k, none⟩ = some (.int .i64 (a.net : Int)) := by
  obtain ⟨_, _, _, _, a, e1, e2, _, _, hp, c0, c1, hc⟩ := atG h1 h2 hk
  injection e1 with e1
  injection e1 with f1 f2
  injection e2 with e2
  injection e2 with g1 g2
  subst f1 f2 g1 g2
  exact ⟨a, hp, c0, c1, hc⟩
theorem litR (w : World) (r : Rs) : RdRs (w.heap.size + 1) (w.alloc (.cells #[.string (ba r.key), .int .i64 r.addr] 126)) (some ⟨w.heap.size, 0, none⟩) 1 1 [r] := by
  have := (OwnG.lit (Y := layR) 126 w [r] (by simp)).rd
  have e : (w.alloc (.cells (layR.cells [r]).toArray 126)).heap.size = w.heap.size + 1 := by simp
  rw [e, layR.cells_one] at this
  exact this
def qX (a b : Px) : Bool := snClash a.ns b.ns
def qK (a b : Kx) : Bool := rsClash a.nr b.nr
theorem twice_px (x : Cx) : twiceC x.cf = (pairB qX (pxF 0 x.ns) || pairB qK (kxF (pxF 0 x.ns)) || (pxF 0 x.ns).any fun p => pooledB p.x.s) := by
  unfold twiceC
  rw [show x.cf.nets = netsOf x.ns from rfl, flat_px, ← twice_code, List.any_map, pair_map (p := qX) (q := snClash) Px.ns (fun _ _ => rfl), ← kxF_nr, pair_map (p := qK) (q := rsClash) Kx.nr (fun _ _ => rfl)]
  rfl
theorem qX_is (p q : Px) : qX p q = (meetB p.x.base p.x.bits q.x.base q.x.bits || (decide (p.net ≠ q.net) && decide (0 < p.x.iface) && decide (p.x.iface = q.x.iface))) := rfl
theorem qK_is (a b : Kx) : qK a b = (decide (a.r.addr = b.r.addr) || (decide (a.net = b.net) && decide (a.r.key = b.r.key))) := rfl
set_option maxHeartbeats 40000000 in
theorem refTwice_any (x : Cx) (U : Nat) (w : World) (h : x.ok U w) (hU : U ≤ w.heap.size) (hn : x.n ≤ 10) (hs : ∀ y ∈ x.ns, y.xs.length ≤ 10) (hr : ∀ p ∈ pxF 0 x.ns, p.x.res.length ≤ 20) : Calls Tryz.prog 59 #[x.v] w (isB (twiceC x.cf) w) := by
  obtain ⟨w0, hw0, hc0, hb0⟩ := boxedC w x
  have hz : w0.heap.size = w.heap.size + 1 := by rw [hw0]; simp
  have HFL := Lib.hid (refFlat_any x U w0 (h.below (hb0.mono hU)) (by omega) hn hs)
  have HTW := Lib.hid (twice_px x)
  have HRL := Lib.hid hr
  have HNP : Hid ((pxF 0 x.ns).length ≤ 100) := Lib.hid (by have := pxF_len x.ns 0 hs; have := h.len; omega)
  have HB := Lib.hid hb0
  generalize twiceC x.cf = ans at HTW ⊢
  generalize pxF 0 x.ns = ps at HFL HTW HRL HNP
  clear h hU hn hs hr hc0 hb0 hz
  go_enter Tryz.func59, Tryz.ntmps59
  go_wp2_with fail
  rw [← hw0]
  clear hw0
  refine HFL.out.mono ?_
  rintro e w1 ⟨A1, c1, A2, c2, N, rfl, hr1, hr2, hb1⟩
  have HS := Lib.hid hr1
  have HI := Lib.hid hr2
  have hl1 := hr1.len
  rw [List.length_map] at hl1
  have HLN := Lib.hid hl1
  have hN : N ≤ 100 := by have := HNP.out; omega
  have hc1 := hr1.cap
  have hm1 := hr1.max
  have hc2 := hr2.cap
  have hm2 := hr2.max
  have HB1 := Lib.hid (HB.out.trans (hb1.mono HB.out.size))
  clear hr1 hr2 hl1 hb1 HFL
  go_wp2_with fail
  go_loopw [5, 6, 7] (fun u v i wr => ∃ (k : Nat) (A3 : Option Addr) (c3 : Nat) (A4 : Option Addr) (c4 : Nat) (ks : List Kx), k ≤ N ∧ ks.length ≤ 20 * k ∧ i = .int .i64 k ∧ u = .slice A3 ks.length c3 ∧ v = .slice A4 ks.length c4 ∧ Hid (OwnG layR 126 w1.heap.size wr A3 ks.length c3 (ks.map Kx.r)) ∧ Hid (OwnG layI 3 w1.heap.size wr A4 ks.length c4 (ks.map Kx.net)) ∧ Hid (ks = kxF (ps.take k)) ∧ Hid (((ps.take k).any fun p => pooledB p.x.s) = false) ∧ Hid (pairB qX (ps.take k) = false) ∧ Hid (Below w1.heap.size w1 wr)) (fun _ _ i _ => N - (intOf i).toNat)
  case atStart => exact ⟨0, none, 0, none, 0, [], by omega, Nat.le_refl _, rfl, rfl, rfl, OwnG.nil _ _ _, OwnG.nil _ _ _, rfl, rfl, rfl, Below.refl _ _⟩
  case round =>
    obtain ⟨i, A3, c3, A4, c4, ks, hi2, hkl, rfl, rfl, rfl, HO1, HO2, HE, HPO, HPR, HB2⟩ := hrel
    by_cases hlt : i < N
    · obtain ⟨b, o, b', o', p, pn, rn, rfl, rfl, hbU, hbU', HA, hok, HPN, HRN, hsv, hnc⟩ := atF HS.out HI.out hlt
      have hiz : (i : Int) < (N : Int) := by omega
      have HSV := Lib.hid hsv
      have HNC := Lib.hid hnc
      have HOK := Lib.hid hok
      have HPL := Lib.hid (refPooled_any p.x pn rn w1.heap.size wr (hok.below HB2.out) HB2.out.size)
      have hr20 : rn ≤ 20 := by have := HRL.out p (List.mem_of_getElem? HA.out); have := HRN.out; omega
      have hrc := hok.r.cap
      have hrm := hok.r.max
      obtain ⟨s0, s1, s2, s3, s4, s5, s6⟩ := hsv.below HB2.out hbU
      clear hok hsv hnc
      cases hv : pooledB p.x.s with
      | true =>
        have HT : Hid (ans = true) := by
          show _ = _
          rw [HTW.out, List.any_eq_true.2 ⟨p, List.mem_of_getElem? HA.out, hv⟩, Bool.or_true]
        rw [hv] at HPL
        clear hv HE HPO HPR HA
        go_wp2_with fail
        refine HPL.out.mono ?_
        rintro e w4 ⟨rfl, hb4⟩
        go_wp2
        go_ret
        exact ⟨ret_bool HT.out.symm, HB1.out.trans ((HB2.out.trans (hb4.mono HB2.out.size)).mono HB1.out.size)⟩
      | false =>
      have HPO2 : Hid (((ps.take (i + 1)).any fun p => pooledB p.x.s) = false) := any_skip HA.out HPO.out hv
      rw [hv] at HPL
      clear hv HPO
      go_wp2_with fail
      refine HPL.out.mono ?_
      rintro e w4 ⟨rfl, hb4⟩
      have HO3 := Lib.hid (HO1.out.below hb4)
      have HO4 := Lib.hid (HO2.out.below hb4)
      have HB4 := Lib.hid (HB2.out.trans (hb4.mono HB2.out.size))
      clear hb4 HPL HO1 HO2 s0 s1 s2 s3 s4 s5 s6
      go_wp2_with fail
      go_loopw [8] (fun v wr => ∃ k : Nat, v = .int .i64 k ∧ k ≤ i ∧ Hid ((ps.take k).any (qX p) = false) ∧ Hid (Below w4.heap.size w4 wr)) (fun v _ => i - (intOf v).toNat)
      case atStart => exact ⟨0, rfl, by omega, rfl, Below.refl _ _⟩
      case round =>
        obtain ⟨k, rfl, hk2, HF, HB5⟩ := hrel
        have HBV := Lib.hid (HB4.out.trans (HB5.out.mono HB4.out.size))
        by_cases hlt2 : k < i
        · obtain ⟨q, qn, sn, HD, hqs, hqc⟩ := atFb HS.out HI.out (show k < N by omega)
          have hkz : (k : Int) < (i : Int) := by omega
          have hkn : (k : Int) < (N : Int) := by omega
          have K : Hid (∀ W, Below w4.heap.size w4 W → Seven W b (o + i * 7) p.x pn rn ∧ Seven W b (o + k * 7) q.x qn sn ∧ W.cell? ⟨b', o' + i, none⟩ = some (.int .i64 (p.net : Int)) ∧ W.cell? ⟨b', o' + k, none⟩ = some (.int .i64 (q.net : Int))) := fun W hW => by
            have hb := HB4.out.trans (hW.mono HB4.out.size)
            exact ⟨HSV.out.below hb hbU, hqs.below hb hbU, (hb.cell (p := ⟨b', o' + i, none⟩) hbU').trans HNC.out, (hb.cell (p := ⟨b', o' + k, none⟩) hbU').trans hqc⟩
          clear hqs hqc
          obtain ⟨⟨s0, s1, s2, s3, s4, s5, s6⟩, ⟨t0, t1, t2, t3, t4, t5, t6⟩, n0, n1⟩ := K.out wr HB5.out
          cases hme : meetB p.x.base p.x.bits q.x.base q.x.bits with
          | true =>
            have HT : Hid (ans = true) := by
              show _ = _
              rw [HTW.out, pair_hit HA.out HD.out hlt2 (by rw [qX_is, hme]; rfl)]
              simp
            have HM : Hid (∀ W, Calls Tryz.prog 101 #[.int .i64 p.x.base, .int .i64 p.x.bits, .int .i64 q.x.base, .int .i64 q.x.bits] W fun e w' => e = .returned (.bool (meetB p.x.base p.x.bits q.x.base q.x.bits)) ∧ w' = W) := fun W => (Aw.refMeet_any p.x.base p.x.bits q.x.base q.x.bits W).mono fun _ _ h => ⟨h.1, h.2.symm⟩
            rw [hme] at HM
            clear hme HE HPR HA HF HD
            go_wp2_with fail
            go_quiet ((go_at_call 101; refine Calls.quiet_of_same (HM.out _)))
            go_wp2
            go_ret
            exact ⟨ret_bool HT.out.symm, below_drewN (HB1.out.trans (HBV.out.mono HB1.out.size)) _⟩
          | false =>
          have HM : Hid (∀ W, Calls Tryz.prog 101 #[.int .i64 p.x.base, .int .i64 p.x.bits, .int .i64 q.x.base, .int .i64 q.x.bits] W fun e w' => e = .returned (.bool (meetB p.x.base p.x.bits q.x.base q.x.bits)) ∧ w' = W) := fun W => (Aw.refMeet_any p.x.base p.x.bits q.x.base q.x.bits W).mono fun _ _ h => ⟨h.1, h.2.symm⟩
          rw [hme] at HM
          have HQ : Hid (qX p q = (decide (p.net ≠ q.net) && decide (0 < p.x.iface) && decide (p.x.iface = q.x.iface))) := by show _ = _; rw [qX_is, hme]; rfl
          clear hme
          have HBD : Hid (qX p q = true → ans = true) := fun hq => by
            rw [HTW.out, pair_hit HA.out HD.out hlt2 hq]
            simp
          have HNX : Hid (qX p q = false → (ps.take (k + 1)).any (qX p) = false) := fun hq => any_skip HD.out HF.out hq
          clear HF HD
          go_wp2_with fail
          go_quiet ((go_at_call 101; refine Calls.quiet_of_same (HM.out _)))
          obtain ⟨wq, hwq⟩ : ∃ wq, wq = wr.drewN nq := ⟨_, rfl⟩
          have HBQ : Hid (Below w4.heap.size w4 wq) := by rw [hwq]; exact below_drewN HB5.out nq
          rw [← hwq]
          clear hwq s0 s1 s2 s3 s4 s5 s6 t0 t1 t2 t3 t4 t5 t6 n0 n1
          obtain ⟨⟨s0, s1, s2, s3, s4, s5, s6⟩, ⟨t0, t1, t2, t3, t4, t5, t6⟩, n0, n1⟩ := K.out wq HBQ.out
          by_cases g1 : p.net = q.net
          · have HT : Hid ((ps.take (k + 1)).any (qX p) = false) := HNX.out (by rw [HQ.out, decide_eq_false (fun z => z g1)]; rfl)
            have hz : ((p.net : Int) == (q.net : Int)) = true := by rw [g1]; exact beq_self_eq_true _
            have hz2 : ((p.net : Int) != (q.net : Int)) = false := by rw [bne, hz]; rfl
            clear g1
            go_wp2_with fail
            go_quiet (fail)
            go_wp2
            go_roundw
            case rel => exact ⟨k + 1, by go_num, by omega, HT.out, below_drewN HBQ.out _⟩
            case measure => simp [intOf]; omega
          have hz : ((p.net : Int) == (q.net : Int)) = false := by
            rw [beq_eq_false_iff_ne]
            omega
          have hz2 : ((p.net : Int) != (q.net : Int)) = true := by rw [bne, hz]; rfl
          by_cases g2 : p.x.iface > 0
          · by_cases g3 : p.x.iface = q.x.iface
            · have HT : Hid (ans = true) := HBD.out (by rw [HQ.out, decide_eq_true g1, decide_eq_true g2, decide_eq_true g3]; rfl)
              have hy : (p.x.iface == q.x.iface) = true := by simpa using g3
              have hd : decide (p.x.iface > 0) = true := decide_eq_true g2
              clear g1 g3 HE HPR HA
              go_wp2_with fail
              go_quiet (fail)
              go_wp2
              go_ret
              exact ⟨ret_bool HT.out.symm, below_drewN (HB1.out.trans ((HB4.out.trans (HBQ.out.mono HB4.out.size)).mono HB1.out.size)) _⟩
            · have HT : Hid ((ps.take (k + 1)).any (qX p) = false) := HNX.out (by rw [HQ.out, decide_eq_false g3, Bool.and_false])
              have hy : (p.x.iface == q.x.iface) = false := by simpa using g3
              have hd : decide (p.x.iface > 0) = true := decide_eq_true g2
              clear g1 g3
              go_wp2_with fail
              go_quiet (fail)
              go_wp2
              go_roundw
              case rel => exact ⟨k + 1, by go_num, by omega, HT.out, below_drewN HBQ.out _⟩
              case measure => simp [intOf]; omega
          · have HT : Hid ((ps.take (k + 1)).any (qX p) = false) := HNX.out (by rw [HQ.out, decide_eq_false (show ¬ 0 < p.x.iface from g2), Bool.and_false, Bool.false_and])
            have hd : decide (p.x.iface > 0) = false := decide_eq_false g2
            have hd2 : decide (0 < p.x.iface) = false := decide_eq_false g2
            clear g1
            go_wp2_with fail
            go_quiet (fail)
            go_wp2
            go_roundw
            case rel => exact ⟨k + 1, by go_num, by omega, HT.out, below_drewN HBQ.out _⟩
            case measure => simp [intOf]; omega
        · obtain rfl : k = i := by omega
          have HPR2 : Hid (pairB qX (ps.take (k + 1)) = false) := pair_next HA.out HPR.out HF.out
          have hkz : ¬ (k : Int) < (k : Int) := by omega
          have HO5 := Lib.hid (HO3.out.below HB5.out)
          have HO6 := Lib.hid (HO4.out.below HB5.out)
          clear hlt2 HF HPR HO3 HO4
          go_wp2_with fail
          go_loopw [5, 6, 9] (fun u v i wr => ∃ (j : Nat) (A5 : Option Addr) (c5 : Nat) (A6 : Option Addr) (c6 : Nat) (qs : List Kx), j ≤ rn ∧ qs.length ≤ 20 * k + j ∧ i = .int .i64 j ∧ u = .slice A5 qs.length c5 ∧ v = .slice A6 qs.length c6 ∧ Hid (OwnG layR 126 w1.heap.size wr A5 qs.length c5 (qs.map Kx.r)) ∧ Hid (OwnG layI 3 w1.heap.size wr A6 qs.length c6 (qs.map Kx.net)) ∧ Hid (qs = ks ++ kxP1 p (p.x.res.take j)) ∧ Hid (Below w1.heap.size w1 wr)) (fun _ _ i _ => rn - (intOf i).toNat)
          case atStart => exact ⟨0, A3, c3, A4, c4, ks, by omega, by omega, rfl, rfl, rfl, HO5.out, HO6.out, by simp [kxP1, Hid], HBV.out⟩
          case round =>
            obtain ⟨j, A5, c5, A6, c6, qs, hj, hjl, rfl, rfl, rfl, HP1, HP2, HG, HB6⟩ := hrel
            obtain ⟨s0, s1, s2, s3, s4, s5, s6⟩ := HSV.out.below HB6.out hbU
            have n0 : wr.cell? ⟨b', o' + k, none⟩ = some (.int .i64 (p.net : Int)) := (HB6.out.cell (p := ⟨b', o' + k, none⟩) hbU').trans HNC.out
            by_cases hlt3 : j < rn
            · obtain ⟨b5, o5, r, hrA, hbU5, HD, d0, d1⟩ := atR (HOK.out.r.below HB6.out) hlt3
              have hjz : (j : Int) < (rn : Int) := by omega
              rw [hrA] at s3
              have hba : Below wr.heap.size wr (wr.alloc (.cells #[.string (ba r.key), .int .i64 r.addr] 126)) := alloc_more _ _
              have hown := HP1.out.below hba
              have hown2 := HP2.out.below hba
              have hlit := litR wr r
              have hsz := HB6.out.size
              have HBA := Lib.hid (HB6.out.trans (hba.mono hsz))
              have HT : Hid (qs ++ [⟨r, p.net⟩] = ks ++ kxP1 p (p.x.res.take (j + 1))) := by
                show _ = _
                rw [HG.out, take_at HD.out, kxP_snoc, List.append_assoc]
              clear hrA HD hba
              go_upto_region 20 with (at_builtin; refine wpList_appG rsP (by decide) (by decide) (by kernel_rfl) ?_ (.tmp 94) (.tmp 103) ?_ ?_ hown ?_ hlit (by omega) (by simp; omega) ?_; rfl; rfl; rfl; rfl; intro A7 c7 w7 happ)
              have HB7 := Lib.hid (HBA.out.trans happ.2.1)
              have hsz7 := HB7.out.size
              have hI7 := ownG_grown (by decide) hown2 hown happ.2.2.1
              have hba7 : Below w7.heap.size w7 (w7.alloc (.cells #[.int .i64 (p.net : Int)] 3)) := alloc_more _ _
              have HS8 := Lib.hid (happ.1.below hba7)
              have hI8 := hI7.below hba7
              have hlit2 := litI w7 p.net
              have HB8 := Lib.hid (HB7.out.trans (hba7.mono hsz7))
              have n7 : w7.cell? ⟨b', o' + k, none⟩ = some (.int .i64 (p.net : Int)) := (HB7.out.cell (p := ⟨b', o' + k, none⟩) hbU').trans HNC.out
              clear happ hba7 hI7 s0 s1 s2 s3 s4 s5 s6 n0 d0 d1
              go_wp2_with (at_builtin; refine wpList_appG intP (by decide) (by decide) (by kernel_rfl) ?_ (.tmp 105) (.tmp 110) ?_ ?_ hI8 ?_ hlit2 (by omega) (by simp; omega) ?_; rfl; rfl; rfl; rfl; intro A9 c9 w9 happ9)
              go_roundw
              case rel =>
                refine ⟨j + 1, A7, c7, A9, c9, qs ++ [⟨r, p.net⟩], by omega, by rw [List.length_append]; simp; omega, by go_num, by rw [List.length_append]; rfl, by rw [List.length_append]; rfl, ?_, ?_, HT, HB8.out.trans happ9.2.1⟩
                · rw [List.length_append, List.map_append]
                  exact ownG_grown (by decide) HS8.out hI8 happ9.2.2.1
                · rw [List.length_append, List.map_append]
                  exact happ9.1
              case measure => simp [intOf]; omega
            · obtain rfl : j = rn := by omega
              have HT : Hid (qs = kxF (ps.take (k + 1))) := by
                show _ = _
                rw [HG.out, take_at HA.out, kxF_snoc, ← HE.out, ← HRN.out, List.take_length]
              have hjz : ¬ (j : Int) < (j : Int) := by omega
              clear hlt3 HG HE HA
              go_wp2
              go_roundw
              case rel => exact ⟨k + 1, A5, c5, A6, c6, qs, by omega, by omega, by go_num, rfl, rfl, HP1.out, HP2.out, HT.out, HPO2.out, HPR2.out, HB6.out⟩
              case measure => simp [intOf]; omega
    · obtain rfl : i = N := by omega
      have e1 : ps.take i = ps := by rw [← HLN.out]; exact List.take_length
      rw [e1] at HE HPO HPR
      have HT : Hid (ans = pairB qK ks) := by
        show _ = _
        rw [HTW.out, HPO.out, HPR.out, HE.out]
        simp
      have hiz : ¬ (i : Int) < (i : Int) := by omega
      have hkn : ks.length ≤ 2000 := by omega
      have HR1 := Lib.hid HO1.out.rd
      have HR2 := Lib.hid HO2.out.rd
      have hq1 := HR1.out.cap
      have hq2 := HR1.out.max
      have hq3 := HR2.out.cap
      have hq4 := HR2.out.max
      clear hlt HE HPO HPR e1 HTW HO1 HO2
      have HB9 := Lib.hid (HB1.out.trans (HB2.out.mono HB1.out.size))
      go_wp2_with fail
      obtain ⟨w9, hw9⟩ : ∃ w9, w9 = wr := ⟨_, rfl⟩
      rw [← hw9] at HR1 HR2 HB9 ⊢
      clear hw9
      generalize hM : ks.length = M at hkn HR1 HR2 hq1 hq3 ⊢
      have HM := Lib.hid hM
      clear hM
      go_loopw [10] (fun v wr => ∃ k : Nat, v = .int .i64 k ∧ k ≤ M ∧ Hid (pairB qK (ks.take k) = false) ∧ Hid (Below w9.heap.size w9 wr)) (fun v _ => M - (intOf v).toNat)
      case atStart => exact ⟨0, rfl, by omega, rfl, Below.refl _ _⟩
      case round =>
        obtain ⟨k, rfl, hk2, HE, HB3⟩ := hrel
        by_cases hlt : k < M
        · obtain ⟨b5, o5, b6, o6, a, rfl, rfl, hbU5, hbU6, HA, d0, d1, d2⟩ := atG HR1.out HR2.out hlt
          have hkz : (k : Int) < (M : Int) := by omega
          have HD0 := Lib.hid d0
          have HD1 := Lib.hid d1
          have HD2 := Lib.hid d2
          clear d0 d1 d2
          go_wp2_with fail
          go_loopw [11] (fun v wr => ∃ j : Nat, v = .int .i64 j ∧ j ≤ k ∧ Hid ((ks.take j).any (qK a) = false) ∧ Hid (Below w9.heap.size w9 wr)) (fun v _ => k - (intOf v).toNat)
          case atStart => exact ⟨0, rfl, by omega, rfl, HB3.out⟩
          case round =>
            obtain ⟨j, rfl, hj2, HF, HB4⟩ := hrel
            by_cases hlt2 : j < k
            · obtain ⟨d, HD, e0, e1, e2⟩ := atGb (HR1.out.below HB4.out) (HR2.out.below HB4.out) (show j < M by omega)
              have d0 := (HB4.out.cell (p := ⟨b5, o5 + k * 2, none⟩) hbU5).trans HD0.out
              have d1 := (HB4.out.cell (p := ⟨b5, o5 + k * 2 + 1, none⟩) hbU5).trans HD1.out
              have d2 := (HB4.out.cell (p := ⟨b6, o6 + k, none⟩) hbU6).trans HD2.out
              have hjz : (j : Int) < (k : Int) := by omega
              have hjn : (j : Int) < (M : Int) := by omega
              have HQ := Lib.hid (qK_is a d)
              have HBD : Hid (qK a d = true → ans = true) := fun hq => by rw [HT.out]; exact pair_hit HA.out HD.out hlt2 hq
              have HNX : Hid (qK a d = false → (ks.take (j + 1)).any (qK a) = false) := fun hq => any_skip HD.out HF.out hq
              clear HF HD
              by_cases g1 : a.r.addr = d.r.addr
              · have HT2 : Hid (ans = true) := HBD.out (by rw [HQ.out, decide_eq_true g1]; rfl)
                have hz : (a.r.addr == d.r.addr) = true := by simpa using g1
                clear g1
                go_wp2_with fail
                go_quiet (fail)
                go_wp2
                go_ret
                exact ⟨ret_bool HT2.out.symm, below_drewN (HB9.out.trans (HB4.out.mono HB9.out.size)) _⟩
              have hz : (a.r.addr == d.r.addr) = false := by simpa using g1
              by_cases g2 : a.net = d.net
              · have hy : ((a.net : Int) == (d.net : Int)) = true := by rw [g2]; exact beq_self_eq_true _
                by_cases g3 : a.r.key = d.r.key
                · have HT2 : Hid (ans = true) := HBD.out (by rw [HQ.out, decide_eq_true g2, decide_eq_true g3]; simp)
                  have hx := beqKey g3
                  clear g1 g2 g3
                  go_wp2_with fail
                  go_quiet (fail)
                  go_wp2
                  go_ret
                  exact ⟨ret_bool HT2.out.symm, below_drewN (HB9.out.trans (HB4.out.mono HB9.out.size)) _⟩
                · have HT2 : Hid ((ks.take (j + 1)).any (qK a) = false) := HNX.out (by rw [HQ.out, decide_eq_false g1, decide_eq_false g3]; simp)
                  have hx := bneKey g3
                  clear g1 g2 g3
                  go_wp2_with fail
                  go_quiet (fail)
                  go_wp2
                  go_roundw
                  case rel => exact ⟨j + 1, by go_num, by omega, HT2.out, below_drewN HB4.out _⟩
                  case measure => simp [intOf]; omega
              · have HT2 : Hid ((ks.take (j + 1)).any (qK a) = false) := HNX.out (by rw [HQ.out, decide_eq_false g1, decide_eq_false g2]; rfl)
                have hy : ((a.net : Int) == (d.net : Int)) = false := by
                  rw [beq_eq_false_iff_ne]
                  omega
                clear g1 g2
                go_wp2_with fail
                go_quiet (fail)
                go_wp2
                go_roundw
                case rel => exact ⟨j + 1, by go_num, by omega, HT2.out, below_drewN HB4.out _⟩
                case measure => simp [intOf]; omega
            · obtain rfl : j = k := by omega
              have HT2 : Hid (pairB qK (ks.take (j + 1)) = false) := pair_next HA.out HE.out HF.out
              have hjz : ¬ (j : Int) < (j : Int) := by omega
              clear hlt2 HE HA HF
              go_wp2
              go_roundw
              case rel => exact ⟨j + 1, by go_num, by omega, HT2.out, HB4.out⟩
              case measure => simp [intOf]; omega
        · obtain rfl : k = M := by omega
          have HT2 : Hid (ans = false) := by
            show _ = _
            rw [HT.out]
            rw [← HM.out, List.take_length] at HE
            exact HE.out
          have hkz : ¬ (k : Int) < (k : Int) := by omega
          clear hlt HE
          go_wp2
          go_ret
          exact ⟨ret_bool HT2.out.symm, HB9.out.trans (HB3.out.mono HB9.out.size)⟩
end Go.Proofs.YtoldppbakapohaaGreatDoor.Vw
end
