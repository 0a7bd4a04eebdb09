/- What the document's own Form comes to. Condition: the configuration reads. -/
import Derived.Test.YtoilljilndmmfaaVwRf1
set_option maxRecDepth 8000
namespace Go.Proofs.Ytoilljilndmmfaa.Vw
open Go.RowKit By Cf Ad Ky
open Dw (ba ba_size ba_data ba_list alloc_more)

theorem celC {w : World} {g : Nat} {t : TypeId} {a b c : Value} (h : Cel w g t #[a, b, c]) : w.cell? ⟨g, 0, none⟩ = some a ∧ w.cell? ⟨g, 1, none⟩ = some b ∧ w.cell? ⟨g, 2, none⟩ = some c := ⟨by rw [h.cell]; rfl, by rw [h.cell]; rfl, by rw [h.cell]; rfl⟩
theorem netF_at {y : Nx} {m : Nat} (hm : y.xs.length = m) : netF y.l = (decide (1 ≤ m ∧ m ≤ 4) && y.xs.all fun x => snF x.s) := by
  unfold netF Nx.l
  rw [sns_len, hm]
  unfold snsOf
  rw [List.all_map]
  rfl
theorem form_at (x : Cx) : formC x.cf = (rightB x.server && decide (1 ≤ x.prob ∧ x.prob ≤ 2147483648) && decide (x.ns.length ≤ 4) && x.ns.all fun y => netF y.l) := by
  unfold formC
  rw [show x.cf.nets = netsOf x.ns from rfl, nets_len]
  unfold netsOf
  rw [List.all_map]
  rfl
set_option maxHeartbeats 8000000 in
theorem refForm_any (x : Cx) (U : Nat) (w : World) (h : x.ok U w) (hU : U ≤ w.heap.size) : Calls Try.prog 31 #[x.v] w (isB (formC x.cf) w) := by
  obtain ⟨w0, hw0, hc0, hb0⟩ := boxedC w x
  have hfm := form_at x
  obtain ⟨srv, prob, A, n, c, ns⟩ := x
  have HX : Hid (RdNx U w A n c ns) := h.rd
  have HL : Hid (ns.length = n) := h.rd.len
  have HUU := Lib.hid hU
  have hcp : n ≤ c := h.rd.cap
  have hmx : c ≤ 9223372036854775807 := h.rd.max
  have HR := Lib.hid (fun W => Aw.refRight_any srv W)
  have HB := Lib.hid hb0
  have HC0 : Hid (Cel w0 w.heap.size 24 #[.int .i64 srv, .int .i64 prob, .slice A n c]) := hc0
  simp only at hfm
  rw [h.len] at hfm
  simp only at hfm
  show Calls _ _ #[.agg #[.int .i64 srv, .int .i64 prob, .slice A n c]] w (isB (formC (Cx.cf ⟨srv, prob, A, n, c, ns⟩)) w)
  have hw0' : w0 = w.alloc (.cells #[.int .i64 srv, .int .i64 prob, .slice A n c] 24) := hw0
  generalize formC (Cx.cf ⟨srv, prob, A, n, c, ns⟩) = ans at hfm ⊢
  have HFM := Lib.hid hfm
  clear h hU hc0 hb0 hw0 hfm
  cases f0 : rightB srv with
  | false =>
    have H : Hid (ans = false) := by show _ = _; rw [HFM.out, f0]; rfl
    rw [f0] at HR
    go_enter Try.func31, Try.ntmps31
    go_upto_region 1 with fail
    rw [← hw0']
    clear hw0'
    obtain ⟨c0, c1, c2⟩ := celC HC0.out
    go_wp2_with fail
    refine (HR.out w0).mono ?_
    rintro e w1 ⟨rfl, rfl⟩
    go_wp2
    go_ret
    exact ⟨ret_bool H.out.symm, HB.out⟩
  | true =>
  rw [f0] at HR
  by_cases g1 : prob < 1
  · have H : Hid (ans = false) := by show _ = _; rw [HFM.out, decide_eq_false (show ¬ (1 ≤ prob ∧ prob ≤ 2147483648) by omega)]; simp
    go_enter Try.func31, Try.ntmps31
    go_upto_region 1 with fail
    rw [← hw0']
    clear hw0'
    obtain ⟨c0, c1, c2⟩ := celC HC0.out
    go_wp2_with fail
    refine (HR.out w0).mono ?_
    rintro e w1 ⟨rfl, rfl⟩
    go_wp2
    go_ret
    exact ⟨ret_bool H.out.symm, HB.out⟩
  by_cases g2 : prob > 2147483648
  · have H : Hid (ans = false) := by show _ = _; rw [HFM.out, decide_eq_false (show ¬ (1 ≤ prob ∧ prob ≤ 2147483648) by omega)]; simp
    go_enter Try.func31, Try.ntmps31
    go_upto_region 1 with fail
    rw [← hw0']
    clear hw0'
    obtain ⟨c0, c1, c2⟩ := celC HC0.out
    go_wp2_with fail
    refine (HR.out w0).mono ?_
    rintro e w1 ⟨rfl, rfl⟩
    go_wp2
    go_ret
    exact ⟨ret_bool H.out.symm, HB.out⟩
  by_cases g3 : (n : Int) > 4
  · have H : Hid (ans = false) := by show _ = _; rw [HFM.out, decide_eq_false (show ¬ n ≤ 4 by omega)]; simp
    go_enter Try.func31, Try.ntmps31
    go_upto_region 1 with fail
    rw [← hw0']
    clear hw0'
    obtain ⟨c0, c1, c2⟩ := celC HC0.out
    go_wp2_with fail
    refine (HR.out w0).mono ?_
    rintro e w1 ⟨rfl, rfl⟩
    go_wp2
    go_ret
    exact ⟨ret_bool H.out.symm, HB.out⟩
  have H : Hid (ans = ns.all fun y => netF y.l) := by
    show _ = _
    rw [HFM.out, f0, decide_eq_true (show 1 ≤ prob ∧ prob ≤ 2147483648 by omega), decide_eq_true (show n ≤ 4 by omega)]
    rfl
  clear f0 HFM
  go_enter Try.func31, Try.ntmps31
  go_upto_region 1 with fail
  rw [← hw0']
  clear hw0'
  obtain ⟨c0, c1, c2⟩ := celC HC0.out
  go_wp2_with fail
  refine (HR.out w0).mono ?_
  rintro e w1 ⟨rfl, rfl⟩
  clear c0 c1 c2
  obtain ⟨c0, c1, c2⟩ := celC HC0.out
  go_wp2_with fail
  clear c0 c1 c2
  go_loopw [3] (fun v wr => ∃ i : Nat, v = .int .i64 i ∧ i ≤ n ∧ Hid (((ns.take i).all fun y => netF y.l) = true) ∧ Hid (Below w0.heap.size w0 wr)) (fun v _ => n - (intOf v).toNat)
  case atStart => exact ⟨0, rfl, by omega, rfl, Below.refl _ _⟩
  case round =>
    obtain ⟨i, rfl, hi2, HE, HB2⟩ := hrel
    have HBW := Lib.hid (HB.out.trans (HB2.out.mono HB.out.size))
    obtain ⟨c0, c1, c2⟩ := celC (HC0.out.below HB2.out HC0.out.lt)
    by_cases hlt : i < n
    · obtain ⟨b, o, y, m, rfl, hbU, HA, hy, n0⟩ := atN HX.out hlt
      have hiz : (i : Int) < (n : Int) := by omega
      have HY0 := Lib.hid hy
      have hyc := hy.cap
      have hym := hy.max
      have HNF := Lib.hid (netF_at hy.len)
      have HN0 : Hid (∀ W, Below w.heap.size w W → W.cell? ⟨b, o + i, none⟩ = some (.slice y.A m y.c)) := fun W hW => (hW.cell (p := ⟨b, o + i, none⟩) (Nat.lt_of_lt_of_le hbU HUU.out)).trans n0
      clear hy n0
      obtain ⟨yA, yc, xs⟩ := y
      have HY : Hid (RdSx U w yA m yc xs) := HY0
      have HN : Hid (∀ W, Below w.heap.size w W → W.cell? ⟨b, o + i, none⟩ = some (.slice yA m yc)) := HN0
      replace hyc : m ≤ yc := hyc
      replace hym : yc ≤ 9223372036854775807 := hym
      clear HY0 HN0
      have n0 := HN.out wr HBW.out
      by_cases hm0 : m = 0
      · have HT : Hid (ans = false) := by show _ = _; rw [H.out, all_bad HA.out (by rw [HNF.out, decide_eq_false (by omega)]; rfl)]
        subst hm0
        clear HE HA
        go_wp2
        go_ret
        exact ⟨ret_bool HT.out.symm, HBW.out⟩
      have hmz : ((m : Int) == 0) = false := by simpa using hm0
      by_cases hm4 : (m : Int) > 4
      · have HT : Hid (ans = false) := by show _ = _; rw [H.out, all_bad HA.out (by rw [HNF.out, decide_eq_false (by omega)]; rfl)]
        clear HE HA hm0
        go_wp2
        go_ret
        exact ⟨ret_bool HT.out.symm, HBW.out⟩
      have HNG : Hid (netF (Nx.l ⟨yA, yc, xs⟩) = xs.all fun x => snF x.s) := by show _ = _; rw [HNF.out, decide_eq_true (by omega)]; rfl
      clear hm0 HNF
      go_wp2_with fail
      clear c0 c1 c2 n0
      go_loopw [4] (fun v wr => ∃ k : Nat, v = .int .i64 k ∧ k ≤ m ∧ Hid (((xs.take k).all fun x => snF x.s) = true) ∧ Hid (Below w0.heap.size w0 wr)) (fun v _ => m - (intOf v).toNat)
      case atStart => exact ⟨0, rfl, by omega, rfl, HB2.out⟩
      case round =>
        obtain ⟨k, rfl, hk2, HE2, HB3⟩ := hrel
        have HBV := Lib.hid (HB.out.trans (HB3.out.mono HB.out.size))
        obtain ⟨c0, c1, c2⟩ := celC (HC0.out.below HB3.out HC0.out.lt)
        have n0 := HN.out wr HBV.out
        by_cases hlt2 : k < m
        · obtain ⟨b2, o2, s, pn, rn, rfl, hbU2, HD, hok, _, _, hsv⟩ := atS HY.out hlt2
          have hkz : (k : Int) < (m : Int) := by omega
          obtain ⟨s0, s1, s2, s3, s4, s5, s6⟩ := hsv.below (HBV.out.mono HUU.out) hbU2
          have HSN := Lib.hid (refSubnet_any s pn rn U wr (hok.below (HBV.out.mono HUU.out)) (Nat.le_trans HUU.out HBV.out.size))
          clear hok hsv
          cases hv : snF s.s with
          | false =>
            have HT : Hid (ans = false) := by show _ = _; rw [H.out, all_bad HA.out (by rw [HNG.out, all_bad HD.out hv])]
            rw [hv] at HSN
            clear HE HA HE2 HD hv
            go_wp2_with fail
            refine HSN.out.mono ?_
            rintro e w4 ⟨rfl, hb4⟩
            go_wp2
            go_ret
            exact ⟨ret_bool HT.out.symm, HBV.out.trans (hb4.mono HBV.out.size)⟩
          | true =>
            have HT : Hid (((xs.take (k + 1)).all fun x => snF x.s) = true) := all_next HD.out HE2.out hv
            rw [hv] at HSN
            clear HE2 HD hv
            go_wp2_with fail
            refine HSN.out.mono ?_
            rintro e w4 ⟨rfl, hb4⟩
            go_wp2
            go_roundw
            case rel => exact ⟨k + 1, by go_num, by omega, HT.out, HB3.out.trans (hb4.mono HB3.out.size)⟩
            case measure => simp [intOf]; omega
        · obtain rfl : k = m := by omega
          have HT : Hid (((ns.take (i + 1)).all fun y => netF y.l) = true) := all_next HA.out HE.out (by
            rw [HNG.out]
            rw [← HY.out.len, List.take_length] at HE2
            exact HE2.out)
          have hkz : ¬ (k : Int) < (k : Int) := by omega
          clear hlt2 HE2 HE HA
          go_wp2
          go_roundw
          case rel => exact ⟨i + 1, by go_num, by omega, HT.out, HB3.out⟩
          case measure => simp [intOf]; omega
    · obtain rfl : i = n := by omega
      have HT : Hid (ans = true) := by
        show _ = _
        rw [H.out]
        rw [← HL.out, List.take_length] at HE
        exact HE.out
      have hiz : ¬ (i : Int) < (i : Int) := by omega
      clear hlt HE
      go_wp2
      go_ret
      exact ⟨ret_bool HT.out.symm, HBW.out⟩
end Go.Proofs.Ytoilljilndmmfaa.Vw
