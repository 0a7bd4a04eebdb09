/- What the document's own Twice comes to. Conditions: the configuration reads; at most ten networks of ten subnets each, at most twenty reservations in each of them. -/
import Derived.Test.YtoilljilndmmfaaVwRf4
set_option maxRecDepth 8000
namespace Go.Proofs.Ytoilljilndmmfaa.Vw
open Go.RowKit By Cf Ad Ky
open Dw (ba ba_size ba_data ba_list alloc_more)

theorem get_map {α β : Type} {f : α → β} {l : List α} {k : Nat} {b : β} (h : (l.map f)[k]? = some b) : ∃ a, l[k]? = some a ∧ f a = b := by
  rw [List.getElem?_map, Option.map_eq_some_iff] at h
  exact h
/-- One subnet, and its network, out of two rows that lie side by side. -/
theorem atF {U : Nat} {w : World} {A1 A2 : Option Addr} {n c1 c2 : Nat} {ps : List Px} (h1 : RdSx U w A1 n c1 (ps.map Px.x)) (h2 : RdI U w A2 n c2 (ps.map Px.net)) {k : Nat} (hk : k < n) :
    ∃ b o b' o' p pn rn, A1 = some ⟨b, o, none⟩ ∧ A2 = some ⟨b', o', none⟩ ∧ b < U ∧ b' < U ∧ Hid (ps[k]? = some p) ∧ p.x.ok U w pn rn ∧ Hid (p.x.pools.length = pn) ∧ Hid (p.x.res.length = rn) ∧ Seven w b (o + k * 7) p.x pn rn ∧ w.cell? ⟨b', o' + k, none⟩ = some (.int .i64 (p.net : Int)) := by
  obtain ⟨b, o, x, pn, rn, e1, hb, hx, hok, hp, hr, hs⟩ := atS h1 hk
  obtain ⟨b', o', i, e2, hb', hi, hc⟩ := atI h2 hk
  obtain ⟨p, hp1, rfl⟩ := get_map hx.out
  obtain ⟨p', hp2, rfl⟩ := get_map hi.out
  obtain rfl : p = p' := by rw [hp1] at hp2; injection hp2
  exact ⟨b, o, b', o', p, pn, rn, e1, e2, hb, hb', hp1, hok, hp, hr, hs, hc⟩
theorem atFb {U : Nat} {w : World} {b o b' o' n c1 c2 : Nat} {ps : List Px} (h1 : RdSx U w (some ⟨b, o, none⟩) n c1 (ps.map Px.x)) (h2 : RdI U w (some ⟨b', o', none⟩) n c2 (ps.map Px.net)) {k : Nat} (hk : k < n) :
    ∃ p pn rn, Hid (ps[k]? = some p) ∧ Seven w b (o + k * 7) p.x pn rn ∧ w.cell? ⟨b', o' + k, none⟩ = some (.int .i64 (p.net : Int)) := by
  obtain ⟨_, _, _, _, p, pn, rn, e1, e2, _, _, hp, _, _, _, hs, hc⟩ := atF h1 h2 hk
  injection e1 with e1
  injection e1 with f1 f2
  injection e2 with e2
  injection e2 with g1 g2
  subst f1 f2 g1 g2
  exact ⟨p, pn, rn, hp, hs, hc⟩
/-- One reservation, and its network, out of two rows that lie side by side. -/
theorem atG {U : Nat} {w : World} {A1 A2 : Option Addr} {n c1 c2 : Nat} {ks : List Kx} (h1 : RdRs U w A1 n c1 (ks.map Kx.r)) (h2 : RdI U w A2 n c2 (ks.map Kx.net)) {k : Nat} (hk : k < n) :
    ∃ b o b' o' a, A1 = some ⟨b, o, none⟩ ∧ A2 = some ⟨b', o', none⟩ ∧ b < U ∧ b' < U ∧ Hid (ks[k]? = some a) ∧ w.cell? ⟨b, o + k * 2, none⟩ = some (.string (ba a.r.key)) ∧ w.cell? ⟨b, o + k * 2 + 1, none⟩ = some (.int .i64 a.r.addr) ∧ w.cell? ⟨b', o' + k, none⟩ = some (.int .i64 (a.net : Int)) := by
  obtain ⟨b, o, r, e1, hb, hr, c0, c1⟩ := atR h1 hk
  obtain ⟨b', o', i, e2, hb', hi, hc⟩ := atI h2 hk
  obtain ⟨p, hp1, rfl⟩ := get_map hr.out
  obtain ⟨p', hp2, rfl⟩ := get_map hi.out
  obtain rfl : p = p' := by rw [hp1] at hp2; injection hp2
  exact ⟨b, o, b', o', p, e1, e2, hb, hb', hp1, c0, c1, hc⟩
theorem atGb {U : Nat} {w : World} {b o b' o' n c1 c2 : Nat} {ks : List Kx} (h1 : RdRs U w (some ⟨b, o, none⟩) n c1 (ks.map Kx.r)) (h2 : RdI U w (some ⟨b', o', none⟩) n c2 (ks.map Kx.net)) {k : Nat} (hk : k < n) :
    ∃ a, Hid (ks[k]? = some a) ∧ w.cell? ⟨b, o + k * 2, none⟩ = some (.string (ba a.r.key)) ∧ w.cell? ⟨b, o + k * 2 + 1, none⟩ = some (.int .i64 a.r.addr) ∧ w.cell? ⟨b', o' + k, none⟩ = some (.int .i64 (a.net : Int)) := by
  obtain ⟨_, _, _, _, a, e1, e2, _, _, hp, c0, c1, hc⟩ := atG h1 h2 hk
  injection e1 with e1
  injection e1 with f1 f2
  injection e2 with e2
  injection e2 with g1 g2
  subst f1 f2 g1 g2
  exact ⟨a, hp, c0, c1, hc⟩
theorem litR (w : World) (r : Rs) : RdRs (w.heap.size + 1) (w.alloc (.cells #[.string (ba r.key), .int .i64 r.addr] 47)) (some ⟨w.heap.size, 0, none⟩) 1 1 [r] := by
  have := (OwnG.lit (Y := layR) 47 w [r] (by simp)).rd
  have e : (w.alloc (.cells (layR.cells [r]).toArray 47)).heap.size = w.heap.size + 1 := by simp
  rw [e, layR.cells_one] at this
  exact this
def qX (a b : Px) : Bool := snClash a.ns b.ns
def qK (a b : Kx) : Bool := rsClash a.nr b.nr
theorem twice_px (x : Cx) : twiceC x.cf = (pairB qX (pxF 0 x.ns) || pairB qK (kxF (pxF 0 x.ns)) || (pxF 0 x.ns).any fun p => pooledB p.x.s) := by
  unfold twiceC
  rw [show x.cf.nets = netsOf x.ns from rfl, flat_px, ← twice_code, List.any_map, pair_map (p := qX) (q := snClash) Px.ns (fun _ _ => rfl), ← kxF_nr, pair_map (p := qK) (q := rsClash) Kx.nr (fun _ _ => rfl)]
  rfl
theorem qX_is (p q : Px) : qX p q = (meetB p.x.base p.x.bits q.x.base q.x.bits || (decide (p.net ≠ q.net) && decide (0 < p.x.iface) && decide (p.x.iface = q.x.iface))) := rfl
theorem qK_is (a b : Kx) : qK a b = (decide (a.r.addr = b.r.addr) || (decide (a.net = b.net) && decide (a.r.key = b.r.key))) := rfl
set_option maxHeartbeats 40000000 in
theorem refTwice_any (x : Cx) (U : Nat) (w : World) (h : x.ok U w) (hU : U ≤ w.heap.size) (hn : x.n ≤ 10) (hs : ∀ y ∈ x.ns, y.xs.length ≤ 10) (hr : ∀ p ∈ pxF 0 x.ns, p.x.res.length ≤ 20) : Calls Try.prog 33 #[x.v] w (isB (twiceC x.cf) w) := by
  obtain ⟨w0, hw0, hc0, hb0⟩ := boxedC w x
  have hz : w0.heap.size = w.heap.size + 1 := by rw [hw0]; simp
  have HFL := Lib.hid (refFlat_any x U w0 (h.below (hb0.mono hU)) (by omega) hn hs)
  have HTW := Lib.hid (twice_px x)
  have HRL := Lib.hid hr
  have HNP : Hid ((pxF 0 x.ns).length ≤ 100) := Lib.hid (by have := pxF_len x.ns 0 hs; have := h.len; omega)
  have HB := Lib.hid hb0
  generalize twiceC x.cf = ans at HTW ⊢
  generalize pxF 0 x.ns = ps at HFL HTW HRL HNP
  clear h hU hn hs hr hc0 hb0 hz
  go_enter Try.func33, Try.ntmps33
  go_wp2_with fail
  rw [← hw0]
  clear hw0
  refine HFL.out.mono ?_
  rintro e w1 ⟨A1, c1, A2, c2, N, rfl, hr1, hr2, hb1⟩
  have HS := Lib.hid hr1
  have HI := Lib.hid hr2
  have hl1 := hr1.len
  rw [List.length_map] at hl1
  have HLN := Lib.hid hl1
  have hN : N ≤ 100 := by have := HNP.out; omega
  have hc1 := hr1.cap
  have hm1 := hr1.max
  have hc2 := hr2.cap
  have hm2 := hr2.max
  have HB1 := Lib.hid (HB.out.trans (hb1.mono HB.out.size))
  clear hr1 hr2 hl1 hb1 HFL
  go_wp2_with fail
  go_loopw [5, 6, 7] (fun u v i wr => ∃ (k : Nat) (A3 : Option Addr) (c3 : Nat) (A4 : Option Addr) (c4 : Nat) (ks : List Kx), k ≤ N ∧ ks.length ≤ 20 * k ∧ i = .int .i64 k ∧ u = .slice A3 ks.length c3 ∧ v = .slice A4 ks.length c4 ∧ Hid (OwnG layR 47 w1.heap.size wr A3 ks.length c3 (ks.map Kx.r)) ∧ Hid (OwnG layI 3 w1.heap.size wr A4 ks.length c4 (ks.map Kx.net)) ∧ Hid (ks = kxF (ps.take k)) ∧ Hid (((ps.take k).any fun p => pooledB p.x.s) = false) ∧ Hid (pairB qX (ps.take k) = false) ∧ Hid (Below w1.heap.size w1 wr)) (fun _ _ i _ => N - (intOf i).toNat)
  case atStart => exact ⟨0, none, 0, none, 0, [], by omega, Nat.le_refl _, rfl, rfl, rfl, OwnG.nil _ _ _, OwnG.nil _ _ _, rfl, rfl, rfl, Below.refl _ _⟩
  case round =>
    obtain ⟨i, A3, c3, A4, c4, ks, hi2, hkl, rfl, rfl, rfl, HO1, HO2, HE, HPO, HPR, HB2⟩ := hrel
    by_cases hlt : i < N
    · obtain ⟨b, o, b', o', p, pn, rn, rfl, rfl, hbU, hbU', HA, hok, HPN, HRN, hsv, hnc⟩ := atF HS.out HI.out hlt
      have hiz : (i : Int) < (N : Int) := by omega
      have HSV := Lib.hid hsv
      have HNC := Lib.hid hnc
      have HOK := Lib.hid hok
      have HPL := Lib.hid (refPooled_any p.x pn rn w1.heap.size wr (hok.below HB2.out) HB2.out.size)
      have hr20 : rn ≤ 20 := by have := HRL.out p (List.mem_of_getElem? HA.out); have := HRN.out; omega
      have hrc := hok.r.cap
      have hrm := hok.r.max
      obtain ⟨s0, s1, s2, s3, s4, s5, s6⟩ := hsv.below HB2.out hbU
      clear hok hsv hnc
      cases hv : pooledB p.x.s with
      | true =>
        have HT : Hid (ans = true) := by
          show _ = _
          rw [HTW.out, List.any_eq_true.2 ⟨p, List.mem_of_getElem? HA.out, hv⟩, Bool.or_true]
        rw [hv] at HPL
        clear hv HE HPO HPR HA
        go_wp2_with fail
        refine HPL.out.mono ?_
        rintro e w4 ⟨rfl, hb4⟩
        go_wp2
        go_ret
        exact ⟨ret_bool HT.out.symm, HB1.out.trans ((HB2.out.trans (hb4.mono HB2.out.size)).mono HB1.out.size)⟩
      | false =>
      have HPO2 : Hid (((ps.take (i + 1)).any fun p => pooledB p.x.s) = false) := any_skip HA.out HPO.out hv
      rw [hv] at HPL
      clear hv HPO
      go_wp2_with fail
      refine HPL.out.mono ?_
      rintro e w4 ⟨rfl, hb4⟩
      have HO3 := Lib.hid (HO1.out.below hb4)
      have HO4 := Lib.hid (HO2.out.below hb4)
      have HB4 := Lib.hid (HB2.out.trans (hb4.mono HB2.out.size))
      clear hb4 HPL HO1 HO2 s0 s1 s2 s3 s4 s5 s6
      go_wp2_with fail
      go_loopw [8] (fun v wr => ∃ k : Nat, v = .int .i64 k ∧ k ≤ i ∧ Hid ((ps.take k).any (qX p) = false) ∧ Hid (Below w4.heap.size w4 wr)) (fun v _ => i - (intOf v).toNat)
      case atStart => exact ⟨0, rfl, by omega, rfl, Below.refl _ _⟩
      case round =>
        obtain ⟨k, rfl, hk2, HF, HB5⟩ := hrel
        have HBV := Lib.hid (HB4.out.trans (HB5.out.mono HB4.out.size))
        by_cases hlt2 : k < i
        · obtain ⟨q, qn, sn, HD, hqs, hqc⟩ := atFb HS.out HI.out (show k < N by omega)
          have hkz : (k : Int) < (i : Int) := by omega
          have hkn : (k : Int) < (N : Int) := by omega
          have K : Hid (∀ W, Below w4.heap.size w4 W → Seven W b (o + i * 7) p.x pn rn ∧ Seven W b (o + k * 7) q.x qn sn ∧ W.cell? ⟨b', o' + i, none⟩ = some (.int .i64 (p.net : Int)) ∧ W.cell? ⟨b', o' + k, none⟩ = some (.int .i64 (q.net : Int))) := fun W hW => by
            have hb := HB4.out.trans (hW.mono HB4.out.size)
            exact ⟨HSV.out.below hb hbU, hqs.below hb hbU, (hb.cell (p := ⟨b', o' + i, none⟩) hbU').trans HNC.out, (hb.cell (p := ⟨b', o' + k, none⟩) hbU').trans hqc⟩
          clear hqs hqc
          obtain ⟨⟨s0, s1, s2, s3, s4, s5, s6⟩, ⟨t0, t1, t2, t3, t4, t5, t6⟩, n0, n1⟩ := K.out wr HB5.out
          cases hme : meetB p.x.base p.x.bits q.x.base q.x.bits with
          | true =>
            have HT : Hid (ans = true) := by
              show _ = _
              rw [HTW.out, pair_hit HA.out HD.out hlt2 (by rw [qX_is, hme]; rfl)]
              simp
            have HM : Hid (∀ W, Calls Try.prog 73 #[.int .i64 p.x.base, .int .i64 p.x.bits, .int .i64 q.x.base, .int .i64 q.x.bits] W fun e w' => e = .returned (.bool (meetB p.x.base p.x.bits q.x.base q.x.bits)) ∧ w' = W) := fun W => (Aw.refMeet_any p.x.base p.x.bits q.x.base q.x.bits W).mono fun _ _ h => ⟨h.1, h.2.symm⟩
            rw [hme] at HM
            clear hme HE HPR HA HF HD
            go_wp2_with fail
            go_quiet ((go_at_call 73; refine Calls.quiet_of_same (HM.out _)))
            go_wp2
            go_ret
            exact ⟨ret_bool HT.out.symm, below_drewN (HB1.out.trans (HBV.out.mono HB1.out.size)) _⟩
          | false =>
          have HM : Hid (∀ W, Calls Try.prog 73 #[.int .i64 p.x.base, .int .i64 p.x.bits, .int .i64 q.x.base, .int .i64 q.x.bits] W fun e w' => e = .returned (.bool (meetB p.x.base p.x.bits q.x.base q.x.bits)) ∧ w' = W) := fun W => (Aw.refMeet_any p.x.base p.x.bits q.x.base q.x.bits W).mono fun _ _ h => ⟨h.1, h.2.symm⟩
          rw [hme] at HM
          have HQ : Hid (qX p q = (decide (p.net ≠ q.net) && decide (0 < p.x.iface) && decide (p.x.iface = q.x.iface))) := by show _ = _; rw [qX_is, hme]; rfl
          clear hme
          have HBD : Hid (qX p q = true → ans = true) := fun hq => by
            rw [HTW.out, pair_hit HA.out HD.out hlt2 hq]
            simp
          have HNX : Hid (qX p q = false → (ps.take (k + 1)).any (qX p) = false) := fun hq => any_skip HD.out HF.out hq
          clear HF HD
          go_wp2_with fail
          go_quiet ((go_at_call 73; refine Calls.quiet_of_same (HM.out _)))
          obtain ⟨wq, hwq⟩ : ∃ wq, wq = wr.drewN nq := ⟨_, rfl⟩
          have HBQ : Hid (Below w4.heap.size w4 wq) := by rw [hwq]; exact below_drewN HB5.out nq
          rw [← hwq]
          clear hwq s0 s1 s2 s3 s4 s5 s6 t0 t1 t2 t3 t4 t5 t6 n0 n1
          obtain ⟨⟨s0, s1, s2, s3, s4, s5, s6⟩, ⟨t0, t1, t2, t3, t4, t5, t6⟩, n0, n1⟩ := K.out wq HBQ.out
          by_cases g1 : p.net = q.net
          · have HT : Hid ((ps.take (k + 1)).any (qX p) = false) := HNX.out (by rw [HQ.out, decide_eq_false (fun z => z g1)]; rfl)
            have hz : ((p.net : Int) == (q.net : Int)) = true := by rw [g1]; exact beq_self_eq_true _
            have hz2 : ((p.net : Int) != (q.net : Int)) = false := by rw [bne, hz]; rfl
            clear g1
            go_wp2_with fail
            go_quiet (fail)
            go_wp2
            go_roundw
            case rel => exact ⟨k + 1, by go_num, by omega, HT.out, below_drewN HBQ.out _⟩
            case measure => simp [intOf]; omega
          have hz : ((p.net : Int) == (q.net : Int)) = false := by
            rw [beq_eq_false_iff_ne]
            omega
          have hz2 : ((p.net : Int) != (q.net : Int)) = true := by rw [bne, hz]; rfl
          by_cases g2 : p.x.iface > 0
          · by_cases g3 : p.x.iface = q.x.iface
            · have HT : Hid (ans = true) := HBD.out (by rw [HQ.out, decide_eq_true g1, decide_eq_true g2, decide_eq_true g3]; rfl)
              have hy : (p.x.iface == q.x.iface) = true := by simpa using g3
              have hd : decide (p.x.iface > 0) = true := decide_eq_true g2
              clear g1 g3 HE HPR HA
              go_wp2_with fail
              go_quiet (fail)
              go_wp2
              go_ret
              exact ⟨ret_bool HT.out.symm, below_drewN (HB1.out.trans ((HB4.out.trans (HBQ.out.mono HB4.out.size)).mono HB1.out.size)) _⟩
            · have HT : Hid ((ps.take (k + 1)).any (qX p) = false) := HNX.out (by rw [HQ.out, decide_eq_false g3, Bool.and_false])
              have hy : (p.x.iface == q.x.iface) = false := by simpa using g3
              have hd : decide (p.x.iface > 0) = true := decide_eq_true g2
              clear g1 g3
              go_wp2_with fail
              go_quiet (fail)
              go_wp2
              go_roundw
              case rel => exact ⟨k + 1, by go_num, by omega, HT.out, below_drewN HBQ.out _⟩
              case measure => simp [intOf]; omega
          · have HT : Hid ((ps.take (k + 1)).any (qX p) = false) := HNX.out (by rw [HQ.out, decide_eq_false (show ¬ 0 < p.x.iface from g2), Bool.and_false, Bool.false_and])
            have hd : decide (p.x.iface > 0) = false := decide_eq_false g2
            have hd2 : decide (0 < p.x.iface) = false := decide_eq_false g2
            clear g1
            go_wp2_with fail
            go_quiet (fail)
            go_wp2
            go_roundw
            case rel => exact ⟨k + 1, by go_num, by omega, HT.out, below_drewN HBQ.out _⟩
            case measure => simp [intOf]; omega
        · obtain rfl : k = i := by omega
          have HPR2 : Hid (pairB qX (ps.take (k + 1)) = false) := pair_next HA.out HPR.out HF.out
          have hkz : ¬ (k : Int) < (k : Int) := by omega
          have HO5 := Lib.hid (HO3.out.below HB5.out)
          have HO6 := Lib.hid (HO4.out.below HB5.out)
          clear hlt2 HF HPR HO3 HO4
          go_wp2_with fail
          go_loopw [5, 6, 9] (fun u v i wr => ∃ (j : Nat) (A5 : Option Addr) (c5 : Nat) (A6 : Option Addr) (c6 : Nat) (qs : List Kx), j ≤ rn ∧ qs.length ≤ 20 * k + j ∧ i = .int .i64 j ∧ u = .slice A5 qs.length c5 ∧ v = .slice A6 qs.length c6 ∧ Hid (OwnG layR 47 w1.heap.size wr A5 qs.length c5 (qs.map Kx.r)) ∧ Hid (OwnG layI 3 w1.heap.size wr A6 qs.length c6 (qs.map Kx.net)) ∧ Hid (qs = ks ++ kxP1 p (p.x.res.take j)) ∧ Hid (Below w1.heap.size w1 wr)) (fun _ _ i _ => rn - (intOf i).toNat)
          case atStart => exact ⟨0, A3, c3, A4, c4, ks, by omega, by omega, rfl, rfl, rfl, HO5.out, HO6.out, by simp [kxP1, Hid], HBV.out⟩
          case round =>
            obtain ⟨j, A5, c5, A6, c6, qs, hj, hjl, rfl, rfl, rfl, HP1, HP2, HG, HB6⟩ := hrel
            obtain ⟨s0, s1, s2, s3, s4, s5, s6⟩ := HSV.out.below HB6.out hbU
            have n0 : wr.cell? ⟨b', o' + k, none⟩ = some (.int .i64 (p.net : Int)) := (HB6.out.cell (p := ⟨b', o' + k, none⟩) hbU').trans HNC.out
            by_cases hlt3 : j < rn
            · obtain ⟨b5, o5, r, hrA, hbU5, HD, d0, d1⟩ := atR (HOK.out.r.below HB6.out) hlt3
              have hjz : (j : Int) < (rn : Int) := by omega
              rw [hrA] at s3
              have hba : Below wr.heap.size wr (wr.alloc (.cells #[.string (ba r.key), .int .i64 r.addr] 47)) := alloc_more _ _
              have hown := HP1.out.below hba
              have hown2 := HP2.out.below hba
              have hlit := litR wr r
              have hsz := HB6.out.size
              have HBA := Lib.hid (HB6.out.trans (hba.mono hsz))
              have HT : Hid (qs ++ [⟨r, p.net⟩] = ks ++ kxP1 p (p.x.res.take (j + 1))) := by
                show _ = _
                rw [HG.out, take_at HD.out, kxP_snoc, List.append_assoc]
              clear hrA HD hba
              go_upto_region 20 with (at_builtin; refine wpList_appG rsP (by decide) (by decide) (by kernel_rfl) ?_ (.tmp 94) (.tmp 103) ?_ ?_ hown ?_ hlit (by omega) (by simp; omega) ?_; rfl; rfl; rfl; rfl; intro A7 c7 w7 happ)
              have HB7 := Lib.hid (HBA.out.trans happ.2.1)
              have hsz7 := HB7.out.size
              have hI7 := ownG_grown (by decide) hown2 hown happ.2.2.1
              have hba7 : Below w7.heap.size w7 (w7.alloc (.cells #[.int .i64 (p.net : Int)] 3)) := alloc_more _ _
              have HS8 := Lib.hid (happ.1.below hba7)
              have hI8 := hI7.below hba7
              have hlit2 := litI w7 p.net
              have HB8 := Lib.hid (HB7.out.trans (hba7.mono hsz7))
              have n7 : w7.cell? ⟨b', o' + k, none⟩ = some (.int .i64 (p.net : Int)) := (HB7.out.cell (p := ⟨b', o' + k, none⟩) hbU').trans HNC.out
              clear happ hba7 hI7 s0 s1 s2 s3 s4 s5 s6 n0 d0 d1
              go_wp2_with (at_builtin; refine wpList_appG intP (by decide) (by decide) (by kernel_rfl) ?_ (.tmp 105) (.tmp 110) ?_ ?_ hI8 ?_ hlit2 (by omega) (by simp; omega) ?_; rfl; rfl; rfl; rfl; intro A9 c9 w9 happ9)
              go_roundw
              case rel =>
                refine ⟨j + 1, A7, c7, A9, c9, qs ++ [⟨r, p.net⟩], by omega, by rw [List.length_append]; simp; omega, by go_num, by rw [List.length_append]; rfl, by rw [List.length_append]; rfl, ?_, ?_, HT, HB8.out.trans happ9.2.1⟩
                · rw [List.length_append, List.map_append]
                  exact ownG_grown (by decide) HS8.out hI8 happ9.2.2.1
                · rw [List.length_append, List.map_append]
                  exact happ9.1
              case measure => simp [intOf]; omega
            · obtain rfl : j = rn := by omega
              have HT : Hid (qs = kxF (ps.take (k + 1))) := by
                show _ = _
                rw [HG.out, take_at HA.out, kxF_snoc, ← HE.out, ← HRN.out, List.take_length]
              have hjz : ¬ (j : Int) < (j : Int) := by omega
              clear hlt3 HG HE HA
              go_wp2
              go_roundw
              case rel => exact ⟨k + 1, A5, c5, A6, c6, qs, by omega, by omega, by go_num, rfl, rfl, HP1.out, HP2.out, HT.out, HPO2.out, HPR2.out, HB6.out⟩
              case measure => simp [intOf]; omega
    · obtain rfl : i = N := by omega
      have e1 : ps.take i = ps := by rw [← HLN.out]; exact List.take_length
      rw [e1] at HE HPO HPR
      have HT : Hid (ans = pairB qK ks) := by
        show _ = _
        rw [HTW.out, HPO.out, HPR.out, HE.out]
        simp
      have hiz : ¬ (i : Int) < (i : Int) := by omega
      have hkn : ks.length ≤ 2000 := by omega
      have HR1 := Lib.hid HO1.out.rd
      have HR2 := Lib.hid HO2.out.rd
      have hq1 := HR1.out.cap
      have hq2 := HR1.out.max
      have hq3 := HR2.out.cap
      have hq4 := HR2.out.max
      clear hlt HE HPO HPR e1 HTW HO1 HO2
      have HB9 := Lib.hid (HB1.out.trans (HB2.out.mono HB1.out.size))
      go_wp2_with fail
      obtain ⟨w9, hw9⟩ : ∃ w9, w9 = wr := ⟨_, rfl⟩
      rw [← hw9] at HR1 HR2 HB9 ⊢
      clear hw9
      generalize hM : ks.length = M at hkn HR1 HR2 hq1 hq3 ⊢
      have HM := Lib.hid hM
      clear hM
      go_loopw [10] (fun v wr => ∃ k : Nat, v = .int .i64 k ∧ k ≤ M ∧ Hid (pairB qK (ks.take k) = false) ∧ Hid (Below w9.heap.size w9 wr)) (fun v _ => M - (intOf v).toNat)
      case atStart => exact ⟨0, rfl, by omega, rfl, Below.refl _ _⟩
      case round =>
        obtain ⟨k, rfl, hk2, HE, HB3⟩ := hrel
        by_cases hlt : k < M
        · obtain ⟨b5, o5, b6, o6, a, rfl, rfl, hbU5, hbU6, HA, d0, d1, d2⟩ := atG HR1.out HR2.out hlt
          have hkz : (k : Int) < (M : Int) := by omega
          have HD0 := Lib.hid d0
          have HD1 := Lib.hid d1
          have HD2 := Lib.hid d2
          clear d0 d1 d2
          go_wp2_with fail
          go_loopw [11] (fun v wr => ∃ j : Nat, v = .int .i64 j ∧ j ≤ k ∧ Hid ((ks.take j).any (qK a) = false) ∧ Hid (Below w9.heap.size w9 wr)) (fun v _ => k - (intOf v).toNat)
          case atStart => exact ⟨0, rfl, by omega, rfl, HB3.out⟩
          case round =>
            obtain ⟨j, rfl, hj2, HF, HB4⟩ := hrel
            by_cases hlt2 : j < k
            · obtain ⟨d, HD, e0, e1, e2⟩ := atGb (HR1.out.below HB4.out) (HR2.out.below HB4.out) (show j < M by omega)
              have d0 := (HB4.out.cell (p := ⟨b5, o5 + k * 2, none⟩) hbU5).trans HD0.out
              have d1 := (HB4.out.cell (p := ⟨b5, o5 + k * 2 + 1, none⟩) hbU5).trans HD1.out
              have d2 := (HB4.out.cell (p := ⟨b6, o6 + k, none⟩) hbU6).trans HD2.out
              have hjz : (j : Int) < (k : Int) := by omega
              have hjn : (j : Int) < (M : Int) := by omega
              have HQ := Lib.hid (qK_is a d)
              have HBD : Hid (qK a d = true → ans = true) := fun hq => by rw [HT.out]; exact pair_hit HA.out HD.out hlt2 hq
              have HNX : Hid (qK a d = false → (ks.take (j + 1)).any (qK a) = false) := fun hq => any_skip HD.out HF.out hq
              clear HF HD
              by_cases g1 : a.r.addr = d.r.addr
              · have HT2 : Hid (ans = true) := HBD.out (by rw [HQ.out, decide_eq_true g1]; rfl)
                have hz : (a.r.addr == d.r.addr) = true := by simpa using g1
                clear g1
                go_wp2_with fail
                go_quiet (fail)
                go_wp2
                go_ret
                exact ⟨ret_bool HT2.out.symm, below_drewN (HB9.out.trans (HB4.out.mono HB9.out.size)) _⟩
              have hz : (a.r.addr == d.r.addr) = false := by simpa using g1
              by_cases g2 : a.net = d.net
              · have hy : ((a.net : Int) == (d.net : Int)) = true := by rw [g2]; exact beq_self_eq_true _
                by_cases g3 : a.r.key = d.r.key
                · have HT2 : Hid (ans = true) := HBD.out (by rw [HQ.out, decide_eq_true g2, decide_eq_true g3]; simp)
                  have hx := beqKey g3
                  clear g1 g2 g3
                  go_wp2_with fail
                  go_quiet (fail)
                  go_wp2
                  go_ret
                  exact ⟨ret_bool HT2.out.symm, below_drewN (HB9.out.trans (HB4.out.mono HB9.out.size)) _⟩
                · have HT2 : Hid ((ks.take (j + 1)).any (qK a) = false) := HNX.out (by rw [HQ.out, decide_eq_false g1, decide_eq_false g3]; simp)
                  have hx := bneKey g3
                  clear g1 g2 g3
                  go_wp2_with fail
                  go_quiet (fail)
                  go_wp2
                  go_roundw
                  case rel => exact ⟨j + 1, by go_num, by omega, HT2.out, below_drewN HB4.out _⟩
                  case measure => simp [intOf]; omega
              · have HT2 : Hid ((ks.take (j + 1)).any (qK a) = false) := HNX.out (by rw [HQ.out, decide_eq_false g1, decide_eq_false g2]; rfl)
                have hy : ((a.net : Int) == (d.net : Int)) = false := by
                  rw [beq_eq_false_iff_ne]
                  omega
                clear g1 g2
                go_wp2_with fail
                go_quiet (fail)
                go_wp2
                go_roundw
                case rel => exact ⟨j + 1, by go_num, by omega, HT2.out, below_drewN HB4.out _⟩
                case measure => simp [intOf]; omega
            · obtain rfl : j = k := by omega
              have HT2 : Hid (pairB qK (ks.take (j + 1)) = false) := pair_next HA.out HE.out HF.out
              have hjz : ¬ (j : Int) < (j : Int) := by omega
              clear hlt2 HE HA HF
              go_wp2
              go_roundw
              case rel => exact ⟨j + 1, by go_num, by omega, HT2.out, HB4.out⟩
              case measure => simp [intOf]; omega
        · obtain rfl : k = M := by omega
          have HT2 : Hid (ans = false) := by
            show _ = _
            rw [HT.out]
            rw [← HM.out, List.take_length] at HE
            exact HE.out
          have hkz : ¬ (k : Int) < (k : Int) := by omega
          clear hlt HE
          go_wp2
          go_ret
          exact ⟨ret_bool HT2.out.symm, HB9.out.trans (HB3.out.mono HB9.out.size)⟩
end Go.Proofs.Ytoilljilndmmfaa.Vw
