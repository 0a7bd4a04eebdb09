/- What boarderlaw13's Great comes to. Condition: the configuration reads. -/
import Derived.Test.YtoilljilndmmfaaVwPlain
set_option maxRecDepth 8000
namespace Go.Proofs.Ytoilljilndmmfaa.Vw
open Go.RowKit By Cf Ad Ky
open Dw (ba ba_size ba_data ba_list alloc_more)

theorem any_bad {α : Type} {p : α → Bool} {l : List α} {k : Nat} {a : α} (h : l[k]? = some a) (hq : p a = true) : l.any p = true := List.any_eq_true.2 ⟨a, List.mem_of_getElem? h, hq⟩
theorem any_take {α : Type} {p : α → Bool} {l : List α} {n : Nat} (h : (l.take n).any p = false) (hn : l.length = n) : l.any p = false := by rwa [← hn, List.take_length] at h
theorem great_at (x : Cx) : greatC x.cf = (decide (10 < x.ns.length) || x.ns.any fun y => greatN y.l) := by
  unfold greatC
  rw [show x.cf.nets = netsOf x.ns from rfl, nets_len, nets_any]
theorem greatN_at (y : Nx) : greatN y.l = (decide (10 < y.xs.length) || y.xs.any fun s => greatS s.s) := by
  unfold greatN Nx.l
  rw [sns_len]
  unfold snsOf
  rw [List.any_map]
  rfl
def longK (r : Rs) : Bool := decide (1000 < r.key.length)
theorem greatS_at (s : Sx) : greatS s.s = (decide (20 < s.pools.length) || decide (20 < s.res.length) || s.res.any longK) := rfl
set_option maxHeartbeats 16000000 in
theorem great_any (x : Cx) (U : Nat) (w : World) (h : x.ok U w) (hU : U ≤ w.heap.size) : Calls Try.prog 8 #[x.v] w (isB (greatC x.cf) w) := by
  obtain ⟨w0, hw0, hc0, hb0⟩ := boxedC w x
  have hgr := great_at x
  generalize greatC x.cf = ans at hgr ⊢
  obtain ⟨srv, prob, A, n, c, ns⟩ := x
  have HX : Hid (RdNx U w A n c ns) := h.rd
  have HL : Hid (ns.length = n) := h.rd.len
  have HUU := Lib.hid hU
  have hcp : n ≤ c := h.rd.cap
  have hmx : c ≤ 9223372036854775807 := h.rd.max
  have HB := Lib.hid hb0
  have HC0 : Hid (Cel w0 w.heap.size 24 #[.int .i64 srv, .int .i64 prob, .slice A n c]) := hc0
  have HG : Hid (ans = (decide (10 < ns.length) || ns.any fun y => greatN y.l)) := hgr
  rw [HL.out] at HG
  show Calls _ _ #[.agg #[.int .i64 srv, .int .i64 prob, .slice A n c]] w (isB ans w)
  have hw0' : w0 = w.alloc (.cells #[.int .i64 srv, .int .i64 prob, .slice A n c] 24) := hw0
  clear h hU hc0 hb0 hw0 hgr
  by_cases hn : (n : Int) > 10
  · have HT : Hid (ans = true) := by show _ = _; rw [HG.out, decide_eq_true (by omega)]; rfl
    go_enter Try.func8, Try.ntmps8
    go_upto_region 1 with fail
    rw [← hw0']
    clear hw0'
    obtain ⟨c0, c1, c2⟩ := celC HC0.out
    go_wp2
    go_ret
    exact ⟨ret_bool HT.out.symm, HB.out⟩
  rw [decide_eq_false (by omega), Bool.false_or] at HG
  go_enter Try.func8, Try.ntmps8
  go_upto_region 1 with fail
  rw [← hw0']
  clear hw0'
  obtain ⟨c0, c1, c2⟩ := celC HC0.out
  go_wp2_with fail
  clear c0 c1 c2
  go_loopw [3] (fun v wr => ∃ i : Nat, v = .int .i64 i ∧ i ≤ n ∧ Hid (((ns.take i).any fun y => greatN y.l) = false) ∧ Hid (Below w0.heap.size w0 wr)) (fun v _ => n - (intOf v).toNat)
  case atStart => exact ⟨0, rfl, by omega, rfl, Below.refl _ _⟩
  case round =>
    obtain ⟨i, rfl, hi2, HE, HB2⟩ := hrel
    have HBW := Lib.hid (HB.out.trans (HB2.out.mono HB.out.size))
    obtain ⟨c0, c1, c2⟩ := celC (HC0.out.below HB2.out HC0.out.lt)
    by_cases hlt : i < n
    · obtain ⟨b, o, y, m, rfl, hbU, HA, hy, n0⟩ := atN HX.out hlt
      have hiz : (i : Int) < (n : Int) := by omega
      have HY0 := Lib.hid hy
      have hyc := hy.cap
      have hym := hy.max
      have hgn := greatN_at y
      rw [hy.len] at hgn
      have HN0 : Hid (∀ W, Below w.heap.size w W → W.cell? ⟨b, o + i, none⟩ = some (.slice y.A m y.c)) := fun W hW => (hW.cell (p := ⟨b, o + i, none⟩) (Nat.lt_of_lt_of_le hbU HUU.out)).trans n0
      have HBDN : Hid (greatN y.l = true → ans = true) := fun hv => by rw [HG.out]; exact any_bad HA.out hv
      have HNXN : Hid (greatN y.l = false → ((ns.take (i + 1)).any fun y => greatN y.l) = false) := fun hv => any_skip HA.out HE.out hv
      rw [hgn] at HBDN HNXN
      clear hy n0 hgn HA HE
      obtain ⟨yA, yc, xs⟩ := y
      have HY : Hid (RdSx U w yA m yc xs) := HY0
      have HN : Hid (∀ W, Below w.heap.size w W → W.cell? ⟨b, o + i, none⟩ = some (.slice yA m yc)) := HN0
      have HBD : Hid ((decide (10 < m) || xs.any fun s => greatS s.s) = true → ans = true) := HBDN
      have HNX : Hid ((decide (10 < m) || xs.any fun s => greatS s.s) = false → ((ns.take (i + 1)).any fun y => greatN y.l) = false) := HNXN
      replace hyc : m ≤ yc := hyc
      replace hym : yc ≤ 9223372036854775807 := hym
      clear HY0 HN0 HBDN HNXN
      have n0 := HN.out wr HBW.out
      by_cases hm : (m : Int) > 10
      · have HT : Hid (ans = true) := HBD.out (by rw [decide_eq_true (by omega)]; rfl)
        go_wp2
        go_ret
        exact ⟨ret_bool HT.out.symm, HBW.out⟩
      rw [decide_eq_false (by omega), Bool.false_or] at HBD HNX
      go_wp2_with fail
      clear c0 c1 c2 n0
      go_loopw [4] (fun v wr => ∃ k : Nat, v = .int .i64 k ∧ k ≤ m ∧ Hid (((xs.take k).any fun s => greatS s.s) = false) ∧ Hid (Below w0.heap.size w0 wr)) (fun v _ => m - (intOf v).toNat)
      case atStart => exact ⟨0, rfl, by omega, rfl, HB2.out⟩
      case round =>
        obtain ⟨k, rfl, hk2, HE2, HB3⟩ := hrel
        have HBV := Lib.hid (HB.out.trans (HB3.out.mono HB.out.size))
        obtain ⟨c0, c1, c2⟩ := celC (HC0.out.below HB3.out HC0.out.lt)
        have n0 := HN.out wr HBV.out
        by_cases hlt2 : k < m
        · obtain ⟨b2, o2, s, pn, rn, rfl, hbU2, HD, hok, HPN, HRN, hsv⟩ := atS HY.out hlt2
          have hkz : (k : Int) < (m : Int) := by omega
          obtain ⟨s0, s1, s2, s3, s4, s5, s6⟩ := hsv.below (HBV.out.mono HUU.out) hbU2
          have hgs := greatS_at s
          rw [HPN.out, HRN.out] at hgs
          have HROW := Lib.hid hok.r
          have HKF := Lib.hid hok.k
          have hpc := hok.p.cap
          have hpm := hok.p.max
          have hrc := hok.r.cap
          have hrm := hok.r.max
          have HBS : Hid (greatS s.s = true → ans = true) := fun hv => HBD.out (any_bad HD.out hv)
          have HNS : Hid (greatS s.s = false → ((xs.take (k + 1)).any fun s => greatS s.s) = false) := fun hv => any_skip HD.out HE2.out hv
          rw [hgs] at HBS HNS
          obtain ⟨w5, hw5⟩ : ∃ w5, w5 = wr.alloc (.cells (s.cs pn rn) 45) := ⟨_, rfl⟩
          have hb5 : Below wr.heap.size wr w5 := by rw [hw5]; exact alloc_more _ _
          have hc5 : Cel w5 wr.heap.size 45 (s.cs pn rn) := by rw [hw5]; exact Cel.born _ _ _
          have HC5 := Lib.hid hc5
          have HLT : Hid (wr.heap.size < w5.heap.size) := hc5.lt
          have HB5 := Lib.hid (HB3.out.trans (hb5.mono HB3.out.size))
          have HBX := Lib.hid (HB.out.trans (HB5.out.mono HB.out.size))
          clear hok hsv hb5 hc5 hgs HE2 HD
          go_upto_region 12 with fail
          rw [← hw5]
          clear hw5
          generalize wr.heap.size = gg at HC5 HLT ⊢
          clear c0 c1 c2 n0 s0 s1 s2 s3 s4 s5 s6
          obtain ⟨s0, s1, s2, s3, s4, s5, s6⟩ := cel7 HC5.out
          by_cases h1 : (pn : Int) > 20
          · have HT : Hid (ans = true) := HBS.out (by rw [decide_eq_true (show 20 < pn by omega)]; rfl)
            go_wp2
            go_ret
            exact ⟨ret_bool HT.out.symm, HBX.out⟩
          by_cases h2 : (rn : Int) > 20
          · have HT : Hid (ans = true) := HBS.out (by rw [decide_eq_true (show 20 < rn by omega), Bool.or_true]; rfl)
            go_wp2
            go_ret
            exact ⟨ret_bool HT.out.symm, HBX.out⟩
          rw [decide_eq_false (show ¬ 20 < pn by omega), decide_eq_false (show ¬ 20 < rn by omega), Bool.false_or, Bool.false_or] at HBS HNS
          go_wp2_with fail
          clear s0 s1 s2 s3 s4 s5 s6
          go_loopw [6] (fun v wr => ∃ j : Nat, v = .int .i64 j ∧ j ≤ rn ∧ Hid ((s.res.take j).any longK = false) ∧ Hid (Below w5.heap.size w5 wr)) (fun v _ => rn - (intOf v).toNat)
          case atStart => exact ⟨0, rfl, by omega, rfl, Below.refl _ _⟩
          case round =>
            obtain ⟨j, rfl, hj2, HE3, HB6⟩ := hrel
            have HBY := Lib.hid (HBX.out.trans (HB6.out.mono HBX.out.size))
            obtain ⟨s0, s1, s2, s3, s4, s5, s6⟩ := cel7 (HC5.out.below HB6.out HLT.out)
            by_cases hlt3 : j < rn
            · obtain ⟨b3, o3, r, hrA, hbU3, HQ, p0, p1⟩ := atR (HROW.out.below (HBY.out.mono HUU.out)) hlt3
              have hjz : (j : Int) < (rn : Int) := by omega
              have hfr : r.key.length ≤ 9223372036854775807 := HKF.out r (List.mem_of_getElem? HQ.out)
              have hbs := ba_size r.key
              rw [hrA] at s3
              clear hrA
              by_cases hv : 1000 < r.key.length
              · have HT : Hid (ans = true) := HBS.out (any_bad HQ.out (decide_eq_true hv))
                have hvz : ((ba r.key).size : Int) > 1000 := by rw [hbs]; omega
                clear hv HQ HE3
                go_wp2_with fail
                go_ret
                exact ⟨ret_bool HT.out.symm, HBY.out⟩
              · have HT : Hid ((s.res.take (j + 1)).any longK = false) := any_skip HQ.out HE3.out (decide_eq_false hv)
                have hvz : ¬ ((ba r.key).size : Int) > 1000 := by rw [hbs]; omega
                clear hv HQ HE3
                go_wp2_with fail
                go_roundw
                case rel => exact ⟨j + 1, by go_num, by omega, HT.out, HB6.out⟩
                case measure => simp [intOf]; omega
            · obtain rfl : j = rn := by omega
              have HT : Hid (((xs.take (k + 1)).any fun s => greatS s.s) = false) := HNS.out (any_take HE3.out HRN.out)
              have hjz : ¬ (j : Int) < (j : Int) := by omega
              clear hlt3 HE3
              go_wp2
              go_roundw
              case rel => exact ⟨k + 1, by go_num, by omega, HT.out, HB5.out.trans (HB6.out.mono HB5.out.size)⟩
              case measure => simp [intOf]; omega
        · obtain rfl : k = m := by omega
          have HT : Hid (((ns.take (i + 1)).any fun y => greatN y.l) = false) := HNX.out (any_take HE2.out HY.out.len)
          have hkz : ¬ (k : Int) < (k : Int) := by omega
          clear hlt2 HE2
          go_wp2
          go_roundw
          case rel => exact ⟨i + 1, by go_num, by omega, HT.out, HB3.out⟩
          case measure => simp [intOf]; omega
    · obtain rfl : i = n := by omega
      have HT : Hid (ans = false) := by
        show _ = _
        rw [HG.out]
        exact any_take HE.out HL.out
      have hiz : ¬ (i : Int) < (i : Int) := by omega
      clear hlt HE
      go_wp2
      go_ret
      exact ⟨ret_bool HT.out.symm, HBW.out⟩
end Go.Proofs.Ytoilljilndmmfaa.Vw
