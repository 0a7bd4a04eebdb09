/- What the document's own Places comes to. Conditions: the configuration reads, and its form is right. -/
import Derived.Test.YtoilljilndmmfaaVwRf2
import Derived.Deep.RegionHeld3
import Derived.Deep.RegionWith
set_option maxRecDepth 8000
namespace Go.Proofs.Ytoilljilndmmfaa.Vw
open Go.RowKit By Cf Ad Ky
open Dw (ba ba_size ba_data ba_list alloc_more)

theorem places_at (x : Cx) : placesC x.cf = x.ns.all fun y => y.xs.all fun s => snO x.server s.s := by
  unfold placesC
  rw [show x.cf.nets = netsOf x.ns from rfl]
  unfold netsOf
  rw [List.all_map]
  refine congrArg (x.ns.all ·) (funext fun y => ?_)
  show (snsOf y.xs).all _ = _
  unfold snsOf
  rw [List.all_map]
  rfl
theorem form_fair {x : Cx} (h : formC x.cf = true) : ∀ y ∈ x.ns, ∀ s ∈ y.xs, fairB s.base s.bits = true := by
  intro y hy s hs
  rw [form_at, Bool.and_eq_true, List.all_eq_true] at h
  have h1 := h.2 y hy
  unfold netF at h1
  rw [Bool.and_eq_true, List.all_eq_true] at h1
  exact sn_fair (h1.2 s.s (List.mem_map.2 ⟨s, hs, rfl⟩))
set_option maxHeartbeats 16000000 in
theorem refPlaces_any (x : Cx) (U : Nat) (w : World) (h : x.ok U w) (hU : U ≤ w.heap.size) (hf : formC x.cf = true) : Calls Try.prog 32 #[x.v] w (isB (placesC x.cf) w) := by
  obtain ⟨w0, hw0, hc0, hb0⟩ := boxedC w x
  have hfm := places_at x
  have hfr := form_fair hf
  obtain ⟨srv, prob, A, n, c, ns⟩ := x
  have HX : Hid (RdNx U w A n c ns) := h.rd
  have HL : Hid (ns.length = n) := h.rd.len
  have HUU := Lib.hid hU
  have hcp : n ≤ c := h.rd.cap
  have hmx : c ≤ 9223372036854775807 := h.rd.max
  have HB := Lib.hid hb0
  have HC0 : Hid (Cel w0 w.heap.size 24 #[.int .i64 srv, .int .i64 prob, .slice A n c]) := hc0
  have HFR : Hid (∀ y ∈ ns, ∀ s ∈ y.xs, fairB s.base s.bits = true) := hfr
  have H : Hid (placesC (Cx.cf ⟨srv, prob, A, n, c, ns⟩) = ns.all fun y => y.xs.all fun s => snO srv s.s) := hfm
  show Calls _ _ #[.agg #[.int .i64 srv, .int .i64 prob, .slice A n c]] w (isB (placesC (Cx.cf ⟨srv, prob, A, n, c, ns⟩)) w)
  have hw0' : w0 = w.alloc (.cells #[.int .i64 srv, .int .i64 prob, .slice A n c] 24) := hw0
  generalize placesC (Cx.cf ⟨srv, prob, A, n, c, ns⟩) = ans at H ⊢
  clear h hU hc0 hb0 hw0 hfm hfr hf
  go_enter Try.func32, Try.ntmps32
  go_upto_region 1 with fail
  rw [← hw0']
  clear hw0'
  go_wp2_with fail
  go_loopw [3] (fun v wr => ∃ i : Nat, v = .int .i64 i ∧ i ≤ n ∧ Hid (((ns.take i).all fun y => y.xs.all fun s => snO srv s.s) = true) ∧ Hid (Below w0.heap.size w0 wr)) (fun v _ => n - (intOf v).toNat)
  case atStart => exact ⟨0, rfl, by omega, rfl, Below.refl _ _⟩
  case round =>
    obtain ⟨i, rfl, hi2, HE, HB2⟩ := hrel
    have HBW := Lib.hid (HB.out.trans (HB2.out.mono HB.out.size))
    obtain ⟨c0, c1, c2⟩ := celC (HC0.out.below HB2.out HC0.out.lt)
    by_cases hlt : i < n
    · obtain ⟨b, o, y, m, rfl, hbU, HA, hy, n0⟩ := atN HX.out hlt
      have hiz : (i : Int) < (n : Int) := by omega
      have HY0 := Lib.hid hy
      have hyc := hy.cap
      have hym := hy.max
      have HN0 : Hid (∀ W, Below w.heap.size w W → W.cell? ⟨b, o + i, none⟩ = some (.slice y.A m y.c)) := fun W hW => (hW.cell (p := ⟨b, o + i, none⟩) (Nat.lt_of_lt_of_le hbU HUU.out)).trans n0
      have HFY := Lib.hid (HFR.out y (List.mem_of_getElem? HA.out))
      clear hy n0
      obtain ⟨yA, yc, xs⟩ := y
      have HY : Hid (RdSx U w yA m yc xs) := HY0
      have HN : Hid (∀ W, Below w.heap.size w W → W.cell? ⟨b, o + i, none⟩ = some (.slice yA m yc)) := HN0
      have HFX : Hid (∀ s ∈ xs, fairB s.base s.bits = true) := HFY
      replace hyc : m ≤ yc := hyc
      replace hym : yc ≤ 9223372036854775807 := hym
      clear HY0 HN0 HFY
      have n0 := HN.out wr HBW.out
      go_wp2_with fail
      clear c0 c1 c2 n0
      go_loopw [4] (fun v wr => ∃ k : Nat, v = .int .i64 k ∧ k ≤ m ∧ Hid (((xs.take k).all fun s => snO srv s.s) = true) ∧ Hid (Below w0.heap.size w0 wr)) (fun v _ => m - (intOf v).toNat)
      case atStart => exact ⟨0, rfl, by omega, rfl, HB2.out⟩
      case round =>
        obtain ⟨k, rfl, hk2, HE2, HB3⟩ := hrel
        have HBV := Lib.hid (HB.out.trans (HB3.out.mono HB.out.size))
        obtain ⟨c0, c1, c2⟩ := celC (HC0.out.below HB3.out HC0.out.lt)
        have n0 := HN.out wr HBV.out
        by_cases hlt2 : k < m
        · obtain ⟨b2, o2, s, pn, rn, rfl, hbU2, HD, hok, HPN, HRN, hsv⟩ := atS HY.out hlt2
          have hkz : (k : Int) < (m : Int) := by omega
          obtain ⟨s0, s1, s2, s3, s4, s5, s6⟩ := hsv.below (HBV.out.mono HUU.out) hbU2
          have hfs := HFX.out s (List.mem_of_getElem? HD.out)
          have HLN := Lib.hid (fun a W => refLends_any s pn rn a W hfs)
          have HPR := Lib.hid hok.p
          have HRR := Lib.hid hok.r
          have hpc := hok.p.cap
          have hpm := hok.p.max
          have hrc := hok.r.cap
          have hrm := hok.r.max
          have HSN : Hid (snO srv s.s = (s.pools.all (poolO srv s.s) && s.res.all (resO srv s.s) && (decide (s.router = 0) || hasB s.base s.bits s.router))) := rfl
          have HBAD : Hid (snO srv s.s = false → ans = false) := fun hv => by rw [H.out, all_bad HA.out (all_bad HD.out hv)]
          have HNXT : Hid (snO srv s.s = true → ((xs.take (k + 1)).all fun s => snO srv s.s) = true) := fun hv => all_next HD.out HE2.out hv
          obtain ⟨w5, hw5⟩ : ∃ w5, w5 = wr.alloc (.cells (s.cs pn rn) 45) := ⟨_, rfl⟩
          have hb5 : Below wr.heap.size wr w5 := by rw [hw5]; exact alloc_more _ _
          have hc5 : Cel w5 wr.heap.size 45 (s.cs pn rn) := by rw [hw5]; exact Cel.born _ _ _
          have HC5 := Lib.hid hc5
          have HLT : Hid (wr.heap.size < w5.heap.size) := hc5.lt
          have HB5 := Lib.hid (HB3.out.trans (hb5.mono HB3.out.size))
          have HBX := Lib.hid (HB.out.trans (HB5.out.mono HB.out.size))
          clear hok hsv hb5 hc5 hfs
          go_upto_region 8 with fail
          rw [← hw5]
          clear hw5
          generalize wr.heap.size = gg at HC5 HLT ⊢
          go_wp2_with fail
          clear c0 c1 c2 n0 s0 s1 s2 s3 s4 s5 s6
          go_loopw [6] (fun v wr => ∃ j : Nat, v = .int .i64 j ∧ j ≤ pn ∧ Hid ((s.pools.take j).all (poolO srv s.s) = true) ∧ Hid (Below w5.heap.size w5 wr)) (fun v _ => pn - (intOf v).toNat)
          case atStart => exact ⟨0, rfl, by omega, rfl, Below.refl _ _⟩
          case round =>
            obtain ⟨j, rfl, hj2, HE3, HB6⟩ := hrel
            have HBY := Lib.hid (HBX.out.trans (HB6.out.mono HBX.out.size))
            obtain ⟨s0, s1, s2, s3, s4, s5, s6⟩ := cel7 (HC5.out.below HB6.out HLT.out)
            by_cases hlt3 : j < pn
            · obtain ⟨b3, o3, q, hpA, hbU3, HQ, p0, p1⟩ := atP (HPR.out.below (HBY.out.mono HUU.out)) hlt3
              have hjz : (j : Int) < (pn : Int) := by omega
              rw [hpA] at s2
              clear hpA
              have HBADP : Hid (poolO srv s.s q = false → ans = false) := fun hv => HBAD.out (by rw [HSN.out, all_bad HQ.out hv]; rfl)
              have HNXP : Hid (poolO srv s.s q = true → (s.pools.take (j + 1)).all (poolO srv s.s) = true) := fun hv => all_next HQ.out HE3.out hv
              obtain ⟨w6, hw6⟩ : ∃ w6, w6 = wr.alloc (.cells #[.int .i64 q.first, .int .i64 q.last] 50) := ⟨_, rfl⟩
              have hb6 : Below wr.heap.size wr w6 := by rw [hw6]; exact alloc_more _ _
              have hc6 : Cel w6 wr.heap.size 50 #[.int .i64 q.first, .int .i64 q.last] := by rw [hw6]; exact Cel.born _ _ _
              have HB7 := Lib.hid (HB6.out.trans (hb6.mono HB6.out.size))
              have HBZ := Lib.hid (HBX.out.trans (HB7.out.mono HBX.out.size))
              have K : Hid (∀ W, Below w6.heap.size w6 W → (W.cell? ⟨gg, 0, none⟩ = some (.int .i64 s.base) ∧ W.cell? ⟨gg, 1, none⟩ = some (.int .i64 s.bits) ∧ W.cell? ⟨gg, 2, none⟩ = some (.slice s.pA pn s.pc) ∧ W.cell? ⟨gg, 3, none⟩ = some (.slice s.rA rn s.rc) ∧
                  W.cell? ⟨gg, 4, none⟩ = some (.int .i64 s.iface) ∧ W.cell? ⟨gg, 5, none⟩ = some (.int .i64 s.router) ∧ W.cell? ⟨gg, 6, none⟩ = some (.int .i64 s.time)) ∧
                  (W.cell? ⟨wr.heap.size, 0, none⟩ = some (.int .i64 q.first) ∧ W.cell? ⟨wr.heap.size, 1, none⟩ = some (.int .i64 q.last)) ∧ W.cell? ⟨w.heap.size, 0, none⟩ = some (.int .i64 srv)) := fun W hW => by
                have hb := HB7.out.trans (hW.mono HB7.out.size)
                have hbz := HB5.out.trans (hb.mono HB5.out.size)
                exact ⟨cel7 (HC5.out.below hb HLT.out), celP (hc6.below hW hc6.lt), (celC (HC0.out.below hbz HC0.out.lt)).1⟩
              have HLA := Lib.hid (HLN.out q.first)
              have HLB := Lib.hid (HLN.out q.last)
              have HPO : Hid (poolO srv s.s q = (lendsB s.s q.first && lendsB s.s q.last && !inPl q srv)) := rfl
              clear hb6 hc6
              cases h1 : lendsB s.s q.first with
              | false =>
                have HT : Hid (ans = false) := HBADP.out (by rw [HPO.out, h1]; rfl)
                rw [h1] at HLA
                clear h1 HQ HE3 HD HE2 HA HE
                go_upto_region 12 with fail
                rw [← hw6]
                clear hw6 s0 s1 s2 s3 s4 s5 s6 p0 p1
                obtain ⟨⟨s0, s1, s2, s3, s4, s5, s6⟩, ⟨p0, p1⟩, c0⟩ := K.out w6 (Below.refl _ _)
                go_wp2_with fail
                refine (HLA.out w6).mono ?_
                rintro e w7 ⟨rfl, hb7⟩
                clear s0 s1 s2 s3 s4 s5 s6 p0 p1 c0
                obtain ⟨⟨s0, s1, s2, s3, s4, s5, s6⟩, ⟨p0, p1⟩, c0⟩ := K.out w7 hb7
                go_wp2
                go_ret
                exact ⟨ret_bool HT.out.symm, HBZ.out.trans (hb7.mono HBZ.out.size)⟩
              | true =>
              rw [h1] at HLA
              cases h2 : lendsB s.s q.last with
              | false =>
                have HT : Hid (ans = false) := HBADP.out (by rw [HPO.out, h1, h2]; rfl)
                rw [h2] at HLB
                clear h1 h2 HQ HE3 HD HE2 HA HE
                go_upto_region 12 with fail
                rw [← hw6]
                clear hw6 s0 s1 s2 s3 s4 s5 s6 p0 p1
                obtain ⟨⟨s0, s1, s2, s3, s4, s5, s6⟩, ⟨p0, p1⟩, c0⟩ := K.out w6 (Below.refl _ _)
                go_wp2_with fail
                refine (HLA.out w6).mono ?_
                rintro e w7 ⟨rfl, hb7⟩
                clear s0 s1 s2 s3 s4 s5 s6 p0 p1 c0
                obtain ⟨⟨s0, s1, s2, s3, s4, s5, s6⟩, ⟨p0, p1⟩, c0⟩ := K.out w7 hb7
                go_wp2_with fail
                refine (HLB.out w7).mono ?_
                rintro e w8 ⟨rfl, hb8⟩
                have hb9 := hb7.trans (hb8.mono hb7.size)
                clear s0 s1 s2 s3 s4 s5 s6 p0 p1 c0
                obtain ⟨⟨s0, s1, s2, s3, s4, s5, s6⟩, ⟨p0, p1⟩, c0⟩ := K.out w8 hb9
                clear hb7 hb8
                go_wp2
                go_ret
                exact ⟨ret_bool HT.out.symm, HBZ.out.trans (hb9.mono HBZ.out.size)⟩
              | true =>
              rw [h2] at HLB
              by_cases h3 : srv ≥ q.first
              · by_cases h4 : srv ≤ q.last
                · have HT : Hid (ans = false) := HBADP.out (by rw [HPO.out, h1, h2, show inPl q srv = true from decide_eq_true ⟨h3, h4⟩]; rfl)
                  clear h1 h2 HQ HE3 HD HE2 HA HE
                  go_upto_region 12 with fail
                  rw [← hw6]
                  clear hw6 s0 s1 s2 s3 s4 s5 s6 p0 p1
                  obtain ⟨⟨s0, s1, s2, s3, s4, s5, s6⟩, ⟨p0, p1⟩, c0⟩ := K.out w6 (Below.refl _ _)
                  go_wp2_with fail
                  refine (HLA.out w6).mono ?_
                  rintro e w7 ⟨rfl, hb7⟩
                  clear s0 s1 s2 s3 s4 s5 s6 p0 p1 c0
                  obtain ⟨⟨s0, s1, s2, s3, s4, s5, s6⟩, ⟨p0, p1⟩, c0⟩ := K.out w7 hb7
                  go_wp2_with fail
                  refine (HLB.out w7).mono ?_
                  rintro e w8 ⟨rfl, hb8⟩
                  have hb9 := hb7.trans (hb8.mono hb7.size)
                  clear s0 s1 s2 s3 s4 s5 s6 p0 p1 c0
                  obtain ⟨⟨s0, s1, s2, s3, s4, s5, s6⟩, ⟨p0, p1⟩, c0⟩ := K.out w8 hb9
                  clear hb7 hb8
                  go_wp2
                  go_ret
                  exact ⟨ret_bool HT.out.symm, HBZ.out.trans (hb9.mono HBZ.out.size)⟩
                · have HT : Hid ((s.pools.take (j + 1)).all (poolO srv s.s) = true) := HNXP.out (by rw [HPO.out, h1, h2, show inPl q srv = false from decide_eq_false fun k => h4 k.2]; rfl)
                  clear h1 h2 HQ HE3
                  go_upto_region 12 with fail
                  rw [← hw6]
                  clear hw6 s0 s1 s2 s3 s4 s5 s6 p0 p1
                  obtain ⟨⟨s0, s1, s2, s3, s4, s5, s6⟩, ⟨p0, p1⟩, c0⟩ := K.out w6 (Below.refl _ _)
                  go_wp2_with fail
                  refine (HLA.out w6).mono ?_
                  rintro e w7 ⟨rfl, hb7⟩
                  clear s0 s1 s2 s3 s4 s5 s6 p0 p1 c0
                  obtain ⟨⟨s0, s1, s2, s3, s4, s5, s6⟩, ⟨p0, p1⟩, c0⟩ := K.out w7 hb7
                  go_wp2_with fail
                  refine (HLB.out w7).mono ?_
                  rintro e w8 ⟨rfl, hb8⟩
                  have hb9 := hb7.trans (hb8.mono hb7.size)
                  clear s0 s1 s2 s3 s4 s5 s6 p0 p1 c0
                  obtain ⟨⟨s0, s1, s2, s3, s4, s5, s6⟩, ⟨p0, p1⟩, c0⟩ := K.out w8 hb9
                  clear hb7 hb8
                  go_wp2
                  go_roundw
                  case rel => exact ⟨j + 1, by go_num, by omega, HT.out, HB7.out.trans (hb9.mono HB7.out.size)⟩
                  case measure => simp [intOf]; omega
              · have HT : Hid ((s.pools.take (j + 1)).all (poolO srv s.s) = true) := HNXP.out (by rw [HPO.out, h1, h2, show inPl q srv = false from decide_eq_false fun k => h3 k.1]; rfl)
                clear h1 h2 HQ HE3
                go_upto_region 12 with fail
                rw [← hw6]
                clear hw6 s0 s1 s2 s3 s4 s5 s6 p0 p1
                obtain ⟨⟨s0, s1, s2, s3, s4, s5, s6⟩, ⟨p0, p1⟩, c0⟩ := K.out w6 (Below.refl _ _)
                go_wp2_with fail
                refine (HLA.out w6).mono ?_
                rintro e w7 ⟨rfl, hb7⟩
                clear s0 s1 s2 s3 s4 s5 s6 p0 p1 c0
                obtain ⟨⟨s0, s1, s2, s3, s4, s5, s6⟩, ⟨p0, p1⟩, c0⟩ := K.out w7 hb7
                go_wp2_with fail
                refine (HLB.out w7).mono ?_
                rintro e w8 ⟨rfl, hb8⟩
                have hb9 := hb7.trans (hb8.mono hb7.size)
                clear s0 s1 s2 s3 s4 s5 s6 p0 p1 c0
                obtain ⟨⟨s0, s1, s2, s3, s4, s5, s6⟩, ⟨p0, p1⟩, c0⟩ := K.out w8 hb9
                clear hb7 hb8
                go_wp2
                go_roundw
                case rel => exact ⟨j + 1, by go_num, by omega, HT.out, HB7.out.trans (hb9.mono HB7.out.size)⟩
                case measure => simp [intOf]; omega
            · obtain rfl : j = pn := by omega
              have HPA : Hid (s.pools.all (poolO srv s.s) = true) := by rw [← HPN.out] at HE3; rw [List.take_length] at HE3; exact HE3
              rw [HPA.out, Bool.true_and] at HSN
              have hjz : ¬ (j : Int) < (j : Int) := by omega
              clear hlt3 HE3
              go_wp2_with fail
              clear s0 s1 s2 s3 s4 s5 s6
              go_loopw [8] (fun v wr => ∃ r : Nat, v = .int .i64 r ∧ r ≤ rn ∧ Hid ((s.res.take r).all (resO srv s.s) = true) ∧ Hid (Below w5.heap.size w5 wr)) (fun v _ => rn - (intOf v).toNat)
              case atStart => exact ⟨0, rfl, by omega, rfl, HB6.out⟩
              case round =>
                obtain ⟨r, rfl, hr2, HE4, HB8⟩ := hrel
                have HBZ := Lib.hid (HBX.out.trans (HB8.out.mono HBX.out.size))
                obtain ⟨s0, s1, s2, s3, s4, s5, s6⟩ := cel7 (HC5.out.below HB8.out HLT.out)
                by_cases hlt4 : r < rn
                · obtain ⟨b4, o4, t, hrA, hbU4, HT4, p0, p1⟩ := atR (HRR.out.below (HBZ.out.mono HUU.out)) hlt4
                  have hrz : (r : Int) < (rn : Int) := by omega
                  have HBADR : Hid (resO srv s.s t = false → ans = false) := fun hv => HBAD.out (by rw [HSN.out, all_bad HT4.out hv]; rfl)
                  have HNXR : Hid (resO srv s.s t = true → (s.res.take (r + 1)).all (resO srv s.s) = true) := fun hv => all_next HT4.out HE4.out hv
                  have HRO : Hid (resO srv s.s t = (lendsB s.s t.addr && !decide (t.addr = srv))) := rfl
                  have HLA := Lib.hid (HLN.out t.addr)
                  have K : Hid (∀ W, Below wr.heap.size wr W → W.cell? ⟨gg, 0, none⟩ = some (.int .i64 s.base) ∧ W.cell? ⟨gg, 1, none⟩ = some (.int .i64 s.bits) ∧ W.cell? ⟨gg, 2, none⟩ = some (.slice s.pA j s.pc) ∧ W.cell? ⟨gg, 3, none⟩ = some (.slice (some ⟨b4, o4, none⟩) rn s.rc) ∧
                      W.cell? ⟨gg, 4, none⟩ = some (.int .i64 s.iface) ∧ W.cell? ⟨gg, 5, none⟩ = some (.int .i64 s.router) ∧ W.cell? ⟨gg, 6, none⟩ = some (.int .i64 s.time) ∧
                      W.cell? ⟨b4, o4 + r * 2 + 1, none⟩ = some (.int .i64 t.addr) ∧ W.cell? ⟨w.heap.size, 0, none⟩ = some (.int .i64 srv)) := fun W hW => by
                    have hb := HB8.out.trans (hW.mono HB8.out.size)
                    have hbz := HB5.out.trans (hb.mono HB5.out.size)
                    obtain ⟨z0, z1, z2, z3, z4, z5, z6⟩ := cel7 (HC5.out.below hb HLT.out)
                    rw [hrA] at z3
                    exact ⟨z0, z1, z2, z3, z4, z5, z6, (hW.cell (p := ⟨b4, o4 + r * 2 + 1, none⟩) (Nat.lt_of_lt_of_le hbU4 (Nat.le_trans HUU.out HBZ.out.size))).trans p1, (celC (HC0.out.below hbz HC0.out.lt)).1⟩
                  have HEQ : Hid (s.v j rn = .agg #[.int .i64 s.base, .int .i64 s.bits, .slice s.pA j s.pc, .slice (some ⟨b4, o4, none⟩) rn s.rc, .int .i64 s.iface, .int .i64 s.router, .int .i64 s.time]) := by
                    show _ = _
                    unfold Sx.v
                    rw [hrA]
                  rw [HEQ.out] at HLA
                  clear hrA HE4 HT4 HEQ s0 s1 s2 s3 s4 s5 s6 p0 p1
                  obtain ⟨s0, s1, s2, s3, s4, s5, s6, p1, c0⟩ := K.out wr (Below.refl _ _)
                  cases h1 : lendsB s.s t.addr with
                  | false =>
                    have HT : Hid (ans = false) := HBADR.out (by rw [HRO.out, h1]; rfl)
                    rw [h1] at HLA
                    clear h1 HD HE2 HA HE
                    go_wp2_with fail
                    clear s0 s1 s2 s3 s4 s5 s6 p1 c0
                    obtain ⟨s0, s1, s2, s3, s4, s5, s6, p1, c0⟩ := K.out wr.drew (Below.refl _ _).drew
                    refine wp_region_any (by kernel_rfl) ?_
                    change wpAny _ _ _ _ _ _ _ (World.drew _)
                    refine wpAny_take (i := 1) (v := .pointer (some ⟨gg, 3, none⟩)) rfl (by kernel_rfl) (by kernel_rfl) (by kernel_rfl) (fun _ _ _ h => h) (.inl ⟨by rfl, fun w => by go_simp⟩) ?_
                    simp only [Act.put, List.getElem_toArray, List.getElem_cons_zero, List.getElem_cons_succ, List.setIfInBounds_toArray, List.set_cons_zero, List.set_cons_succ]
                    refine wpAny_take (i := 3) (v := .int .i64 (r : Int)) rfl (by kernel_rfl) (by kernel_rfl) (by kernel_rfl) (fun _ _ _ h => h) (.inl ⟨by rfl, fun w => by go_simp⟩) ?_
                    simp only [Act.put, List.getElem_toArray, List.getElem_cons_zero, List.getElem_cons_succ, List.setIfInBounds_toArray, List.set_cons_zero, List.set_cons_succ]
                    refine wpAny_ready (rs := [0, 2]) (by kernel_rfl) (by simp) ?_
                    refine AllReady.cons rfl (fun K2 hK2 => ?_) (AllReady.cons rfl (fun K2 hK2 => ?_) (AllReady.nil))
                    · go_simp
                      refine hK2 _ _ ?_
                      clear hK2 K2
                      refine wpAny_ready (rs := [2]) (by kernel_rfl) (by simp) ?_
                      refine AllReady.cons rfl (fun K2 hK2 => ?_) (AllReady.nil)
                      go_simp
                      refine hK2 _ _ ?_
                      clear hK2 K2
                      refine wpAny_take (i := 4) (v := .pointer (some ⟨b4, o4 + r * 2, none⟩)) rfl (by kernel_rfl) (by kernel_rfl) (by kernel_rfl) (fun _ _ _ h => h) (.inl ⟨by rfl, fun w => by go_simp⟩) ?_
                      simp only [Act.put, List.getElem_toArray, List.getElem_cons_zero, List.getElem_cons_succ, List.setIfInBounds_toArray, List.set_cons_zero, List.set_cons_succ]
                      refine wpAny_take (i := 5) (v := .pointer (some ⟨b4, o4 + r * 2 + 1, none⟩)) rfl (by kernel_rfl) (by kernel_rfl) (by kernel_rfl) (fun _ _ _ h => h) (.inl ⟨by rfl, fun w => by go_simp⟩) ?_
                      simp only [Act.put, List.getElem_toArray, List.getElem_cons_zero, List.getElem_cons_succ, List.setIfInBounds_toArray, List.set_cons_zero, List.set_cons_succ]
                      refine wpAny_ready (rs := [6]) (by kernel_rfl) (by simp) ?_
                      refine AllReady.cons rfl (fun K2 hK2 => ?_) (AllReady.nil)
                      go_simp
                      refine hK2 _ _ ?_
                      clear hK2 K2
                      refine wpAny_ready (rs := [7]) (by kernel_rfl) (by simp) ?_
                      refine AllReady.cons rfl (fun K2 hK2 => ?_) (AllReady.nil)
                      go_simp
                      go_at_call 71
                      refine (HLA.out _).mono ?_
                      rintro ee wu ⟨rfl, hbu⟩
                      have hbu9 : Below wr.heap.size wr wu := below_undrew hbu
                      refine hK2 _ _ ?_
                      clear hK2 K2
                      refine wpAny_take (i := 8) (v := .bool true) rfl (by kernel_rfl) (by kernel_rfl) (by kernel_rfl) (fun _ _ _ h => h) (.inl ⟨by rfl, fun w => by go_simp⟩) ?_
                      simp only [Act.put, List.getElem_toArray, List.getElem_cons_zero, List.getElem_cons_succ, List.setIfInBounds_toArray, List.set_cons_zero, List.set_cons_succ]
                      refine wpAny_take (i := 9) (v := .bool true) rfl (by kernel_rfl) (by kernel_rfl) (by kernel_rfl) (fun _ _ _ h => h) (.inl ⟨by rfl, fun w => by go_simp⟩) ?_
                      simp only [Act.put, List.getElem_toArray, List.getElem_cons_zero, List.getElem_cons_succ, List.setIfInBounds_toArray, List.set_cons_zero, List.set_cons_succ]
                      refine wpAny_take (i := 10) (v := undef) rfl (by kernel_rfl) (by kernel_rfl) (by kernel_rfl) (fun _ _ _ h => h) (.inr ⟨by rfl, rfl⟩) ?_
                      simp only [Act.put, List.getElem_toArray, List.getElem_cons_zero, List.getElem_cons_succ, List.setIfInBounds_toArray, List.set_cons_zero, List.set_cons_succ]
                      refine wpAny_take (i := 11) (v := undef) rfl (by kernel_rfl) (by kernel_rfl) (by kernel_rfl) (fun _ _ _ h => h) (.inr ⟨by rfl, rfl⟩) ?_
                      simp only [Act.put, List.getElem_toArray, List.getElem_cons_zero, List.getElem_cons_succ, List.setIfInBounds_toArray, List.set_cons_zero, List.set_cons_succ]
                      refine wpAny_take (i := 12) (v := undef) rfl (by kernel_rfl) (by kernel_rfl) (by kernel_rfl) (fun _ _ _ h => h) (.inr ⟨by rfl, rfl⟩) ?_
                      simp only [Act.put, List.getElem_toArray, List.getElem_cons_zero, List.getElem_cons_succ, List.setIfInBounds_toArray, List.set_cons_zero, List.set_cons_succ]
                      refine wpAny_take (i := 13) (v := undef) rfl (by kernel_rfl) (by kernel_rfl) (by kernel_rfl) (fun _ _ _ h => h) (.inr ⟨by rfl, rfl⟩) ?_
                      simp only [Act.put, List.getElem_toArray, List.getElem_cons_zero, List.getElem_cons_succ, List.setIfInBounds_toArray, List.set_cons_zero, List.set_cons_succ]
                      refine wpAny_take (i := 14) (v := undef) rfl (by kernel_rfl) (by kernel_rfl) (by kernel_rfl) (fun _ _ _ h => h) (.inr ⟨by rfl, rfl⟩) ?_
                      simp only [Act.put, List.getElem_toArray, List.getElem_cons_zero, List.getElem_cons_succ, List.setIfInBounds_toArray, List.set_cons_zero, List.set_cons_succ]
                      refine wpAny_take (i := 15) (v := undef) rfl (by kernel_rfl) (by kernel_rfl) (by kernel_rfl) (fun _ _ _ h => h) (.inr ⟨by rfl, rfl⟩) ?_
                      simp only [Act.put, List.getElem_toArray, List.getElem_cons_zero, List.getElem_cons_succ, List.setIfInBounds_toArray, List.set_cons_zero, List.set_cons_succ]
                      refine wpAny_take (i := 16) (v := undef) rfl (by kernel_rfl) (by kernel_rfl) (by kernel_rfl) (fun _ _ _ h => h) (.inr ⟨by rfl, rfl⟩) ?_
                      simp only [Act.put, List.getElem_toArray, List.getElem_cons_zero, List.getElem_cons_succ, List.setIfInBounds_toArray, List.set_cons_zero, List.set_cons_succ]
                      refine wpAny_take (i := 17) (v := undef) rfl (by kernel_rfl) (by kernel_rfl) (by kernel_rfl) (fun _ _ _ h => h) (.inr ⟨by rfl, rfl⟩) ?_
                      simp only [Act.put, List.getElem_toArray, List.getElem_cons_zero, List.getElem_cons_succ, List.setIfInBounds_toArray, List.set_cons_zero, List.set_cons_succ]
                      refine wpAny_take (i := 18) (v := undef) rfl (by kernel_rfl) (by kernel_rfl) (by kernel_rfl) (fun _ _ _ h => h) (.inr ⟨by rfl, rfl⟩) ?_
                      simp only [Act.put, List.getElem_toArray, List.getElem_cons_zero, List.getElem_cons_succ, List.setIfInBounds_toArray, List.set_cons_zero, List.set_cons_succ]
                      refine wpAny_take (i := 19) (v := .bool true) rfl (by kernel_rfl) (by kernel_rfl) (by kernel_rfl) (fun _ _ _ h => h) (.inl ⟨by rfl, fun w => by go_simp⟩) ?_
                      simp only [Act.put, List.getElem_toArray, List.getElem_cons_zero, List.getElem_cons_succ, List.setIfInBounds_toArray, List.set_cons_zero, List.set_cons_succ]
                      refine wpAny_done (by kernel_rfl) ?_ _
                      go_wp2
                      go_ret
                      exact ⟨ret_bool HT.out.symm, HBZ.out.trans (hbu9.mono HBZ.out.size)⟩
                    · go_simp
                      refine hK2 _ _ ?_
                      clear hK2 K2
                      refine wpAny_take (i := 4) (v := .pointer (some ⟨b4, o4 + r * 2, none⟩)) rfl (by kernel_rfl) (by kernel_rfl) (by kernel_rfl) (fun _ _ _ h => h) (.inl ⟨by rfl, fun w => by go_simp⟩) ?_
                      simp only [Act.put, List.getElem_toArray, List.getElem_cons_zero, List.getElem_cons_succ, List.setIfInBounds_toArray, List.set_cons_zero, List.set_cons_succ]
                      refine wpAny_take (i := 5) (v := .pointer (some ⟨b4, o4 + r * 2 + 1, none⟩)) rfl (by kernel_rfl) (by kernel_rfl) (by kernel_rfl) (fun _ _ _ h => h) (.inl ⟨by rfl, fun w => by go_simp⟩) ?_
                      simp only [Act.put, List.getElem_toArray, List.getElem_cons_zero, List.getElem_cons_succ, List.setIfInBounds_toArray, List.set_cons_zero, List.set_cons_succ]
                      refine wpAny_ready (rs := [0, 6]) (by kernel_rfl) (by simp) ?_
                      refine AllReady.cons rfl (fun K2 hK2 => ?_) (AllReady.cons rfl (fun K2 hK2 => ?_) (AllReady.nil))
                      · go_simp
                        refine hK2 _ _ ?_
                        clear hK2 K2
                        refine wpAny_ready (rs := [6]) (by kernel_rfl) (by simp) ?_
                        refine AllReady.cons rfl (fun K2 hK2 => ?_) (AllReady.nil)
                        go_simp
                        refine hK2 _ _ ?_
                        clear hK2 K2
                        refine wpAny_ready (rs := [7]) (by kernel_rfl) (by simp) ?_
                        refine AllReady.cons rfl (fun K2 hK2 => ?_) (AllReady.nil)
                        go_simp
                        go_at_call 71
                        refine (HLA.out _).mono ?_
                        rintro ee wu ⟨rfl, hbu⟩
                        have hbu9 : Below wr.heap.size wr wu := below_undrew hbu
                        refine hK2 _ _ ?_
                        clear hK2 K2
                        refine wpAny_take (i := 8) (v := .bool true) rfl (by kernel_rfl) (by kernel_rfl) (by kernel_rfl) (fun _ _ _ h => h) (.inl ⟨by rfl, fun w => by go_simp⟩) ?_
                        simp only [Act.put, List.getElem_toArray, List.getElem_cons_zero, List.getElem_cons_succ, List.setIfInBounds_toArray, List.set_cons_zero, List.set_cons_succ]
                        refine wpAny_take (i := 9) (v := .bool true) rfl (by kernel_rfl) (by kernel_rfl) (by kernel_rfl) (fun _ _ _ h => h) (.inl ⟨by rfl, fun w => by go_simp⟩) ?_
                        simp only [Act.put, List.getElem_toArray, List.getElem_cons_zero, List.getElem_cons_succ, List.setIfInBounds_toArray, List.set_cons_zero, List.set_cons_succ]
                        refine wpAny_take (i := 10) (v := undef) rfl (by kernel_rfl) (by kernel_rfl) (by kernel_rfl) (fun _ _ _ h => h) (.inr ⟨by rfl, rfl⟩) ?_
                        simp only [Act.put, List.getElem_toArray, List.getElem_cons_zero, List.getElem_cons_succ, List.setIfInBounds_toArray, List.set_cons_zero, List.set_cons_succ]
                        refine wpAny_take (i := 11) (v := undef) rfl (by kernel_rfl) (by kernel_rfl) (by kernel_rfl) (fun _ _ _ h => h) (.inr ⟨by rfl, rfl⟩) ?_
                        simp only [Act.put, List.getElem_toArray, List.getElem_cons_zero, List.getElem_cons_succ, List.setIfInBounds_toArray, List.set_cons_zero, List.set_cons_succ]
                        refine wpAny_take (i := 12) (v := undef) rfl (by kernel_rfl) (by kernel_rfl) (by kernel_rfl) (fun _ _ _ h => h) (.inr ⟨by rfl, rfl⟩) ?_
                        simp only [Act.put, List.getElem_toArray, List.getElem_cons_zero, List.getElem_cons_succ, List.setIfInBounds_toArray, List.set_cons_zero, List.set_cons_succ]
                        refine wpAny_take (i := 13) (v := undef) rfl (by kernel_rfl) (by kernel_rfl) (by kernel_rfl) (fun _ _ _ h => h) (.inr ⟨by rfl, rfl⟩) ?_
                        simp only [Act.put, List.getElem_toArray, List.getElem_cons_zero, List.getElem_cons_succ, List.setIfInBounds_toArray, List.set_cons_zero, List.set_cons_succ]
                        refine wpAny_take (i := 14) (v := undef) rfl (by kernel_rfl) (by kernel_rfl) (by kernel_rfl) (fun _ _ _ h => h) (.inr ⟨by rfl, rfl⟩) ?_
                        simp only [Act.put, List.getElem_toArray, List.getElem_cons_zero, List.getElem_cons_succ, List.setIfInBounds_toArray, List.set_cons_zero, List.set_cons_succ]
                        refine wpAny_take (i := 15) (v := undef) rfl (by kernel_rfl) (by kernel_rfl) (by kernel_rfl) (fun _ _ _ h => h) (.inr ⟨by rfl, rfl⟩) ?_
                        simp only [Act.put, List.getElem_toArray, List.getElem_cons_zero, List.getElem_cons_succ, List.setIfInBounds_toArray, List.set_cons_zero, List.set_cons_succ]
                        refine wpAny_take (i := 16) (v := undef) rfl (by kernel_rfl) (by kernel_rfl) (by kernel_rfl) (fun _ _ _ h => h) (.inr ⟨by rfl, rfl⟩) ?_
                        simp only [Act.put, List.getElem_toArray, List.getElem_cons_zero, List.getElem_cons_succ, List.setIfInBounds_toArray, List.set_cons_zero, List.set_cons_succ]
                        refine wpAny_take (i := 17) (v := undef) rfl (by kernel_rfl) (by kernel_rfl) (by kernel_rfl) (fun _ _ _ h => h) (.inr ⟨by rfl, rfl⟩) ?_
                        simp only [Act.put, List.getElem_toArray, List.getElem_cons_zero, List.getElem_cons_succ, List.setIfInBounds_toArray, List.set_cons_zero, List.set_cons_succ]
                        refine wpAny_take (i := 18) (v := undef) rfl (by kernel_rfl) (by kernel_rfl) (by kernel_rfl) (fun _ _ _ h => h) (.inr ⟨by rfl, rfl⟩) ?_
                        simp only [Act.put, List.getElem_toArray, List.getElem_cons_zero, List.getElem_cons_succ, List.setIfInBounds_toArray, List.set_cons_zero, List.set_cons_succ]
                        refine wpAny_take (i := 19) (v := .bool true) rfl (by kernel_rfl) (by kernel_rfl) (by kernel_rfl) (fun _ _ _ h => h) (.inl ⟨by rfl, fun w => by go_simp⟩) ?_
                        simp only [Act.put, List.getElem_toArray, List.getElem_cons_zero, List.getElem_cons_succ, List.setIfInBounds_toArray, List.set_cons_zero, List.set_cons_succ]
                        refine wpAny_done (by kernel_rfl) ?_ _
                        go_wp2
                        go_ret
                        exact ⟨ret_bool HT.out.symm, HBZ.out.trans (hbu9.mono HBZ.out.size)⟩
                      · go_simp
                        refine hK2 _ _ ?_
                        clear hK2 K2
                        refine wpAny_ready (rs := [0]) (by kernel_rfl) (by simp) ?_
                        refine AllReady.cons rfl (fun K2 hK2 => ?_) (AllReady.nil)
                        go_simp
                        refine hK2 _ _ ?_
                        clear hK2 K2
                        refine wpAny_ready (rs := [7]) (by kernel_rfl) (by simp) ?_
                        refine AllReady.cons rfl (fun K2 hK2 => ?_) (AllReady.nil)
                        go_simp
                        go_at_call 71
                        refine (HLA.out _).mono ?_
                        rintro ee wu ⟨rfl, hbu⟩
                        have hbu9 : Below wr.heap.size wr wu := below_undrew hbu
                        refine hK2 _ _ ?_
                        clear hK2 K2
                        refine wpAny_take (i := 8) (v := .bool true) rfl (by kernel_rfl) (by kernel_rfl) (by kernel_rfl) (fun _ _ _ h => h) (.inl ⟨by rfl, fun w => by go_simp⟩) ?_
                        simp only [Act.put, List.getElem_toArray, List.getElem_cons_zero, List.getElem_cons_succ, List.setIfInBounds_toArray, List.set_cons_zero, List.set_cons_succ]
                        refine wpAny_take (i := 9) (v := .bool true) rfl (by kernel_rfl) (by kernel_rfl) (by kernel_rfl) (fun _ _ _ h => h) (.inl ⟨by rfl, fun w => by go_simp⟩) ?_
                        simp only [Act.put, List.getElem_toArray, List.getElem_cons_zero, List.getElem_cons_succ, List.setIfInBounds_toArray, List.set_cons_zero, List.set_cons_succ]
                        refine wpAny_take (i := 10) (v := undef) rfl (by kernel_rfl) (by kernel_rfl) (by kernel_rfl) (fun _ _ _ h => h) (.inr ⟨by rfl, rfl⟩) ?_
                        simp only [Act.put, List.getElem_toArray, List.getElem_cons_zero, List.getElem_cons_succ, List.setIfInBounds_toArray, List.set_cons_zero, List.set_cons_succ]
                        refine wpAny_take (i := 11) (v := undef) rfl (by kernel_rfl) (by kernel_rfl) (by kernel_rfl) (fun _ _ _ h => h) (.inr ⟨by rfl, rfl⟩) ?_
                        simp only [Act.put, List.getElem_toArray, List.getElem_cons_zero, List.getElem_cons_succ, List.setIfInBounds_toArray, List.set_cons_zero, List.set_cons_succ]
                        refine wpAny_take (i := 12) (v := undef) rfl (by kernel_rfl) (by kernel_rfl) (by kernel_rfl) (fun _ _ _ h => h) (.inr ⟨by rfl, rfl⟩) ?_
                        simp only [Act.put, List.getElem_toArray, List.getElem_cons_zero, List.getElem_cons_succ, List.setIfInBounds_toArray, List.set_cons_zero, List.set_cons_succ]
                        refine wpAny_take (i := 13) (v := undef) rfl (by kernel_rfl) (by kernel_rfl) (by kernel_rfl) (fun _ _ _ h => h) (.inr ⟨by rfl, rfl⟩) ?_
                        simp only [Act.put, List.getElem_toArray, List.getElem_cons_zero, List.getElem_cons_succ, List.setIfInBounds_toArray, List.set_cons_zero, List.set_cons_succ]
                        refine wpAny_take (i := 14) (v := undef) rfl (by kernel_rfl) (by kernel_rfl) (by kernel_rfl) (fun _ _ _ h => h) (.inr ⟨by rfl, rfl⟩) ?_
                        simp only [Act.put, List.getElem_toArray, List.getElem_cons_zero, List.getElem_cons_succ, List.setIfInBounds_toArray, List.set_cons_zero, List.set_cons_succ]
                        refine wpAny_take (i := 15) (v := undef) rfl (by kernel_rfl) (by kernel_rfl) (by kernel_rfl) (fun _ _ _ h => h) (.inr ⟨by rfl, rfl⟩) ?_
                        simp only [Act.put, List.getElem_toArray, List.getElem_cons_zero, List.getElem_cons_succ, List.setIfInBounds_toArray, List.set_cons_zero, List.set_cons_succ]
                        refine wpAny_take (i := 16) (v := undef) rfl (by kernel_rfl) (by kernel_rfl) (by kernel_rfl) (fun _ _ _ h => h) (.inr ⟨by rfl, rfl⟩) ?_
                        simp only [Act.put, List.getElem_toArray, List.getElem_cons_zero, List.getElem_cons_succ, List.setIfInBounds_toArray, List.set_cons_zero, List.set_cons_succ]
                        refine wpAny_take (i := 17) (v := undef) rfl (by kernel_rfl) (by kernel_rfl) (by kernel_rfl) (fun _ _ _ h => h) (.inr ⟨by rfl, rfl⟩) ?_
                        simp only [Act.put, List.getElem_toArray, List.getElem_cons_zero, List.getElem_cons_succ, List.setIfInBounds_toArray, List.set_cons_zero, List.set_cons_succ]
                        refine wpAny_take (i := 18) (v := undef) rfl (by kernel_rfl) (by kernel_rfl) (by kernel_rfl) (fun _ _ _ h => h) (.inr ⟨by rfl, rfl⟩) ?_
                        simp only [Act.put, List.getElem_toArray, List.getElem_cons_zero, List.getElem_cons_succ, List.setIfInBounds_toArray, List.set_cons_zero, List.set_cons_succ]
                        refine wpAny_take (i := 19) (v := .bool true) rfl (by kernel_rfl) (by kernel_rfl) (by kernel_rfl) (fun _ _ _ h => h) (.inl ⟨by rfl, fun w => by go_simp⟩) ?_
                        simp only [Act.put, List.getElem_toArray, List.getElem_cons_zero, List.getElem_cons_succ, List.setIfInBounds_toArray, List.set_cons_zero, List.set_cons_succ]
                        refine wpAny_done (by kernel_rfl) ?_ _
                        go_wp2
                        go_ret
                        exact ⟨ret_bool HT.out.symm, HBZ.out.trans (hbu9.mono HBZ.out.size)⟩
                  | true =>
                  rw [h1] at HLA
                  by_cases h2 : t.addr = srv
                  · have HT : Hid (ans = false) := HBADR.out (by rw [HRO.out, h1, decide_eq_true h2]; rfl)
                    have hz : (t.addr == srv) = true := by simpa using h2
                    clear h1 h2 HD HE2 HA HE
                    go_wp2_with fail
                    go_region_held3 (fun W => W.cell? ⟨gg, 0, none⟩ = some (.int .i64 s.base) ∧ W.cell? ⟨gg, 1, none⟩ = some (.int .i64 s.bits) ∧ W.cell? ⟨gg, 2, none⟩ = some (.slice s.pA j s.pc) ∧ W.cell? ⟨gg, 3, none⟩ = some (.slice (some ⟨b4, o4, none⟩) rn s.rc) ∧ W.cell? ⟨gg, 4, none⟩ = some (.int .i64 s.iface) ∧ W.cell? ⟨gg, 5, none⟩ = some (.int .i64 s.router) ∧ W.cell? ⟨gg, 6, none⟩ = some (.int .i64 s.time) ∧ W.cell? ⟨b4, o4 + r * 2 + 1, none⟩ = some (.int .i64 t.addr) ∧ W.cell? ⟨w.heap.size, 0, none⟩ = some (.int .i64 srv))
                      (first
                        | exact K.out _ (Below.refl _ _)
                        | exact K.out _ (Below.refl _ _).drew
                        | exact K.out _ hbu9)
                      ((go_simp; go_at_call 71; (with_reducible refine (HLA.out _).mono ?_); rintro ee wu ⟨rfl, hbu⟩; have hbu9 : Below wr.heap.size wr wu := below_undrew hbu))
                    all_goals (
                      go_wp2
                      go_ret
                      exact ⟨ret_bool HT.out.symm, HBZ.out.trans (hbu9.mono HBZ.out.size)⟩)
                  · have HT : Hid ((s.res.take (r + 1)).all (resO srv s.s) = true) := HNXR.out (by rw [HRO.out, h1, decide_eq_false h2]; rfl)
                    have hz : (t.addr == srv) = false := by simpa using h2
                    clear h1 h2
                    go_wp2_with fail
                    go_region_held3 (fun W => W.cell? ⟨gg, 0, none⟩ = some (.int .i64 s.base) ∧ W.cell? ⟨gg, 1, none⟩ = some (.int .i64 s.bits) ∧ W.cell? ⟨gg, 2, none⟩ = some (.slice s.pA j s.pc) ∧ W.cell? ⟨gg, 3, none⟩ = some (.slice (some ⟨b4, o4, none⟩) rn s.rc) ∧ W.cell? ⟨gg, 4, none⟩ = some (.int .i64 s.iface) ∧ W.cell? ⟨gg, 5, none⟩ = some (.int .i64 s.router) ∧ W.cell? ⟨gg, 6, none⟩ = some (.int .i64 s.time) ∧ W.cell? ⟨b4, o4 + r * 2 + 1, none⟩ = some (.int .i64 t.addr) ∧ W.cell? ⟨w.heap.size, 0, none⟩ = some (.int .i64 srv))
                      (first
                        | exact K.out _ (Below.refl _ _)
                        | exact K.out _ (Below.refl _ _).drew
                        | exact K.out _ hbu9)
                      ((go_simp; go_at_call 71; (with_reducible refine (HLA.out _).mono ?_); rintro ee wu ⟨rfl, hbu⟩; have hbu9 : Below wr.heap.size wr wu := below_undrew hbu))
                    all_goals (
                      go_wp2
                      go_roundw
                      case rel => exact ⟨r + 1, by go_num, by omega, HT.out, HB8.out.trans (hbu9.mono HB8.out.size)⟩
                      case measure => simp [intOf]; omega)
                · obtain rfl : r = rn := by omega
                  have HRA : Hid (s.res.all (resO srv s.s) = true) := by rw [← HRN.out] at HE4; rw [List.take_length] at HE4; exact HE4
                  rw [HRA.out, Bool.true_and] at HSN
                  have hrz : ¬ (r : Int) < (r : Int) := by omega
                  clear hlt4 HE4
                  by_cases h1 : s.router = 0
                  · have HT : Hid (((xs.take (k + 1)).all fun s => snO srv s.s) = true) := HNXT.out (by rw [HSN.out, decide_eq_true h1]; rfl)
                    have hz : (s.router == 0) = true := by simpa using h1
                    have hz2 : (s.router != 0) = false := by rw [bne, hz]; rfl
                    clear h1 HD HE2
                    go_wp2
                    go_roundw
                    case rel => exact ⟨k + 1, by go_num, by omega, HT.out, HB5.out.trans (HB8.out.mono HB5.out.size)⟩
                    case measure => simp [intOf]; omega
                  have hz : (s.router == 0) = false := by simpa using h1
                  have hz2 : (s.router != 0) = true := by rw [bne, hz]; rfl
                  cases h2 : hasB s.base s.bits s.router with
                  | false =>
                    have HT : Hid (ans = false) := HBAD.out (by rw [HSN.out, decide_eq_false h1, h2]; rfl)
                    clear h1 HD HE2 HA HE
                    go_wp2_with fail
                    refine (Aw.refHas_any _ _ _ _).mono ?_
                    rintro e w9 ⟨rfl, rfl⟩
                    rw [h2]
                    go_wp2
                    go_ret
                    exact ⟨ret_bool HT.out.symm, HBZ.out⟩
                  | true =>
                    have HT : Hid (((xs.take (k + 1)).all fun s => snO srv s.s) = true) := HNXT.out (by rw [HSN.out, h2, Bool.or_true])
                    clear h1 HD HE2
                    go_wp2_with fail
                    refine (Aw.refHas_any _ _ _ _).mono ?_
                    rintro e w9 ⟨rfl, rfl⟩
                    rw [h2]
                    go_wp2
                    go_roundw
                    case rel => exact ⟨k + 1, by go_num, by omega, HT.out, HB5.out.trans (HB8.out.mono HB5.out.size)⟩
                    case measure => simp [intOf]; omega
        · obtain rfl : k = m := by omega
          have HT : Hid (((ns.take (i + 1)).all fun y => y.xs.all fun s => snO srv s.s) = true) := all_next HA.out HE.out (by
            rw [← HY.out.len, List.take_length] at HE2
            exact HE2.out)
          have hkz : ¬ (k : Int) < (k : Int) := by omega
          clear hlt2 HE2 HE HA
          go_wp2
          go_roundw
          case rel => exact ⟨i + 1, by go_num, by omega, HT.out, HB3.out⟩
          case measure => simp [intOf]; omega
    · obtain rfl : i = n := by omega
      have HT : Hid (ans = true) := by
        show _ = _
        rw [H.out]
        rw [← HL.out, List.take_length] at HE
        exact HE.out
      have hiz : ¬ (i : Int) < (i : Int) := by omega
      clear hlt HE
      go_wp2
      go_ret
      exact ⟨ret_bool HT.out.symm, HBW.out⟩
end Go.Proofs.Ytoilljilndmmfaa.Vw
