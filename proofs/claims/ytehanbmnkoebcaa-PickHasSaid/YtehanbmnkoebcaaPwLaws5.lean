/- The walk of PickHas: it returns true, and what was in memory stays. Condition: the configuration and the message read. -/
import Derived.Test.YtehanbmnkoebcaaPwKnows
import Derived.Test.YtehanbmnkoebcaaVwE
import Derived.Test.YtehanbmnkoebcaaVwF
set_option maxRecDepth 8000
namespace Go.Proofs.Ytehanbmnkoebcaa
open Go.RowKit Tl Co Ms Ry Cf Ad By Pk Pw
open Vw (Cx FiR cel3C)
open Mw (cels13)
open Vw (Nx Sx RdSx atN atS Seven snsOf netsOf)
/-- Where the subnet lies that is told. -/
theorem there {c : Cx} {m : M} {i a n s : Int} (ht : subnetM c.cf m i = (n, s, true)) (hp : placeM m = (a, true)) :
    ∃ (j k : Nat) (y : Nx) (z : Sx), n = (j : Int) ∧ s = (k : Int) ∧ c.ns[j]? = some y ∧ y.xs[k]? = some z ∧ hasB z.base z.bits a = true := by
  have hr : rightM m = true := by
    cases q : rightM m with
    | true => rfl
    | false => rw [sub_no q] at ht; simp at ht
  rw [sub_at hr hp] at ht
  obtain ⟨j, k, l, x, rfl, rfl, h1, h2, h3⟩ := find_there ht
  have h1' : (netsOf c.ns)[j]? = some l := h1
  unfold netsOf at h1'
  rw [List.getElem?_map] at h1'
  cases hy : c.ns[j]? with
  | none => rw [hy] at h1'; cases h1'
  | some y =>
    rw [hy] at h1'
    have hl : snsOf y.xs = l := by simpa [Nx.l] using h1'
    subst hl
    unfold snsOf at h2
    rw [List.getElem?_map] at h2
    cases hz : y.xs[k]? with
    | none => rw [hz] at h2; cases h2
    | some z =>
      rw [hz] at h2
      have hx : z.s = x := by simpa using h2
      subst hx
      exact ⟨j, k, y, z, rfl, rfl, hy.symm ▸ rfl, hz, h3⟩
theorem hasA_any (b k a : Int) (w : World) : Calls Try.prog 19 #[.int .i64 b, .int .i64 k, .int .i64 a] w (Vw.isB (hasB b k a) w) := (Aw.refHas_any b k a w).mono fun _ _ h => ⟨h.1, h.2 ▸ Below.refl _ _⟩

set_option maxHeartbeats 16000000 in
theorem pickHas_walk (c : Cx) (x : Mv) (i : Int) (w : World) (hc : c.ok w.heap.size w) (h : x.ok w) : Calls Try.prog 6 #[c.v, x.v, .int .i64 i] w (isTrue w) := by
  obtain ⟨w0, hw0, hc0, hm0, hb0, hz⟩ := boxCM w c x 25
  have hx0 := h.below hb0
  have hk0 := hc.below hb0
  have hU0 := hb0.size
  have HG := Lib.hid (Mw.great_msg x w0 hx0)
  have HGC := Lib.hid (fun W (hW : Below w0.heap.size w0 W) => Vw.great_any c w.heap.size W (hk0.below (hW.mono hU0)) (Nat.le_trans hU0 hW.size))
  have HB := Lib.hid hb0
  have HM := Lib.hid hm0
  have HC := Lib.hid hc0
  have HB0 := Lib.hid (Below.refl w0.heap.size w0)
  cases hg : Mw.greatM x.mm with
  | true =>
    rw [hg] at HG
    clear hg hc0 hm0 hb0 h hc hz HGC hx0 hk0 hU0
    go_enter Try.func6, Try.ntmps6
    go_wp2_with fail
    rw [← hw0]
    clear hw0
    refine HG.out.mono ?_
    rintro e w1 ⟨rfl, hb⟩
    have HB1 := Lib.hid hb
    clear hb
    go_wp2_with fail
    refine (Pw.knows_yes _).mono ?_
    rintro e wz ⟨rfl, hbz⟩
    go_wp2
    go_ret
    exact ⟨rfl, HB.out.trans ((HB1).out.trans (hbz.mono (HB1).out.size) |>.mono HB.out.size)⟩
  | false =>
  rw [hg] at HG
  cases hgc : greatC c.cf with
  | true =>
    rw [hgc] at HGC
    clear hg hgc hc0 hm0 hb0 h hc hz hx0 hk0 hU0
    go_enter Try.func6, Try.ntmps6
    go_wp2_with fail
    rw [← hw0]
    clear hw0
    refine HG.out.mono ?_
    rintro e w1 ⟨rfl, hb⟩
    have HB1 := Lib.hid hb
    clear hb
    obtain ⟨x0, x1, x2⟩ := cel3C (HC.out.below HB1.out HC.out.lt)
    go_wp2_with fail
    refine (HGC.out w1 HB1.out).mono ?_
    rintro e w2 ⟨rfl, hb⟩
    have HB2 := Lib.hid (HB1.out.trans (hb.mono HB1.out.size))
    clear hb x0 x1 x2
    go_wp2_with fail
    refine (Pw.knows_yes _).mono ?_
    rintro e wz ⟨rfl, hbz⟩
    go_wp2
    go_ret
    exact ⟨rfl, HB.out.trans ((HB2).out.trans (hbz.mono (HB2).out.size) |>.mono HB.out.size)⟩
  | false =>
  rw [hgc] at HGC
  have hsm := small_ms hg
  have hS := small_iff.1 hgc
  clear hg hgc
  have HP := Lib.hid (fun W (hW : Below w0.heap.size w0 W) => subnet_any c x i w.heap.size W (hk0.below (hW.mono hU0)) (Nat.le_trans hU0 hW.size) hS (hx0.below hW) hsm)
  have HQ := Lib.hid (fun W (hW : Below w0.heap.size w0 W) => place_any x W (hx0.below hW) hsm)
  have HOS := Lib.hid (fun W (hW : Below w0.heap.size w0 W) => (hk0.below (hW.mono hU0)).rd)
  have HTH := Lib.hid (fun a n s => @there c x.mm i a n s)
  have HNO := Lib.hid (@subnet_not c.cf x.mm i)
  have HU := Lib.hid hU0
  generalize subnetM c.cf x.mm i = t at HP HTH HNO
  generalize placeM x.mm = p at HQ HTH
  obtain ⟨t1, t2, t3⟩ := t
  obtain ⟨a, is⟩ := p
  clear hc0 hm0 hb0 h hc hz hx0 hk0 hU0 hS hsm
  cases t3 with
  | false =>
    obtain ⟨rfl, rfl⟩ : t1 = 0 ∧ t2 = 0 := by
      have e := HNO.out rfl
      simp only [Prod.mk.injEq] at e
      exact ⟨e.1, e.2.1⟩
    go_enter Try.func6, Try.ntmps6
    go_wp2_with fail
    rw [← hw0]
    clear hw0
    refine HG.out.mono ?_
    rintro e w1 ⟨rfl, hb⟩
    have HB1 := Lib.hid hb
    clear hb
    obtain ⟨x0, x1, x2⟩ := cel3C (HC.out.below HB1.out HC.out.lt)
    go_wp2_with fail
    refine (HGC.out w1 HB1.out).mono ?_
    rintro e w2 ⟨rfl, hb⟩
    have HB2 := Lib.hid (HB1.out.trans (hb.mono HB1.out.size))
    clear hb x0 x1 x2
    obtain ⟨⟨m0, m1, m2, m3, m4, m5, m6⟩, m7, m8, m9, m10, m11, m12⟩ := celM_all (HM.out.below HB2.out HM.out.lt)
    obtain ⟨x0, x1, x2⟩ := cel3C (HC.out.below HB2.out HC.out.lt)
    go_wp2_with fail
    refine (HP.out w2 HB2.out).mono ?_
    rintro e w3 ⟨rfl, hb⟩
    have HB3 := Lib.hid (HB2.out.trans (hb.mono HB2.out.size))
    clear hb m0 m1 m2 m3 m4 m5 m6 m7 m8 m9 m10 m11 m12 x0 x1 x2
    obtain ⟨⟨m0, m1, m2, m3, m4, m5, m6⟩, m7, m8, m9, m10, m11, m12⟩ := celM_all (HM.out.below HB3.out HM.out.lt)
    go_wp2_with fail
    refine (HQ.out w3 HB3.out).mono ?_
    rintro e w4 ⟨rfl, hb⟩
    have HB4 := Lib.hid (HB3.out.trans (hb.mono HB3.out.size))
    clear hb m0 m1 m2 m3 m4 m5 m6 m7 m8 m9 m10 m11 m12
    go_wp2_with fail
    refine (Pw.knows_yes _).mono ?_
    rintro e wz ⟨rfl, hbz⟩
    go_wp2
    go_ret
    exact ⟨rfl, HB.out.trans ((HB4).out.trans (hbz.mono (HB4).out.size) |>.mono HB.out.size)⟩
  | true =>
  cases is with
  | false =>
    go_enter Try.func6, Try.ntmps6
    go_wp2_with fail
    rw [← hw0]
    clear hw0
    refine HG.out.mono ?_
    rintro e w1 ⟨rfl, hb⟩
    have HB1 := Lib.hid hb
    clear hb
    obtain ⟨x0, x1, x2⟩ := cel3C (HC.out.below HB1.out HC.out.lt)
    go_wp2_with fail
    refine (HGC.out w1 HB1.out).mono ?_
    rintro e w2 ⟨rfl, hb⟩
    have HB2 := Lib.hid (HB1.out.trans (hb.mono HB1.out.size))
    clear hb x0 x1 x2
    obtain ⟨⟨m0, m1, m2, m3, m4, m5, m6⟩, m7, m8, m9, m10, m11, m12⟩ := celM_all (HM.out.below HB2.out HM.out.lt)
    obtain ⟨x0, x1, x2⟩ := cel3C (HC.out.below HB2.out HC.out.lt)
    go_wp2_with fail
    refine (HP.out w2 HB2.out).mono ?_
    rintro e w3 ⟨rfl, hb⟩
    have HB3 := Lib.hid (HB2.out.trans (hb.mono HB2.out.size))
    clear hb m0 m1 m2 m3 m4 m5 m6 m7 m8 m9 m10 m11 m12 x0 x1 x2
    obtain ⟨⟨m0, m1, m2, m3, m4, m5, m6⟩, m7, m8, m9, m10, m11, m12⟩ := celM_all (HM.out.below HB3.out HM.out.lt)
    go_wp2_with fail
    refine (HQ.out w3 HB3.out).mono ?_
    rintro e w4 ⟨rfl, hb⟩
    have HB4 := Lib.hid (HB3.out.trans (hb.mono HB3.out.size))
    clear hb m0 m1 m2 m3 m4 m5 m6 m7 m8 m9 m10 m11 m12
    go_wp2_with fail
    refine (Pw.knows_yes _).mono ?_
    rintro e wz ⟨rfl, hbz⟩
    go_wp2
    go_ret
    exact ⟨rfl, HB.out.trans ((HB4).out.trans (hbz.mono (HB4).out.size) |>.mono HB.out.size)⟩
  | true =>
    obtain ⟨j, k, y, z, rfl, rfl, hj, hk, hh⟩ := HTH.out a t1 t2 rfl rfl
    have HJ := Lib.hid hj
    have HK := Lib.hid hk
    have HH := Lib.hid (hasA_any z.base z.bits a)
    rw [hh] at HH
    clear hj hk hh HTH HNO
    go_enter Try.func6, Try.ntmps6
    go_wp2_with fail
    rw [← hw0]
    clear hw0
    refine HG.out.mono ?_
    rintro e w1 ⟨rfl, hb⟩
    have HB1 := Lib.hid hb
    clear hb
    obtain ⟨x0, x1, x2⟩ := cel3C (HC.out.below HB1.out HC.out.lt)
    go_wp2_with fail
    refine (HGC.out w1 HB1.out).mono ?_
    rintro e w2 ⟨rfl, hb⟩
    have HB2 := Lib.hid (HB1.out.trans (hb.mono HB1.out.size))
    clear hb x0 x1 x2
    obtain ⟨⟨m0, m1, m2, m3, m4, m5, m6⟩, m7, m8, m9, m10, m11, m12⟩ := celM_all (HM.out.below HB2.out HM.out.lt)
    obtain ⟨x0, x1, x2⟩ := cel3C (HC.out.below HB2.out HC.out.lt)
    go_wp2_with fail
    refine (HP.out w2 HB2.out).mono ?_
    rintro e w3 ⟨rfl, hb⟩
    have HB3 := Lib.hid (HB2.out.trans (hb.mono HB2.out.size))
    clear hb m0 m1 m2 m3 m4 m5 m6 m7 m8 m9 m10 m11 m12 x0 x1 x2
    obtain ⟨⟨m0, m1, m2, m3, m4, m5, m6⟩, m7, m8, m9, m10, m11, m12⟩ := celM_all (HM.out.below HB3.out HM.out.lt)
    go_wp2_with fail
    refine (HQ.out w3 HB3.out).mono ?_
    rintro e w4 ⟨rfl, hb⟩
    have HB4 := Lib.hid (HB3.out.trans (hb.mono HB3.out.size))
    clear hb m0 m1 m2 m3 m4 m5 m6 m7 m8 m9 m10 m11 m12
    have hn := HOS.out w4 HB4.out
    have hjn : j < c.n := by
      rw [← hn.len]
      exact (List.getElem?_eq_some_iff.1 HJ.out).1
    obtain ⟨b, o, y2, m, eA, hbU, HY, hrs, hcn⟩ := atN hn hjn
    obtain rfl : y2 = y := by
      have e := HY.out.symm.trans HJ.out
      injection e
    have hkm : k < m := by
      rw [← hrs.len]
      exact (List.getElem?_eq_some_iff.1 HK.out).1
    obtain ⟨b2, o2, z2, pn, rn, eB, hbU2, HZ, hok, _, _, hcs⟩ := atS hrs hkm
    obtain rfl : z2 = z := by
      have e := HZ.out.symm.trans HK.out
      injection e
    obtain ⟨s0, s1, s2, s3, s4, s5, s6⟩ := hcs
    obtain ⟨x0, x1, x2⟩ := cel3C (HC.out.below HB4.out HC.out.lt)
    rw [eA] at x2
    rw [eB] at hcn
    have hj0 : (0 : Int) ≤ (j : Int) := by omega
    have hk0 : (0 : Int) ≤ (k : Int) := by omega
    have hj1 : (j : Int) < (c.n : Int) := by omega
    have hk1 : (k : Int) < (m : Int) := by omega
    clear hn hrs hok eA eB hbU hbU2
    go_wp2_with fail
    refine (HH.out _).mono ?_
    rintro e w5 ⟨rfl, hb⟩
    have HB5 : Hid (Below w0.heap.size w0 w5) := HB4.out.trans (((alloc_more w4 _).trans (hb.mono (alloc_more w4 _).size)).mono HB4.out.size)
    clear hb x0 x1 x2 s0 s1 s2 s3 s4 s5 s6 hcn
    go_wp2_with fail
    refine (Pw.knows_yes _).mono ?_
    rintro e wz ⟨rfl, hbz⟩
    go_wp2
    go_ret
    exact ⟨rfl, HB.out.trans ((HB5).out.trans (hbz.mono (HB5).out.size) |>.mono HB.out.size)⟩
end Go.Proofs.Ytehanbmnkoebcaa
