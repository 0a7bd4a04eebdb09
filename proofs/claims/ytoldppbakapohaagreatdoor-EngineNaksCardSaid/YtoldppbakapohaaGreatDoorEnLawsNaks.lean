/- The walk of EngineNaks: it returns true, and what was in memory stays. Conditions: the configuration, the leases and the message read; what msg's package-level variables hold (En.ok). -/
import Derived.Test.YtoldppbakapohaaGreatDoorEnA
import Derived.Test.YtoldppbakapohaaGreatDoorVwD
import Derived.Test.YtoldppbakapohaaGreatDoorBwA
import Derived.Test.YtoldppbakapohaaGreatDoorKwA
import Derived.Test.YtoldppbakapohaaGreatDoorPwA
import Derived.Test.YtoldppbakapohaaGreatDoorGwA
import Derived.Test.YtoldppbakapohaaGreatDoorXwC
set_option maxRecDepth 8000
namespace Go.Proofs.YtoldppbakapohaaGreatDoor
open Go.RowKit Tl Co Ms Cf Ad By Rp Ky Rc Ew Jw La Tb Pk Al Cl Eg Ey Ex
open Dw (ba ba_size ba_data ba_list)
open Pw (alloc_more celM_all boxM boxCM small_ms)
open Vw (Cx cel3C)

set_option maxHeartbeats 16000000 in
theorem engineNaks_walk (E : Mw.En) (c : Cx) (A : Option Addr) (n cc : Nat) (l : List L) (x : Mv) (iface now : Int) (w : World) (hE : E.ok w) (hc : c.ok w.heap.size w) (hl : RdLs w.heap.size w A n cc l) (hf : ∀ b ∈ l, Fk b) (hx : x.ok w) :
    Calls Tryz.prog 6 #[c.v, .slice A n cc, x.v, .int .i64 iface, .int .i64 now] w (isTrue w) := by
  obtain ⟨w0, hw0, hc0, hm0, hb0, hs0⟩ := boxCM w c x 29
  have HGR := Lib.hid (great19_any c A n cc w.heap.size l x w0 (hc.below hb0) (hl.below hb0) hb0.size hf (hx.below hb0))
  have KC := Lib.hid (fun W (hW : Below w0.heap.size w0 W) => cel3C (hc0.below hW hc0.lt))
  have KM := Lib.hid (fun W (hW : Below w0.heap.size w0 W) => celM_all (hm0.below hW hm0.lt))
  have KX := Lib.hid (fun W (hW : Below w0.heap.size w0 W) => hm0.below hW hm0.lt)
  have HB0 := Lib.hid hb0
  have HS0 := Lib.hid hs0
  have HB00 := Lib.hid (Below.refl w0.heap.size w0)
  have OC := Lib.hid (fun W (hW : Below w0.heap.size w0 W) => hc.below (tr hb0 hW))
  have OL := Lib.hid (fun W (hW : Below w0.heap.size w0 W) => hl.below (tr hb0 hW))
  have OX := Lib.hid (fun W (hW : Below w0.heap.size w0 W) => hx.below (tr hb0 hW))
  have OE := Lib.hid (fun W (hW : Below w0.heap.size w0 W) => hE.below (tr hb0 hW))
  have OU := Lib.hid (fun W (hW : Below w0.heap.size w0 W) => (tr hb0 hW).size)
  have OF := Lib.hid hf
  have KN := Lib.hid (fun W (hW : Below w0.heap.size w0 W) => knows_yes E W (hE.below (tr hb0 hW)))
  clear hc hl hf hx hE hc0 hm0 hb0 hs0
  cases hg : great19 c.cf l x.mm with
  | true =>
    rw [hg] at HGR
    clear hg
    obtain ⟨v0, v1, v2⟩ := KC.out w0 HB00.out
    obtain ⟨⟨m0, m1, m2, m3, m4, m5, m6⟩, m7, m8, m9, m10, m11, m12⟩ := KM.out w0 HB00.out
    go_enter Tryz.func6, Tryz.ntmps6
    go_upto_region 1 with fail
    rw [← hw0]
    clear hw0
    go_wp2_with fail
    refine HGR.out.mono ?_
    rintro e w1 ⟨rfl, hb1⟩
    have HB1 := Lib.hid hb1
    clear hb1 v0 v1 v2 m0 m1 m2 m3 m4 m5 m6 m7 m8 m9 m10 m11 m12
    go_wp2_with fail
    refine (KN.out w1 HB1.out).mono ?_
    rintro e wz ⟨rfl, hbz⟩
    go_wp2
    go_ret
    exact ⟨rfl, tr HB0.out (tr HB1.out hbz)⟩
  | false =>
  rw [hg] at HGR
  obtain ⟨hg1, hg2⟩ := great19_no hg
  have HS := Lib.hid hg1
  have HSM := Lib.hid (small_ms hg2)
  clear hg hg1 hg2
  have KH := Lib.hid (fun W (hW : Below w0.heap.size w0 W) => Ez.handle_any E c A n cc w.heap.size l x iface now W (OC.out W hW) (OL.out W hW) (OU.out W hW) HS.out (OX.out W hW) OF.out HSM.out (OE.out W hW))
  obtain ⟨v0, v1, v2⟩ := KC.out w0 HB00.out
  obtain ⟨⟨m0, m1, m2, m3, m4, m5, m6⟩, m7, m8, m9, m10, m11, m12⟩ := KM.out w0 HB00.out
  go_enter Tryz.func6, Tryz.ntmps6
  go_upto_region 1 with fail
  rw [← hw0]
  clear hw0
  go_wp2_with fail
  refine HGR.out.mono ?_
  rintro e w1 ⟨rfl, hb1⟩
  have HB1 := Lib.hid hb1
  clear hb1 HGR v0 v1 v2 m0 m1 m2 m3 m4 m5 m6 m7 m8 m9 m10 m11 m12
  have C1 := Lib.hid (fun W (hW : Below w0.heap.size w0 W) => Vw.refCheck_any c w.heap.size W (OC.out W hW) (OU.out W hW) HS.out)
  have C2 := Lib.hid (fun W (hW : Below w0.heap.size w0 W) => Bw.refRight_any A n cc w.heap.size l W (OL.out W hW) (OU.out W hW) OF.out)
  have C4 := Lib.hid (fun W (hW : Below w0.heap.size w0 W) => Kw.refOf_any x W (OX.out W hW))
  have C5 := Lib.hid (fun W (hW : Below w0.heap.size w0 W) => Pw.refSubnet_any c x iface w.heap.size W (OC.out W hW) (OU.out W hW) HS.out (OX.out W hW))
  have C6 := Lib.hid (fun W (hW : Below w0.heap.size w0 W) => Gw.refForeign_any x c.server W (OX.out W hW))
  have HF : Hid (FairE c.cf l x.mm iface now ↔ (checkC c.cf = 0 ∧ rightT l = true ∧ (0 ≤ now ∧ now ≤ 1125899906842624) ∧ rightM x.mm = true ∧ x.op = 1 ∧ (ofK x.mm).2 = 0 ∧ (subnetM c.cf x.mm iface).2.2 = true ∧ foreignL x.mm c.server = false)) := by
    show _ ↔ _
    unfold FairE
    rw [rightM_iff, show rightT l = decide (RightT l) from rfl, decide_eq_true_iff]
    exact Iff.rfl
  obtain ⟨ck, hck⟩ : ∃ ck, checkC c.cf = ck := ⟨_, rfl⟩
  obtain ⟨rt, hrt⟩ : ∃ rt, rightT l = rt := ⟨_, rfl⟩
  obtain ⟨fo, hfo⟩ : ∃ fo, foreignL x.mm c.server = fo := ⟨_, rfl⟩
  rw [hck] at C1
  rw [hrt] at C2
  rw [hfo] at C6
  have HCK := Lib.hid hck
  have HRT := Lib.hid hrt
  have HFO := Lib.hid hfo
  clear hck hrt hfo
  obtain ⟨v0, v1, v2⟩ := KC.out w1 HB1.out
  go_wp2_with fail
  refine (C1.out w1 HB1.out).mono ?_
  rintro e w2 ⟨rfl, hb2⟩
  have HB2 := Lib.hid (tr HB1.out hb2)
  clear hb2 v0 v1 v2
  by_cases hck : ck = 0
  rotate_left
  · have hcb : (ck != 0) = true := by simpa using hck
    clear hck
    go_wp2_with fail
    refine (KN.out w2 HB2.out).mono ?_
    rintro e wz ⟨rfl, hbz⟩
    go_wp2
    go_ret
    exact ⟨rfl, tr HB0.out (tr HB2.out hbz)⟩
  have HCK0 := Lib.hid hck
  have hcb : (ck != 0) = false := by simp [hck]
  clear hck
  go_wp2_with fail
  refine (C2.out w2 HB2.out).mono ?_
  rintro e w3 ⟨rfl, hb3⟩
  have HB3 := Lib.hid (tr HB2.out hb3)
  clear hb3
  cases rt with
  | false =>
    go_wp2_with fail
    refine (KN.out w3 HB3.out).mono ?_
    rintro e wz ⟨rfl, hbz⟩
    go_wp2
    go_ret
    exact ⟨rfl, tr HB0.out (tr HB3.out hbz)⟩
  | true =>
  by_cases hn0 : now < 0
  · go_wp2_with fail
    refine (KN.out w3 HB3.out).mono ?_
    rintro e wz ⟨rfl, hbz⟩
    go_wp2
    go_ret
    exact ⟨rfl, tr HB0.out (tr HB3.out hbz)⟩
  by_cases hn1 : 1125899906842624 < now
  · go_wp2_with fail
    refine (KN.out w3 HB3.out).mono ?_
    rintro e wz ⟨rfl, hbz⟩
    go_wp2
    go_ret
    exact ⟨rfl, tr HB0.out (tr HB3.out hbz)⟩
  have HNW : Hid (0 ≤ now ∧ now ≤ 1125899906842624) := ⟨by omega, by omega⟩
  obtain ⟨⟨m0, m1, m2, m3, m4, m5, m6⟩, m7, m8, m9, m10, m11, m12⟩ := KM.out w3 HB3.out
  by_cases hop : x.op = 1
  rotate_left
  · have hob : (x.op != 1) = true := by simpa using hop
    clear hop
    go_wp2_with fail
    refine (KN.out w3 HB3.out).mono ?_
    rintro e wz ⟨rfl, hbz⟩
    go_wp2
    go_ret
    exact ⟨rfl, tr HB0.out (tr HB3.out hbz)⟩
  have HOP := Lib.hid hop
  have hob : (x.op != 1) = false := by simp [hop]
  clear hop
  go_wp2_with fail
  refine (Mw.as_msg x w3).mono ?_
  rintro e w4 ⟨rfl, hb4⟩
  obtain ⟨w5, hw5⟩ : ∃ w5, w5 = w4.alloc (.cells x.cells 40) := ⟨_, rfl⟩
  have HX5 := Lib.hid (show Cel w5 w4.heap.size 40 x.cells by rw [hw5]; exact Cel.born _ _ _)
  have HB5 := Lib.hid (show Below w0.heap.size w0 w5 by rw [hw5]; exact tr (tr HB3.out hb4) (alloc_more _ _))
  clear hb4 hob hn0 hn1 m0 m1 m2 m3 m4 m5 m6 m7 m8 m9 m10 m11 m12
  go_upto_region 4 with fail
  rw [← hw5]
  clear hw5
  obtain ⟨xb, hxb⟩ : ∃ xb, xb = w4.heap.size := ⟨_, rfl⟩
  rw [← hxb] at HX5
  rw [← hxb]
  clear hxb
  have KB := Lib.hid (fun W (hW : Below w5.heap.size w5 W) => celM_all (HX5.out.below hW HX5.out.lt))
  have C4 := Lib.hid (fun W (hW : Below w5.heap.size w5 W) => C4.out W (tr HB5.out hW))
  have C5 := Lib.hid (fun W (hW : Below w5.heap.size w5 W) => C5.out W (tr HB5.out hW))
  have C6 := Lib.hid (fun W (hW : Below w5.heap.size w5 W) => C6.out W (tr HB5.out hW))
  have KC := Lib.hid (fun W (hW : Below w5.heap.size w5 W) => KC.out W (tr HB5.out hW))
  have KM := Lib.hid (fun W (hW : Below w5.heap.size w5 W) => KM.out W (tr HB5.out hW))
  have KX := Lib.hid (fun W (hW : Below w5.heap.size w5 W) => KX.out W (tr HB5.out hW))
  have OC := Lib.hid (fun W (hW : Below w5.heap.size w5 W) => OC.out W (tr HB5.out hW))
  have OL := Lib.hid (fun W (hW : Below w5.heap.size w5 W) => OL.out W (tr HB5.out hW))
  have OX := Lib.hid (fun W (hW : Below w5.heap.size w5 W) => OX.out W (tr HB5.out hW))
  have OE := Lib.hid (fun W (hW : Below w5.heap.size w5 W) => OE.out W (tr HB5.out hW))
  have OU := Lib.hid (fun W (hW : Below w5.heap.size w5 W) => OU.out W (tr HB5.out hW))
  have KN := Lib.hid (fun W (hW : Below w5.heap.size w5 W) => KN.out W (tr HB5.out hW))
  have KH := Lib.hid (fun W (hW : Below w5.heap.size w5 W) => KH.out W (tr HB5.out hW))
  have HB0 := Lib.hid (tr HB0.out HB5.out)
  have HB5 := Lib.hid (Below.refl w5.heap.size w5)
  obtain ⟨ke, hke⟩ : ∃ ke, (ofK x.mm).2 = ke := ⟨_, rfl⟩
  obtain ⟨sn, hsn⟩ : ∃ sn, subnetM c.cf x.mm iface = sn := ⟨_, rfl⟩
  rw [hsn] at C5
  have HKK := Lib.hid hke
  have HSN := Lib.hid hsn
  clear hke hsn
  obtain ⟨s1, s2, s3⟩ := sn
  obtain ⟨⟨m0, m1, m2, m3, m4, m5, m6⟩, m7, m8, m9, m10, m11, m12⟩ := KB.out w5 HB5.out
  go_wp2_with fail
  refine (C4.out w5 HB5.out).mono ?_
  rintro e w6 ⟨kq, rfl, _, hb6⟩
  rw [HKK.out]
  have HB6 := Lib.hid (tr HB5.out hb6)
  clear hb6 m0 m1 m2 m3 m4 m5 m6 m7 m8 m9 m10 m11 m12
  obtain ⟨v0, v1, v2⟩ := KC.out w6 HB6.out
  obtain ⟨⟨m0, m1, m2, m3, m4, m5, m6⟩, m7, m8, m9, m10, m11, m12⟩ := KB.out w6 HB6.out
  go_wp2_with fail
  refine (C5.out w6 HB6.out).mono ?_
  rintro e w7 ⟨rfl, hb7⟩
  have HB7 := Lib.hid (tr HB6.out hb7)
  clear hb7 v0 v1 v2 m0 m1 m2 m3 m4 m5 m6 m7 m8 m9 m10 m11 m12
  by_cases hke : ke = 0
  rotate_left
  · have hkb : (ke != 0) = true := by simpa using hke
    clear hke
    go_wp2_with fail
    refine (KN.out w7 HB7.out).mono ?_
    rintro e wz ⟨rfl, hbz⟩
    go_wp2
    go_ret
    exact ⟨rfl, tr HB0.out (tr HB7.out hbz)⟩
  have HK0 := Lib.hid hke
  have hkb : (ke != 0) = false := by simp [hke]
  clear hke
  cases s3 with
  | false =>
    go_wp2_with fail
    refine (KN.out w7 HB7.out).mono ?_
    rintro e wz ⟨rfl, hbz⟩
    go_wp2
    go_ret
    exact ⟨rfl, tr HB0.out (tr HB7.out hbz)⟩
  | true =>
  obtain ⟨v0, v1, v2⟩ := KC.out w7 HB7.out
  obtain ⟨⟨m0, m1, m2, m3, m4, m5, m6⟩, m7, m8, m9, m10, m11, m12⟩ := KB.out w7 HB7.out
  go_wp2_with fail
  refine (C6.out w7 HB7.out).mono ?_
  rintro e w8 ⟨rfl, hb8⟩
  have HB8 := Lib.hid (tr HB7.out hb8)
  clear hb8 hkb v0 v1 v2 m0 m1 m2 m3 m4 m5 m6 m7 m8 m9 m10 m11 m12
  cases fo with
  | true =>
    go_wp2_with fail
    refine (KN.out w8 HB8.out).mono ?_
    rintro e wz ⟨rfl, hbz⟩
    go_wp2
    go_ret
    exact ⟨rfl, tr HB0.out (tr HB8.out hbz)⟩
  | false =>
  have HK1 : Hid ((ofK x.mm).2 = 0) := HKK.out.trans HK0.out
  have HRM : Hid (rightM x.mm = true) := by
    cases hr : rightM x.mm with
    | true => rfl
    | false =>
      have q := of_wrong (m := x.mm) (fun q => by rw [(rightM_iff x.mm).2 q] at hr; cases hr)
      have q2 := HK1.out
      rw [q] at q2
      exact absurd q2 (by decide)
  have HFE : Hid (FairE c.cf l x.mm iface now) := HF.out.2 ⟨HCK.out.trans HCK0.out, HRT.out, HNW.out, HRM.out, HOP.out, HK1.out, by rw [HSN.out], HFO.out⟩
  clear C1 C2 C4 C5 C6 HF HCK HCK0 HRT HOP HKK HK0
  obtain ⟨v0, v1, v2⟩ := KC.out w8 HB8.out
  obtain ⟨⟨m0, m1, m2, m3, m4, m5, m6⟩, m7, m8, m9, m10, m11, m12⟩ := KM.out w8 HB8.out
  go_wp2_with fail
  refine (KH.out w8 HB8.out).mono ?_
  rintro e w9 ⟨y, rfl, hmp, hya, hb9⟩
  have hal := alloc_more w9 (.cells y.cs 37)
  obtain ⟨w10, hw10⟩ : ∃ w10, w10 = w9.alloc (.cells y.cs 37) := ⟨_, rfl⟩
  have HY := Lib.hid (show Cel w10 w9.heap.size 37 y.cs by rw [hw10]; exact Cel.born _ _ _)
  rw [← hw10] at hal
  have HB10 := Lib.hid (tr (tr HB8.out hb9) hal)
  have HMP := Lib.hid (hmp.below hal)
  have HYA := Lib.hid hya
  clear hmp hya hb9 hal v0 v1 v2 m0 m1 m2 m3 m4 m5 m6 m7 m8 m9 m10 m11 m12
  go_upto_region 9 with (refine wpList_store_row rfl 37 (.tmp 17) (.tmp 79) rfl w9.heap.size y.cs rfl rfl 37 zav (Cel.born w9 37 zav) (by kernel_rfl) rfl (by kernel_rfl) ?_; rw [World.setRow_alloc_new, ← hw10]; clear hw10)
  have KY := Lib.hid (fun W (hW : Below w10.heap.size w10 W) => HY.out.below hW HY.out.lt)
  have OY := Lib.hid (fun W (hW : Below w10.heap.size w10 W) => HMP.out.ok.below hW)
  have HBB := Lib.hid (Below.refl w10.heap.size w10)
  have KC := Lib.hid (fun W (hW : Below w10.heap.size w10 W) => KC.out W (tr HB10.out hW))
  have KM := Lib.hid (fun W (hW : Below w10.heap.size w10 W) => KM.out W (tr HB10.out hW))
  have KX := Lib.hid (fun W (hW : Below w10.heap.size w10 W) => KX.out W (tr HB10.out hW))
  have OC := Lib.hid (fun W (hW : Below w10.heap.size w10 W) => OC.out W (tr HB10.out hW))
  have OL := Lib.hid (fun W (hW : Below w10.heap.size w10 W) => OL.out W (tr HB10.out hW))
  have OX := Lib.hid (fun W (hW : Below w10.heap.size w10 W) => OX.out W (tr HB10.out hW))
  have OE := Lib.hid (fun W (hW : Below w10.heap.size w10 W) => OE.out W (tr HB10.out hW))
  have OU := Lib.hid (fun W (hW : Below w10.heap.size w10 W) => OU.out W (tr HB10.out hW))
  have KN := Lib.hid (fun W (hW : Below w10.heap.size w10 W) => KN.out W (tr HB10.out hW))
  have KH := Lib.hid (fun W (hW : Below w10.heap.size w10 W) => KH.out W (tr HB10.out hW))
  have KB := Lib.hid (fun W (hW : Below w10.heap.size w10 W) => KB.out W (tr HB10.out hW))
  have HB0 := Lib.hid (tr HB0.out HB10.out)
  have HB10 := Lib.hid (Below.refl w10.heap.size w10)
  have HSE : Hid ((handleE c.cf l x.mm iface now).send = y.send) := by show _ = _; rw [← HYA.out]; rfl
  have HKE : Hid ((handleE c.cf l x.mm iface now).keep = y.keep) := by show _ = _; rw [← HYA.out]; rfl
  have HYI : Hid ((handleE c.cf l x.mm iface now).reply.yi = y.x.yi) := by show _ = _; rw [← HYA.out]; rfl
  have HLE : Hid ((handleE c.cf l x.mm iface now).lease = y.l) := by show _ = _; rw [← HYA.out]; rfl
  have HOS : Hid ((handleE c.cf l x.mm iface now).reply.os = osP y.x.ps) := by show _ = _; rw [← HYA.out]; rfl
  obtain ⟨kd, hkd⟩ : ∃ kd, Ow.kindL (osP x.ps) = kd := ⟨_, rfl⟩
  have CK := Lib.hid (fun W (hW : Below w10.heap.size w10 W) => Ow.refKind_any x.B x.m x.d x.ps W (OX.out W hW).os)
  rw [hkd] at CK
  have HKD : Hid (kindE x.mm.os = kd) := hkd
  obtain ⟨rk, hrk⟩ : ∃ rk, Ow.kindL (osP y.x.ps) = rk := ⟨_, rfl⟩
  have CY := Lib.hid (fun W (hW : Below w10.heap.size w10 W) => Ow.refKind_any y.x.B y.x.m y.x.d y.x.ps W (OY.out W hW).os)
  rw [hrk] at CY
  have HRK : Hid (kindE (handleE c.cf l x.mm iface now).reply.os = rk) := by show _ = _; rw [HOS.out]; exact hrk
  clear hkd hrk
  simp only [Act.put]
  go_cut [87] from 80 to 87 (fun v wx => v = .bool false ∧ wx = w10)
  case first =>
    obtain ⟨⟨_, y1, _, _, _, _, _, _, _, _, _, _, _, _, _, _, _, _, _, _, _, _⟩, _⟩ := cells22 (KY.out w10 HBB.out)
    cases hkp : y.keep with
    | false =>
      rw [hkp] at y1
      clear hkp
      go_wp2_with fail
      go_meet
      exact ⟨rfl, rfl⟩
    | true =>
      have hk8 : kd ≠ 8 := fun q => by
        have z := inform_keeps (c := c.cf) (t := l) (iface := iface) (now := now) (HKD.out.trans q)
        rw [HKE.out, hkp] at z
        cases z
      rw [hkp] at y1
      have hk8b : (kd == 8) = false := by simpa using hk8
      clear hkp hk8
      obtain ⟨⟨m0, m1, m2, m3, m4, m5, m6⟩, m7, m8, m9, m10, m11, m12⟩ := KM.out w10 HBB.out
      go_wp2_with fail
      refine (CK.out w10 HBB.out).mono ?_
      rintro e w11 ⟨rfl, rfl⟩
      go_wp2_with fail
      go_meet
      exact ⟨rfl, rfl⟩
  case rest =>
  obtain ⟨rfl, hww⟩ := hcut
  obtain rfl := hww.symm
  obtain ⟨gv, hgv⟩ : ∃ gv, gv = (decide (kd = 8) && decide (x.ci ≠ 0)) := ⟨_, rfl⟩
  have HGV := Lib.hid hgv
  clear hgv
  go_upto_region 11 with fail
  go_cut [96] from 88 to 96 (fun v wx => v = .bool gv ∧ wx = w10)
  case first =>
    obtain ⟨⟨m0, m1, m2, m3, m4, m5, m6⟩, m7, m8, m9, m10, m11, m12⟩ := KM.out w10 HBB.out
    go_wp2_with fail
    refine (CK.out w10 HBB.out).mono ?_
    rintro e w11 ⟨rfl, rfl⟩
    by_cases h8 : kd = 8
    · subst h8
      by_cases hc : x.ci = 0
      · obtain rfl : gv = false := by rw [HGV.out, hc]; rfl
        have hcb : (x.ci != 0) = false := by simp [hc]
        clear hc
        go_wp2_with fail
        go_meet
        exact ⟨rfl, rfl⟩
      · obtain rfl : gv = true := by rw [HGV.out, decide_eq_true hc]; rfl
        have hcb : (x.ci != 0) = true := by simpa using hc
        clear hc
        go_wp2_with fail
        go_meet
        exact ⟨rfl, rfl⟩
    · obtain rfl : gv = false := by rw [HGV.out, decide_eq_false h8]; rfl
      have h8b : (kd == 8) = false := by simpa using h8
      clear h8
      go_wp2_with fail
      go_meet
      exact ⟨rfl, rfl⟩
  case rest =>
  obtain ⟨rfl, hww⟩ := hcut
  obtain rfl := hww.symm
  cases gv with
  | true =>
    have h8 : kd = 8 ∧ x.ci ≠ 0 := by
      have q := HGV.out.symm
      rw [Bool.and_eq_true, decide_eq_true_iff, decide_eq_true_iff] at q
      exact q
    have HIT := Lib.hid (inform_told HFE.out (HKD.out.trans h8.1) h8.2)
    have HST := Lib.hid (sent_told c.cf (subnetM c.cf x.mm iface).1 (subnetM c.cf x.mm iface).2.1 x.mm (kind := 5) 0 (.inr (.inl rfl)))
    have HY1 : Hid (y.send = true) := by show _ = _; rw [← HSE.out, HIT.out]; exact HST.out.1
    have HY2 : Hid (y.x.yi = 0) := by show _ = _; rw [← HYI.out, HIT.out]; exact HST.out.2.2.2
    have HY3 : Hid (rk = 5) := by show _ = _; rw [← HRK.out, HIT.out]; exact HST.out.2.2.1
    obtain ⟨⟨y0, _, _, _, _, _, _, _, _, _, y10, _, _, _, y14, _, _, _, _, _, _, _⟩, _⟩ := cells22 (KY.out w10 HBB.out)
    rw [HY1.out] at y0
    rw [HY2.out] at y10
    rw [HY3.out] at CY
    clear h8
    go_wp2_with fail
    refine (CY.out w10 HBB.out).mono ?_
    rintro e w12 ⟨rfl, rfl⟩
    go_wp2_with fail
    refine (KN.out w10 HBB.out).mono ?_
    rintro e wz ⟨rfl, hbz⟩
    go_wp2
    go_ret
    exact ⟨rfl, tr HB0.out (tr HBB.out hbz)⟩
  | false =>
  have C7 := Lib.hid (fun W (hW : Below w10.heap.size w10 W) => Gw.refOf_any x W (OX.out W hW))
  have C8 := Lib.hid (fun W (hW : Below w10.heap.size w10 W) => Gw.refAbout_any x W (OX.out W hW))
  have C9 := Lib.hid (fun W (hW : Below w10.heap.size w10 W) => Xw.refIn_any c s1 (aboutL x.mm) w.heap.size W (OC.out W hW) (OU.out W hW) HS.out)
  obtain ⟨cl, hcl⟩ : ∃ cl, classL x.mm = cl := ⟨_, rfl⟩
  obtain ⟨inb, hinb⟩ : ∃ inb, inA c.cf s1 (aboutL x.mm) = inb := ⟨_, rfl⟩
  rw [hcl] at C7
  rw [hinb] at C9
  have HCL := Lib.hid hcl
  have HIN := Lib.hid hinb
  clear hcl hinb
  generalize aboutL x.mm = ab at C8 C9
  obtain ⟨r, hr⟩ : ∃ r, r = (decide (cl = 0) || inb) := ⟨_, rfl⟩
  have HR := Lib.hid hr
  clear hr
  have SS := Lib.hid (fun W (hW : Below w10.heap.size w10 W) => And.intro (KC.out W hW) (KB.out W hW))
  go_upto_region 13 with fail
  go_cut [124] from 115 to 124 (fun v wx => v = .bool r ∧ Hid (Below w10.heap.size w10 wx))
  case first =>
    refine wp_region_held_drew (S := fun W => (W.cell? ⟨w.heap.size, 0, none⟩ = some (.int .i64 c.server) ∧ W.cell? ⟨w.heap.size, 1, none⟩ = some (.int .i64 c.prob) ∧ W.cell? ⟨w.heap.size, 2, none⟩ = some (.slice c.A c.n c.c)) ∧ (W.cell? ⟨xb, 0, none⟩ = some (.int .i64 x.op) ∧ W.cell? ⟨xb, 1, none⟩ = some (.int .i64 x.htype) ∧ W.cell? ⟨xb, 2, none⟩ = some (.int .i64 x.hlen) ∧ W.cell? ⟨xb, 3, none⟩ = some (.int .i64 x.hops) ∧ W.cell? ⟨xb, 4, none⟩ = some (.int .i64 x.xid) ∧ W.cell? ⟨xb, 5, none⟩ = some (.int .i64 x.secs) ∧ W.cell? ⟨xb, 6, none⟩ = some (.int .i64 x.flags)) ∧ W.cell? ⟨xb, 7, none⟩ = some (.int .i64 x.ci) ∧ W.cell? ⟨xb, 8, none⟩ = some (.int .i64 x.yi) ∧ W.cell? ⟨xb, 9, none⟩ = some (.int .i64 x.si) ∧ W.cell? ⟨xb, 10, none⟩ = some (.int .i64 x.gi) ∧ W.cell? ⟨xb, 11, none⟩ = some (.slice x.A x.n x.c) ∧ W.cell? ⟨xb, 12, none⟩ = some (.slice x.B x.m x.d)) (by kernel_rfl) (SS.out _ (Below.refl _ _).drew) (fun hHeld => ?_)
    refine wpAnyH_take (i := 0) (v := x.v) rfl (by kernel_rfl) (by kernel_rfl) (by kernel_rfl) (fun _ _ _ h => h) (.inl ⟨by rfl, fun w hSw => by obtain ⟨⟨s0, s1, s2⟩, ⟨t0, t1, t2, t3, t4, t5, t6⟩, t7, t8, t9, t10, t11, t12⟩ := hSw; go_simp⟩) hHeld ?_
    simp only [Act.put, gTo, gZe, sTo, sZe, sSu]
    refine wpAnyH_ready (rs := [1]) (by kernel_rfl) (by simp) ?_
    refine AllReadyH.cons rfl (fun K2 hK2 => ?_) AllReadyH.nil
    go_simp
    go_at_call 26
    refine (C7.out _ (Below.refl _ _).drew).mono ?_
    rintro ee wq1 ⟨rfl, hbu1⟩
    have hbq1 : Below w10.heap.size w10 wq1 := below_undrew hbu1
    refine hK2.out _ _ (SS.out _ hbq1) (fun hHeld => ?_)
    clear hK2 K2
    try simp only [Act.put, gTo, gZe, gSu, sTo, sZe, sSu]
    by_cases hc0 : cl = 0
    · obtain rfl : r = true := by rw [HR.out, decide_eq_true hc0]; rfl
      subst hc0
      refine wpAnyH_take (i := 2) (v := .bool true) rfl (by kernel_rfl) (by kernel_rfl) (by kernel_rfl) (fun _ _ _ h => h) (.inl ⟨by rfl, fun w hSw => by go_simp⟩) hHeld ?_
      simp only [Act.put, gTo, gZe, gSu, sTo, sZe, sSu]
      refine wpAnyH_take (i := 3) (v := .bool true) rfl (by kernel_rfl) (by kernel_rfl) (by kernel_rfl) (fun _ _ _ h => h) (.inl ⟨by rfl, fun w hSw => by go_simp⟩) hHeld ?_
      simp only [Act.put, gTo, gZe, gSu, sTo, sZe, sSu]
      refine wpAnyH_take (i := 4) (v := undef) rfl (by kernel_rfl) (by kernel_rfl) (by kernel_rfl) (fun _ _ _ h => h) (.inr ⟨by rfl, rfl⟩) hHeld ?_
      simp only [Act.put, gTo, gZe, gSu, sTo, sZe, sSu]
      refine wpAnyH_take (i := 5) (v := undef) rfl (by kernel_rfl) (by kernel_rfl) (by kernel_rfl) (fun _ _ _ h => h) (.inr ⟨by rfl, rfl⟩) hHeld ?_
      simp only [Act.put, gTo, gZe, gSu, sTo, sZe, sSu]
      refine wpAnyH_take (i := 6) (v := undef) rfl (by kernel_rfl) (by kernel_rfl) (by kernel_rfl) (fun _ _ _ h => h) (.inr ⟨by rfl, rfl⟩) hHeld ?_
      simp only [Act.put, gTo, gZe, gSu, sTo, sZe, sSu]
      refine wpAnyH_take (i := 7) (v := undef) rfl (by kernel_rfl) (by kernel_rfl) (by kernel_rfl) (fun _ _ _ h => h) (.inr ⟨by rfl, rfl⟩) hHeld ?_
      simp only [Act.put, gTo, gZe, gSu, sTo, sZe, sSu]
      refine wpAnyH_take (i := 8) (v := undef) rfl (by kernel_rfl) (by kernel_rfl) (by kernel_rfl) (fun _ _ _ h => h) (.inr ⟨by rfl, rfl⟩) hHeld ?_
      simp only [Act.put, gTo, gZe, gSu, sTo, sZe, sSu]
      refine wpAnyH_take (i := 9) (v := .bool true) rfl (by kernel_rfl) (by kernel_rfl) (by kernel_rfl) (fun _ _ _ h => h) (.inl ⟨by rfl, fun w hSw => by go_simp⟩) hHeld ?_
      simp only [Act.put, gTo, gZe, gSu, sTo, sZe, sSu]
      refine wpAnyH_done (by kernel_rfl) ?_ _
      go_wp2_with fail
      go_meet
      exact ⟨rfl, Lib.hid hbq1⟩
    · obtain rfl : r = inb := by rw [HR.out, decide_eq_false hc0]; rfl
      have hcb : (cl == 0) = false := by simpa using hc0
      clear hc0
      refine wpAnyH_take (i := 2) (v := .bool false) rfl (by kernel_rfl) (by kernel_rfl) (by kernel_rfl) (fun _ _ _ h => h) (.inl ⟨by rfl, fun w hSw => by go_simp⟩) hHeld ?_
      simp only [Act.put, gTo, gZe, gSu, sTo, sZe, sSu]
      refine wpAnyH_take (i := 3) (v := .bool false) rfl (by kernel_rfl) (by kernel_rfl) (by kernel_rfl) (fun _ _ _ h => h) (.inl ⟨by rfl, fun w hSw => by go_simp⟩) hHeld ?_
      simp only [Act.put, gTo, gZe, gSu, sTo, sZe, sSu]
      refine wpAnyH_take (i := 4) (v := c.v) rfl (by kernel_rfl) (by kernel_rfl) (by kernel_rfl) (fun _ _ _ h => h) (.inl ⟨by rfl, fun w hSw => by obtain ⟨⟨s0, s1, s2⟩, ⟨t0, t1, t2, t3, t4, t5, t6⟩, t7, t8, t9, t10, t11, t12⟩ := hSw; go_simp⟩) hHeld ?_
      simp only [Act.put, gTo, gZe, gSu, sTo, sZe, sSu]
      refine wpAnyH_take (i := 5) (v := .int .i64 s1) rfl (by kernel_rfl) (by kernel_rfl) (by kernel_rfl) (fun _ _ _ h => h) (.inl ⟨by rfl, fun w hSw => by go_simp⟩) hHeld ?_
      simp only [Act.put, gTo, gZe, gSu, sTo, sZe, sSu]
      refine wpAnyH_take (i := 6) (v := x.v) rfl (by kernel_rfl) (by kernel_rfl) (by kernel_rfl) (fun _ _ _ h => h) (.inl ⟨by rfl, fun w hSw => by obtain ⟨⟨s0, s1, s2⟩, ⟨t0, t1, t2, t3, t4, t5, t6⟩, t7, t8, t9, t10, t11, t12⟩ := hSw; go_simp⟩) hHeld ?_
      simp only [Act.put, gTo, gZe, gSu, sTo, sZe, sSu]
      refine wpAnyH_ready (rs := [7]) (by kernel_rfl) (by simp) ?_
      refine AllReadyH.cons rfl (fun K2 hK2 => ?_) AllReadyH.nil
      go_simp
      go_at_call 27
      refine (C8.out _ hbq1).mono ?_
      rintro ee wq2 ⟨rfl, hbu2⟩
      have hbq2 : Below w10.heap.size w10 wq2 := tr hbq1 hbu2
      refine hK2.out _ _ (SS.out _ hbq2) (fun hHeld => ?_)
      clear hK2 K2
      try simp only [Act.put, gTo, gZe, gSu, sTo, sZe, sSu]
      refine wpAnyH_ready (rs := [8]) (by kernel_rfl) (by simp) ?_
      refine AllReadyH.cons rfl (fun K2 hK2 => ?_) AllReadyH.nil
      go_simp
      go_at_call 18
      refine (C9.out _ hbq2).mono ?_
      rintro ee wq3 ⟨rfl, hbu3⟩
      have hbq3 : Below w10.heap.size w10 wq3 := tr hbq2 hbu3
      refine hK2.out _ _ (SS.out _ hbq3) (fun hHeld => ?_)
      clear hK2 K2
      try simp only [Act.put, gTo, gZe, gSu, sTo, sZe, sSu]
      refine wpAnyH_take (i := 9) (v := .bool r) rfl (by kernel_rfl) (by kernel_rfl) (by kernel_rfl) (fun _ _ _ h => h) (.inl ⟨by rfl, fun w hSw => by go_simp⟩) hHeld ?_
      simp only [Act.put, gTo, gZe, gSu, sTo, sZe, sSu]
      refine wpAnyH_done (by kernel_rfl) ?_ _
      go_wp2_with fail
      go_meet
      exact ⟨rfl, Lib.hid hbq3⟩
  case rest =>
  obtain ⟨rfl, HB11⟩ := hcut
  obtain ⟨w11, hww⟩ : ∃ z, z = wc := ⟨_, rfl⟩
  subst hww
  cases r with
  | true =>
    go_wp2_with fail
    refine (KN.out w11 HB11.out).mono ?_
    rintro e wz ⟨rfl, hbz⟩
    go_wp2
    go_ret
    exact ⟨rfl, tr HB0.out (tr HB11.out hbz)⟩
  | false =>
  have hcl0 : cl ≠ 0 := fun q => by
    have z := HR.out
    rw [decide_eq_true q] at z
    cases z
  have hin0 : inb = false := by
    have z := HR.out
    rw [decide_eq_false hcl0, Bool.false_or] at z
    exact z.symm
  have HNT := Lib.hid (nak_told HFE.out (by rw [HCL.out]; exact hcl0) (by rw [HSN.out]; exact HIN.out.trans hin0))
  have HST := Lib.hid (sent_told c.cf (subnetM c.cf x.mm iface).1 (subnetM c.cf x.mm iface).2.1 x.mm (kind := 6) 0 (.inr (.inr rfl)))
  have HY0 : Hid (y.keep = false) := by show _ = _; rw [← HKE.out, HNT.out]; exact HST.out.2.1
  have HY1 : Hid (y.send = true) := by show _ = _; rw [← HSE.out, HNT.out]; exact HST.out.1
  have HY2 : Hid (y.x.yi = 0) := by show _ = _; rw [← HYI.out, HNT.out]; exact HST.out.2.2.2
  have HY3 : Hid (rk = 6) := by show _ = _; rw [← HRK.out, HNT.out]; exact HST.out.2.2.1
  clear hcl0 hin0
  obtain ⟨⟨y0, y1, _, _, _, _, _, _, _, _, y10, _, _, _, y14, _, _, _, _, _, _, _⟩, _⟩ := cells22 (KY.out w11 HB11.out)
  rw [HY1.out] at y0
  rw [HY0.out] at y1
  rw [HY2.out] at y10
  rw [HY3.out] at CY
  go_wp2_with fail
  refine (CY.out w11 HB11.out).mono ?_
  rintro e w12 ⟨rfl, rfl⟩
  go_wp2_with fail
  refine (KN.out w11 HB11.out).mono ?_
  rintro e wz ⟨rfl, hbz⟩
  go_wp2
  go_ret
  exact ⟨rfl, tr HB0.out (tr HB11.out hbz)⟩
end Go.Proofs.YtoldppbakapohaaGreatDoor
