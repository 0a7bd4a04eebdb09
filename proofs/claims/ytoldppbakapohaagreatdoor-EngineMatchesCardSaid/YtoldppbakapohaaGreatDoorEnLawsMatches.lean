/- The walk of EngineMatches: it returns true, and what was in memory stays. Conditions: the configuration, the leases and the message read; what msg's package-level variables hold (En.ok). -/
import Derived.Test.YtoldppbakapohaaGreatDoorEnA
import Derived.Test.YtoldppbakapohaaGreatDoorEgM
import Derived.Test.YtoldppbakapohaaGreatDoorRpB
import Derived.Test.YtoldppbakapohaaGreatDoorOwA
set_option maxRecDepth 8000
namespace Go.Proofs.YtoldppbakapohaaGreatDoor
open Go.RowKit Tl Co Ms Cf Ad By Rp Ky Rc Ew Jw La Tb Pk Al Cl Eg Ey Ex
open Dw (ba ba_size ba_data ba_list)
open Pw (alloc_more celM_all boxM boxCM small_ms)
open Vw (Cx cel3C)

set_option maxHeartbeats 16000000 in
theorem engineMatches_walk (E : Mw.En) (c : Cx) (A : Option Addr) (n cc : Nat) (l : List L) (x : Mv) (iface now : Int) (w : World) (hE : E.ok w) (hc : c.ok w.heap.size w) (hl : RdLs w.heap.size w A n cc l) (hf : ∀ b ∈ l, Fk b) (hx : x.ok w) :
    Calls Tryz.prog 7 #[c.v, .slice A n cc, x.v, .int .i64 iface, .int .i64 now] w (isTrue w) := by
  obtain ⟨w0, hw0, hc0, hm0, hb0, hs0⟩ := boxCM w c x 29
  have HGR := Lib.hid (great19_any c A n cc w.heap.size l x w0 (hc.below hb0) (hl.below hb0) hb0.size hf (hx.below hb0))
  have KC := Lib.hid (fun W (hW : Below w0.heap.size w0 W) => cel3C (hc0.below hW hc0.lt))
  have KM := Lib.hid (fun W (hW : Below w0.heap.size w0 W) => celM_all (hm0.below hW hm0.lt))
  have KX := Lib.hid (fun W (hW : Below w0.heap.size w0 W) => hm0.below hW hm0.lt)
  have HB0 := Lib.hid hb0
  have HS0 := Lib.hid hs0
  have HB00 := Lib.hid (Below.refl w0.heap.size w0)
  have OC := Lib.hid (fun W (hW : Below w0.heap.size w0 W) => hc.below (tr hb0 hW))
  have OL := Lib.hid (fun W (hW : Below w0.heap.size w0 W) => hl.below (tr hb0 hW))
  have OX := Lib.hid (fun W (hW : Below w0.heap.size w0 W) => hx.below (tr hb0 hW))
  have OE := Lib.hid (fun W (hW : Below w0.heap.size w0 W) => hE.below (tr hb0 hW))
  have OU := Lib.hid (fun W (hW : Below w0.heap.size w0 W) => (tr hb0 hW).size)
  have OF := Lib.hid hf
  have KN := Lib.hid (fun W (hW : Below w0.heap.size w0 W) => knows_yes E W (hE.below (tr hb0 hW)))
  have PC := Lib.hid (fun W (hW : Below w.heap.size w W) => hc.below hW)
  have PL := Lib.hid (fun W (hW : Below w.heap.size w W) => hl.below hW)
  have PX := Lib.hid (fun W (hW : Below w.heap.size w W) => hx.below hW)
  have PE := Lib.hid (fun W (hW : Below w.heap.size w W) => hE.below hW)
  have KCX := Lib.hid (fun W (hW : Below w0.heap.size w0 W) => hc0.below hW hc0.lt)
  clear hc hl hf hx hE hc0 hm0 hb0 hs0
  cases hg : great19 c.cf l x.mm with
  | true =>
    rw [hg] at HGR
    clear hg
    obtain ⟨v0, v1, v2⟩ := KC.out w0 HB00.out
    obtain ⟨⟨m0, m1, m2, m3, m4, m5, m6⟩, m7, m8, m9, m10, m11, m12⟩ := KM.out w0 HB00.out
    go_enter Tryz.func7, Tryz.ntmps7
    go_upto_region 1 with fail
    rw [← hw0]
    clear hw0
    go_wp2_with fail
    refine HGR.out.mono ?_
    rintro e w1 ⟨rfl, hb1⟩
    have HB1 := Lib.hid hb1
    clear hb1 v0 v1 v2 m0 m1 m2 m3 m4 m5 m6 m7 m8 m9 m10 m11 m12
    go_wp2_with fail
    refine (KN.out w1 HB1.out).mono ?_
    rintro e wz ⟨rfl, hbz⟩
    go_wp2
    go_ret
    exact ⟨rfl, tr HB0.out (tr HB1.out hbz)⟩
  | false =>
  rw [hg] at HGR
  obtain ⟨hg1, hg2⟩ := great19_no hg
  have HS := Lib.hid hg1
  have HSM := Lib.hid (small_ms hg2)
  clear hg hg1 hg2
  have KH := Lib.hid (fun W (hW : Below w0.heap.size w0 W) => Ez.handle_any E c A n cc w.heap.size l x iface now W (OC.out W hW) (OL.out W hW) (OU.out W hW) HS.out (OX.out W hW) OF.out HSM.out (OE.out W hW))
  obtain ⟨v0, v1, v2⟩ := KC.out w0 HB00.out
  obtain ⟨⟨m0, m1, m2, m3, m4, m5, m6⟩, m7, m8, m9, m10, m11, m12⟩ := KM.out w0 HB00.out
  go_enter Tryz.func7, Tryz.ntmps7
  go_upto_region 1 with fail
  rw [← hw0]
  clear hw0
  go_wp2_with fail
  refine HGR.out.mono ?_
  rintro e w1 ⟨rfl, hb1⟩
  have HB1 := Lib.hid hb1
  clear hb1 HGR v0 v1 v2 m0 m1 m2 m3 m4 m5 m6 m7 m8 m9 m10 m11 m12
  have CK := Lib.hid (fun W (hW : Below w0.heap.size w0 W) => Ow.refKind_any x.B x.m x.d x.ps W (OX.out W hW).os)
  obtain ⟨kd, hkd⟩ : ∃ kd, Ow.kindL (osP x.ps) = kd := ⟨_, rfl⟩
  rw [hkd] at CK
  have HKD : Hid (kindE x.mm.os = kd) := hkd
  clear hkd
  obtain ⟨⟨m0, m1, m2, m3, m4, m5, m6⟩, m7, m8, m9, m10, m11, m12⟩ := KM.out w1 HB1.out
  go_wp2_with fail
  refine (CK.out w1 HB1.out).mono ?_
  rintro e w2 ⟨rfl, rfl⟩
  by_cases hk1 : kd = 1
  rotate_left
  · have hkb : (kd != 1) = true := by simpa using hk1
    clear hk1
    go_wp2_with fail
    refine (KN.out w1 HB1.out).mono ?_
    rintro e wz ⟨rfl, hbz⟩
    go_wp2
    go_ret
    exact ⟨rfl, tr HB0.out (tr HB1.out hbz)⟩
  subst hk1
  by_cases hn64 : (64 : Int) ≤ (n : Int)
  · go_wp2_with fail
    refine (KN.out w1 HB1.out).mono ?_
    rintro e wz ⟨rfl, hbz⟩
    go_wp2
    go_ret
    exact ⟨rfl, tr HB0.out (tr HB1.out hbz)⟩
  by_cases hm20 : (20 : Int) < (x.m : Int)
  · go_wp2_with fail
    refine (KN.out w1 HB1.out).mono ?_
    rintro e wz ⟨rfl, hbz⟩
    go_wp2
    go_ret
    exact ⟨rfl, tr HB0.out (tr HB1.out hbz)⟩
  have HN64 : Hid (l.length < 64) := by have e := (OL.out w1 HB1.out).len; show _ < _; omega
  have HM20 : Hid ((osP x.ps).length ≤ 20) := by have e := (OX.out w1 HB1.out).os.len; show _ ≤ _; rw [os_len]; omega
  go_upto_region 3 with fail
  clear hn64 hm20 m0 m1 m2 m3 m4 m5 m6 m7 m8 m9 m10 m11 m12 CK
  obtain ⟨v0, v1, v2⟩ := KC.out w1 HB1.out
  obtain ⟨⟨m0, m1, m2, m3, m4, m5, m6⟩, m7, m8, m9, m10, m11, m12⟩ := KM.out w1 HB1.out
  go_wp2_with fail
  refine (KH.out w1 HB1.out).mono ?_
  rintro e w2 ⟨y, rfl, hmp, hya, hb2⟩
  have hal := alloc_more w2 (.cells y.cs 37)
  obtain ⟨w3, hw3⟩ : ∃ w3, w3 = w2.alloc (.cells y.cs 37) := ⟨_, rfl⟩
  have HY := Lib.hid (show Cel w3 w2.heap.size 37 y.cs by rw [hw3]; exact Cel.born _ _ _)
  rw [← hw3] at hal
  have HB3 := Lib.hid (tr (tr HB1.out hb2) hal)
  have HW2S : Hid (w0.heap.size ≤ w2.heap.size) := (tr HB1.out hb2).size
  have HMP := Lib.hid (hmp.below hal)
  have HYA := Lib.hid hya
  clear hmp hya hb2 hal v0 v1 v2 m0 m1 m2 m3 m4 m5 m6 m7 m8 m9 m10 m11 m12
  go_upto_region 4 with (refine wpList_store_row rfl 37 (.tmp 11) (.tmp 44) rfl w2.heap.size y.cs rfl rfl 37 zav (Cel.born w2 37 zav) (by kernel_rfl) rfl (by kernel_rfl) ?_; rw [World.setRow_alloc_new, ← hw3]; clear hw3)
  have KY := Lib.hid (fun W (hW : Below w3.heap.size w3 W) => HY.out.below hW HY.out.lt)
  have OY := Lib.hid (fun W (hW : Below w3.heap.size w3 W) => HMP.out.ok.below hW)
  have HBB := Lib.hid (Below.refl w3.heap.size w3)
  have HW30 : Hid (w.heap.size + 2 ≤ w3.heap.size) := by have e1 := HS0.out; have e2 := HB3.out.size; show _ ≤ _; omega
  have HYW : Hid (w.heap.size + 2 ≤ w2.heap.size) := by have e1 := HS0.out; have e2 := HW2S.out; show _ ≤ _; omega
  have KC := Lib.hid (fun W (hW : Below w3.heap.size w3 W) => KC.out W (tr HB3.out hW))
  have KM := Lib.hid (fun W (hW : Below w3.heap.size w3 W) => KM.out W (tr HB3.out hW))
  have KX := Lib.hid (fun W (hW : Below w3.heap.size w3 W) => KX.out W (tr HB3.out hW))
  have OC := Lib.hid (fun W (hW : Below w3.heap.size w3 W) => OC.out W (tr HB3.out hW))
  have OL := Lib.hid (fun W (hW : Below w3.heap.size w3 W) => OL.out W (tr HB3.out hW))
  have OX := Lib.hid (fun W (hW : Below w3.heap.size w3 W) => OX.out W (tr HB3.out hW))
  have OE := Lib.hid (fun W (hW : Below w3.heap.size w3 W) => OE.out W (tr HB3.out hW))
  have OU := Lib.hid (fun W (hW : Below w3.heap.size w3 W) => OU.out W (tr HB3.out hW))
  have KN := Lib.hid (fun W (hW : Below w3.heap.size w3 W) => KN.out W (tr HB3.out hW))
  have KH := Lib.hid (fun W (hW : Below w3.heap.size w3 W) => KH.out W (tr HB3.out hW))
  have KCX := Lib.hid (fun W (hW : Below w3.heap.size w3 W) => KCX.out W (tr HB3.out hW))
  have HB0 := Lib.hid (tr HB0.out HB3.out)
  have HB3 := Lib.hid (Below.refl w3.heap.size w3)
  have HWS0 : Hid (w.heap.size + 2 ≤ w3.heap.size) := HW30.out
  have HSE : Hid ((handleE c.cf l x.mm iface now).send = y.send) := by show _ = _; rw [← HYA.out]; rfl
  have HKE : Hid ((handleE c.cf l x.mm iface now).keep = y.keep) := by show _ = _; rw [← HYA.out]; rfl
  have HYI : Hid ((handleE c.cf l x.mm iface now).reply.yi = y.x.yi) := by show _ = _; rw [← HYA.out]; rfl
  have HLE : Hid ((handleE c.cf l x.mm iface now).lease = y.l) := by show _ = _; rw [← HYA.out]; rfl
  have HOS : Hid ((handleE c.cf l x.mm iface now).reply.os = osP y.x.ps) := by show _ = _; rw [← HYA.out]; rfl
  cases hsd : y.send with
  | false =>
    obtain ⟨⟨y0, _, _, _, _, _, _, _, _, _, _, _, _, _, _, _, _, _, _, _, _, _⟩, _⟩ := cells22 (KY.out w3 HBB.out)
    rw [hsd] at y0
    clear hsd
    go_wp2_with fail
    refine (KN.out w3 HBB.out).mono ?_
    rintro e wz ⟨rfl, hbz⟩
    go_wp2
    go_ret
    exact ⟨rfl, tr HB0.out (tr HBB.out hbz)⟩
  | true =>
  obtain ⟨⟨y0, _, _, _, _, _, _, _, _, _, _, _, _, _, _, _, _, _, _, _, _, _⟩, _⟩ := cells22 (KY.out w3 HBB.out)
  rw [hsd] at y0
  have HSD : Hid ((handleE c.cf l x.mm iface now).send = true) := HSE.out.trans hsd
  clear hsd
  obtain ⟨⟨m0, m1, m2, m3, m4, m5, m6⟩, m7, m8, m9, m10, m11, m12⟩ := KM.out w3 HBB.out
  by_cases hci : x.ci = 0
  rotate_left
  · have hcb : (x.ci != 0) = true := by simpa using hci
    clear hci
    go_wp2_with fail
    refine (KN.out w3 HBB.out).mono ?_
    rintro e wz ⟨rfl, hbz⟩
    go_wp2
    go_ret
    exact ⟨rfl, tr HB0.out (tr HBB.out hbz)⟩
  have HCI : Hid (x.mm.ci = 0) := hci
  have hcb : (x.ci != 0) = false := by simp [hci]
  have HOF := Lib.hid (offer_is HKD.out HSD.out)
  have HRS : Hid (rightB c.server = true) := HOF.out.2.2.1
  have HRY : Hid (rightB y.x.yi = true) := by show _ = _; rw [← HYI.out]; exact HOF.out.2.2.2
  clear hci
  go_upto_region 6 with fail
  clear y0 hcb m0 m1 m2 m3 m4 m5 m6 m7 m8 m9 m10 m11 m12
  obtain ⟨⟨m0, m1, m2, m3, m4, m5, m6⟩, m7, m8, m9, m10, m11, m12⟩ := KM.out w3 HBB.out
  have S1 := Lib.hid (Ow.set_yes x.B x.m x.d x.ps 53 3 1 w3 (OX.out w3 HBB.out).os (by have e := (OX.out w3 HBB.out).os.len; have e2 := HM20.out; rw [os_len] at e2; omega) HSM.out fair1 (by decide))
  go_wp2_with fail
  refine S1.out.mono ?_
  rintro e w4 ⟨A4, z4, d4, q4, rfl, ho4, how4, hb4⟩
  have HB4 := Lib.hid hb4
  have HQ4 := Lib.hid ho4
  have HW4 := Lib.hid how4
  have HL4 : Hid ((osP q4).length ≤ 21) := by show _ ≤ _; rw [ho4]; have e := set_len (osP x.ps) 53 3 1; have e2 := HM20.out; omega
  have HM4 := Lib.hid (Ow.set_small HSM.out fair1 ho4)
  clear ho4 how4 hb4 S1 m0 m1 m2 m3 m4 m5 m6 m7 m8 m9 m10 m11 m12
  obtain ⟨v0, v1, v2⟩ := KC.out w4 HB4.out
  have S2 := Lib.hid (Ow.set_yes A4 z4 d4 q4 54 c.server 4 w4 HW4.out.rd (by have e := HW4.out.rd.len; have e2 := HL4.out; rw [os_len] at e2; omega) HM4.out (fair4 HRS.out) (by decide))
  go_wp2_with fail
  refine S2.out.mono ?_
  rintro e w5 ⟨A5, z5, d5, q5, rfl, ho5, how5, hb5⟩
  have HB5 := Lib.hid (tr HB4.out hb5)
  have HQ5 := Lib.hid ho5
  have HW5 := Lib.hid how5
  have HL5 : Hid ((osP q5).length ≤ 22) := by show _ ≤ _; rw [ho5]; have e := set_len (osP q4) 54 c.server 4; have e2 := HL4.out; omega
  have HM5 := Lib.hid (Ow.set_small HM4.out (fair4 HRS.out) ho5)
  clear ho5 how5 hb5 S2 v0 v1 v2
  obtain ⟨⟨_, _, _, _, _, _, _, _, _, _, y10, _, _, _, _, _, _, _, _, _, _, _⟩, _⟩ := cells22 (KY.out w5 HB5.out)
  have S3 := Lib.hid (Ow.set_yes A5 z5 d5 q5 50 y.x.yi 4 w5 HW5.out.rd (by have e := HW5.out.rd.len; have e2 := HL5.out; rw [os_len] at e2; omega) HM5.out (fair4 HRY.out) (by decide))
  go_wp2_with fail
  refine S3.out.mono ?_
  rintro e w6 ⟨A6, z6, d6, q6, rfl, ho6, how6, hb6⟩
  have HB6 := Lib.hid (tr HB5.out hb6)
  have HQ6 : Hid (osP q6 = matchO (osP x.ps) c.server y.x.yi) := by show _ = _; rw [ho6, HQ5.out, HQ4.out]; rfl
  have HW6 := Lib.hid (how6.mono HB5.out.size)
  have HM6 := Lib.hid (Ow.set_small HM5.out (fair4 HRY.out) ho6)
  clear ho6 how6 hb6 S3 y10 HQ4 HQ5 HW4 HW5 HM4 HM5 HL4 HL5
  have hm12 := (celM_all (KX.out w6 HB6.out)).2.2.2.2.2.2
  have hmf := Rpw.frz (KX.out w6 HB6.out) 12
  obtain ⟨w7, hw7⟩ : ∃ w7, w7 = w6.setCell ⟨w.heap.size + 1, 12, none⟩ (.slice A6 z6 d6) := ⟨_, rfl⟩
  have HBW := Lib.hid (show Below w.heap.size w w7 by rw [hw7]; exact (tr HB0.out HB6.out).setCell (p := ⟨w.heap.size + 1, 12, none⟩) (Nat.le_add_right _ 1) _)
  have HKX := Lib.hid (show Cel w7 (w.heap.size + 1) 29 (Mw.withO x A6 z6 d6 q6).cells by rw [hw7]; exact Mw.with_cells x (KX.out w6 HB6.out) A6 z6 d6 q6)
  have HKC := Lib.hid (show Cel w7 w.heap.size 24 c.cs by rw [hw7]; exact Mw.Cel.far (KCX.out w6 HB6.out) (by omega) 12 _)
  have HWS : Hid (w.heap.size + 2 ≤ w3.heap.size) := HWS0.out
  have HKY := Lib.hid (show Cel w7 w2.heap.size 37 y.cs by rw [hw7]; exact Mw.Cel.far (KY.out w6 HB6.out) (by have := HYW.out; omega) 12 _)
  have HXO : Hid ((Mw.withO x A6 z6 d6 q6).ok w7) := by
    have hg : w6.grownBy w7 (some (w.heap.size + 1)) := by rw [hw7]; exact Ow.grown_set _ _ _ _
    have hlt : w.heap.size + 1 < w3.heap.size := by have := HWS.out; omega
    exact ⟨(PX.out w7 HBW.out).ch, (show Ow.OwnF w3.heap.size w7 A6 z6 d6 q6 from ⟨Rpw.row_low HW6.out.1 hlt hg, fun p hp => Rpw.row_low (HW6.out.2 p hp) hlt hg⟩).rd⟩
  have HMM : Hid ((Mw.withO x A6 z6 d6 q6).mm = { x.mm with os := matchO (osP x.ps) c.server y.x.yi }) := by show _ = _; rw [← HQ6.out]; rfl
  go_upto_region 12 with fail
  rw [← hw7]
  clear hw7 hm12 hmf
  have HGA : Hid (handleE c.cf l (Mw.withO x A6 z6 d6 q6).mm iface now = grantE c.cf { x.mm with os := matchO (osP x.ps) c.server y.x.yi } (ofK x.mm).1 y.x.yi now) := by
    show _ = _
    have hrm := HOF.out.1.2.2.2.1
    have h1 := HRS.out
    have h2 := HRY.out
    rw [HMM.out, ← HYI.out]
    rw [← HYI.out] at h2
    exact matches_ack HKD.out HN64.out HCI.out HSD.out (match_right hrm.2.2.1 HM20.out) (match_52 hrm.2.2.2) (match_same _ _ _) (match_kind _ _ _) (match_54 h1) (Int.toNat_of_nonneg (rightB_iff.1 h1).1) (match_50 h2) (Int.toNat_of_nonneg (rightB_iff.1 h2).1)
  have KH2 := Lib.hid (Ez.handle_any E c A n cc w.heap.size l (Mw.withO x A6 z6 d6 q6) iface now w7 (PC.out w7 HBW.out) (PL.out w7 HBW.out) HBW.out.size HS.out HXO.out OF.out HM6.out (PE.out w7 HBW.out))
  rw [HGA.out] at KH2
  have KN2 := Lib.hid (fun W (hW : Below w.heap.size w W) => knows_yes E W (PE.out W hW))
  clear KH KN KC KM KX KCX KY OC OL OX OE OU
  obtain ⟨v0, v1, v2⟩ := cel3C HKC.out
  obtain ⟨⟨m0, m1, m2, m3, m4, m5, m6⟩, m7, m8, m9, m10, m11, m12⟩ := celM_all HKX.out
  go_wp2_with fail
  refine KH2.out.mono ?_
  rintro e w8 ⟨z, rfl, hzp, hza, hb8⟩
  obtain ⟨w9, hw9⟩ : ∃ w9, w9 = w8.alloc (.cells z.cs 37) := ⟨_, rfl⟩
  have hal : Below w8.heap.size w8 w9 := by rw [hw9]; exact alloc_more _ _
  have HZ9 := Lib.hid (show Cel w9 w8.heap.size 37 z.cs by rw [hw9]; exact Cel.born _ _ _)
  have HB9 := Lib.hid (HBW.out.trans ((tr hb8 hal).mono HBW.out.size))
  have HY9 := Lib.hid ((HKY.out.below hb8 HKY.out.lt).below hal (Nat.lt_of_lt_of_le HKY.out.lt hb8.size))
  have HZO := Lib.hid (hzp.below hal).ok
  have HZA := Lib.hid hza
  clear hzp hza hb8 hal v0 v1 v2 m0 m1 m2 m3 m4 m5 m6 m7 m8 m9 m10 m11 m12
  go_upto_region 13 with (refine wpList_store_row rfl 37 (.tmp 16) (.tmp 92) rfl w8.heap.size z.cs rfl rfl 37 zav (Cel.born w8 37 zav) (by kernel_rfl) rfl (by kernel_rfl) ?_; rw [World.setRow_alloc_new, ← hw9]; clear hw9)
  have HZ1 : Hid (z.send = true) := congrArg An.send HZA.out
  have HZ2 : Hid (z.keep = true) := congrArg An.keep HZA.out
  have HZ3 : Hid (z.x.yi = y.x.yi) := congrArg (fun q : An => q.reply.yi) HZA.out
  have HZ4 : Hid (z.l.addr = y.x.yi) := congrArg (fun q : An => q.lease.addr) HZA.out
  have HZ5 : Hid (Ow.kindL (osP z.x.ps) = 5) := by
    have e : osP z.x.ps = (grantE c.cf { x.mm with os := matchO (osP x.ps) c.server y.x.yi } (ofK x.mm).1 y.x.yi now).reply.os := congrArg (fun q : An => q.reply.os) HZA.out
    show _ = _
    rw [e]
    exact (sent_told c.cf (findC c.cf y.x.yi).1 (findC c.cf y.x.yi).2.1 { x.mm with os := matchO (osP x.ps) c.server y.x.yi } (kind := 5) y.x.yi (.inr (.inl rfl))).2.2.1
  have CZ := Lib.hid (Ow.refKind_any z.x.B z.x.m z.x.d z.x.ps w9 HZO.out.os)
  rw [HZ5.out] at CZ
  obtain ⟨⟨z0, z1, _, _, _, _, _, _, _, _, z10, _, _, _, z14, _, _, _, z18, _, _, _⟩, _⟩ := cells22 HZ9.out
  obtain ⟨⟨_, _, _, _, _, _, _, _, _, _, y10, _, _, _, _, _, _, _, _, _, _, _⟩, _⟩ := cells22 HY9.out
  rw [HZ1.out] at z0
  rw [HZ2.out] at z1
  rw [HZ3.out] at z10
  rw [HZ4.out] at z18
  have hyy : (y.x.yi == y.x.yi) = true := beq_self_eq_true _
  go_wp2_with fail
  refine CZ.out.mono ?_
  rintro e w10 ⟨rfl, rfl⟩
  go_wp2_with fail
  refine (KN2.out w9 HB9.out).mono ?_
  rintro e wz ⟨rfl, hbz⟩
  go_wp2
  go_ret
  exact ⟨rfl, tr HB9.out hbz⟩
end Go.Proofs.YtoldppbakapohaaGreatDoor
