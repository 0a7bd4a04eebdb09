/- The walk of EngineFits: it returns true, and what was in memory stays. Conditions: the configuration, the leases and the message read; what msg's package-level variables hold (En.ok). -/
import Derived.Test.YtoldppbakapohaaGreatDoorEnA
import Derived.Test.YtoldppbakapohaaGreatDoorEwEq
import Derived.Test.YtoldppbakapohaaGreatDoorVwE
import Derived.Test.YtoldppbakapohaaGreatDoorBwA
set_option maxRecDepth 8000
namespace Go.Proofs.YtoldppbakapohaaGreatDoor
open Go.RowKit Tl Co Ms Cf Ad By Rp Ky Rc Ew Jw La Tb Pk Al Cl Eg Ey Ex
open Dw (ba ba_size ba_data ba_list)
open Pw (alloc_more celM_all boxM boxCM small_ms)
open Vw (Cx cel3C)

set_option maxHeartbeats 16000000 in
theorem engineFits_walk (E : Mw.En) (c : Cx) (A : Option Addr) (n cc : Nat) (l : List L) (x : Mv) (iface now : Int) (w : World) (hE : E.ok w) (hc : c.ok w.heap.size w) (hl : RdLs w.heap.size w A n cc l) (hf : ∀ b ∈ l, Fk b) (hx : x.ok w) :
    Calls Tryz.prog 8 #[c.v, .slice A n cc, x.v, .int .i64 iface, .int .i64 now] w (isTrue w) := by
  obtain ⟨w0, hw0, hc0, hm0, hb0, hs0⟩ := boxCM w c x 29
  have HGR := Lib.hid (great19_any c A n cc w.heap.size l x w0 (hc.below hb0) (hl.below hb0) hb0.size hf (hx.below hb0))
  have KC := Lib.hid (fun W (hW : Below w0.heap.size w0 W) => cel3C (hc0.below hW hc0.lt))
  have KM := Lib.hid (fun W (hW : Below w0.heap.size w0 W) => celM_all (hm0.below hW hm0.lt))
  have KX := Lib.hid (fun W (hW : Below w0.heap.size w0 W) => hm0.below hW hm0.lt)
  have HB0 := Lib.hid hb0
  have HS0 := Lib.hid hs0
  have HB00 := Lib.hid (Below.refl w0.heap.size w0)
  have OC := Lib.hid (fun W (hW : Below w0.heap.size w0 W) => hc.below (tr hb0 hW))
  have OL := Lib.hid (fun W (hW : Below w0.heap.size w0 W) => hl.below (tr hb0 hW))
  have OX := Lib.hid (fun W (hW : Below w0.heap.size w0 W) => hx.below (tr hb0 hW))
  have OE := Lib.hid (fun W (hW : Below w0.heap.size w0 W) => hE.below (tr hb0 hW))
  have OU := Lib.hid (fun W (hW : Below w0.heap.size w0 W) => (tr hb0 hW).size)
  have OF := Lib.hid hf
  have KN := Lib.hid (fun W (hW : Below w0.heap.size w0 W) => knows_yes E W (hE.below (tr hb0 hW)))
  clear hc hl hf hx hE hc0 hm0 hb0 hs0
  cases hg : great19 c.cf l x.mm with
  | true =>
    rw [hg] at HGR
    clear hg
    obtain ⟨v0, v1, v2⟩ := KC.out w0 HB00.out
    obtain ⟨⟨m0, m1, m2, m3, m4, m5, m6⟩, m7, m8, m9, m10, m11, m12⟩ := KM.out w0 HB00.out
    go_enter Tryz.func8, Tryz.ntmps8
    go_upto_region 1 with fail
    rw [← hw0]
    clear hw0
    go_wp2_with fail
    refine HGR.out.mono ?_
    rintro e w1 ⟨rfl, hb1⟩
    have HB1 := Lib.hid hb1
    clear hb1 v0 v1 v2 m0 m1 m2 m3 m4 m5 m6 m7 m8 m9 m10 m11 m12
    go_wp2_with fail
    refine (KN.out w1 HB1.out).mono ?_
    rintro e wz ⟨rfl, hbz⟩
    go_wp2
    go_ret
    exact ⟨rfl, tr HB0.out (tr HB1.out hbz)⟩
  | false =>
  rw [hg] at HGR
  obtain ⟨hg1, hg2⟩ := great19_no hg
  have HS := Lib.hid hg1
  have HSM := Lib.hid (small_ms hg2)
  clear hg hg1 hg2
  have KH := Lib.hid (fun W (hW : Below w0.heap.size w0 W) => Ez.handle_any E c A n cc w.heap.size l x iface now W (OC.out W hW) (OL.out W hW) (OU.out W hW) HS.out (OX.out W hW) OF.out HSM.out (OE.out W hW))
  obtain ⟨v0, v1, v2⟩ := KC.out w0 HB00.out
  obtain ⟨⟨m0, m1, m2, m3, m4, m5, m6⟩, m7, m8, m9, m10, m11, m12⟩ := KM.out w0 HB00.out
  go_enter Tryz.func8, Tryz.ntmps8
  go_upto_region 1 with fail
  rw [← hw0]
  clear hw0
  go_wp2_with fail
  refine HGR.out.mono ?_
  rintro e w1 ⟨rfl, hb1⟩
  have HB1 := Lib.hid hb1
  clear hb1 HGR v0 v1 v2 m0 m1 m2 m3 m4 m5 m6 m7 m8 m9 m10 m11 m12
  obtain ⟨v0, v1, v2⟩ := KC.out w1 HB1.out
  obtain ⟨⟨m0, m1, m2, m3, m4, m5, m6⟩, m7, m8, m9, m10, m11, m12⟩ := KM.out w1 HB1.out
  go_wp2_with fail
  refine (KH.out w1 HB1.out).mono ?_
  rintro e w2 ⟨y, rfl, hmp, hya, hb2⟩
  have hal := alloc_more w2 (.cells y.cs 37)
  obtain ⟨w3, hw3⟩ : ∃ w3, w3 = w2.alloc (.cells y.cs 37) := ⟨_, rfl⟩
  have HY := Lib.hid (show Cel w3 w2.heap.size 37 y.cs by rw [hw3]; exact Cel.born _ _ _)
  rw [← hw3] at hal
  have HB3 := Lib.hid (tr (tr HB1.out hb2) hal)
  have HMP := Lib.hid (hmp.below hal)
  have HYA := Lib.hid hya
  clear hmp hya hb2 hal v0 v1 v2 m0 m1 m2 m3 m4 m5 m6 m7 m8 m9 m10 m11 m12
  go_upto_region 4 with (refine wpList_store_row rfl 37 (.tmp 11) (.tmp 27) rfl w2.heap.size y.cs rfl rfl 37 zav (Cel.born w2 37 zav) (by kernel_rfl) rfl (by kernel_rfl) ?_; rw [World.setRow_alloc_new, ← hw3]; clear hw3)
  have KY := Lib.hid (fun W (hW : Below w3.heap.size w3 W) => HY.out.below hW HY.out.lt)
  have OY := Lib.hid (fun W (hW : Below w3.heap.size w3 W) => HMP.out.ok.below hW)
  have HBB := Lib.hid (Below.refl w3.heap.size w3)
  have KC := Lib.hid (fun W (hW : Below w3.heap.size w3 W) => KC.out W (tr HB3.out hW))
  have KM := Lib.hid (fun W (hW : Below w3.heap.size w3 W) => KM.out W (tr HB3.out hW))
  have KX := Lib.hid (fun W (hW : Below w3.heap.size w3 W) => KX.out W (tr HB3.out hW))
  have OC := Lib.hid (fun W (hW : Below w3.heap.size w3 W) => OC.out W (tr HB3.out hW))
  have OL := Lib.hid (fun W (hW : Below w3.heap.size w3 W) => OL.out W (tr HB3.out hW))
  have OX := Lib.hid (fun W (hW : Below w3.heap.size w3 W) => OX.out W (tr HB3.out hW))
  have OE := Lib.hid (fun W (hW : Below w3.heap.size w3 W) => OE.out W (tr HB3.out hW))
  have OU := Lib.hid (fun W (hW : Below w3.heap.size w3 W) => OU.out W (tr HB3.out hW))
  have KN := Lib.hid (fun W (hW : Below w3.heap.size w3 W) => KN.out W (tr HB3.out hW))
  have KH := Lib.hid (fun W (hW : Below w3.heap.size w3 W) => KH.out W (tr HB3.out hW))
  have HB0 := Lib.hid (tr HB0.out HB3.out)
  have HB3 := Lib.hid (Below.refl w3.heap.size w3)
  have HSE : Hid ((handleE c.cf l x.mm iface now).send = y.send) := by show _ = _; rw [← HYA.out]; rfl
  have HKE : Hid ((handleE c.cf l x.mm iface now).keep = y.keep) := by show _ = _; rw [← HYA.out]; rfl
  have HYI : Hid ((handleE c.cf l x.mm iface now).reply.yi = y.x.yi) := by show _ = _; rw [← HYA.out]; rfl
  have HLE : Hid ((handleE c.cf l x.mm iface now).lease = y.l) := by show _ = _; rw [← HYA.out]; rfl
  have HOS : Hid ((handleE c.cf l x.mm iface now).reply.os = osP y.x.ps) := by show _ = _; rw [← HYA.out]; rfl
  cases hkp : y.keep with
  | false =>
    have HLZ := Lib.hid (fits_not (HKE.out.trans hkp))
    have HLL : Hid (y.l = zeroL) := by show _ = _; rw [← HLE.out]; exact HLZ.out
    obtain ⟨⟨_, y1, _, _, _, _, _, _, _, _, _, _, _, _, _, _, _, _, y18, y19, y20, y21⟩, _⟩ := cells22 (KY.out w3 HBB.out)
    rw [hkp] at y1
    rw [HLL.out] at y18 y19 y20 y21
    replace y18 : w3.cell? ⟨w2.heap.size, 18, none⟩ = some (.int .i64 0) := y18
    replace y19 : w3.cell? ⟨w2.heap.size, 19, none⟩ = some (.int .i64 0) := y19
    replace y20 : w3.cell? ⟨w2.heap.size, 20, none⟩ = some (.int .i64 0) := y20
    replace y21 : w3.cell? ⟨w2.heap.size, 21, none⟩ = some (.string ⟨#[]⟩) := y21
    have HQ : ∀ W, (binOp .eql 35 (.agg #[.int .i64 0, .int .i64 0, .int .i64 0, .string ⟨#[]⟩]) (.agg #[.int .i64 0, .int .i64 0, .int .i64 0, .string ⟨#[]⟩])).run Tryz.prog W = .ok (.bool true) W := fun W => leq_self zeroL W
    clear hkp
    go_wp2_with fail
    refine (KN.out w3 HBB.out).mono ?_
    rintro e wz ⟨rfl, hbz⟩
    go_wp2
    go_ret
    exact ⟨rfl, tr HB0.out (tr HBB.out hbz)⟩
  | true =>
  have HFT := Lib.hid (fits (HKE.out.trans hkp))
  obtain ⟨la, hla⟩ : ∃ la, y.l = la := ⟨_, rfl⟩
  have HLL : Hid ((handleE c.cf l x.mm iface now).lease = la) := by show _ = _; rw [HLE.out, hla]
  rw [HLL.out] at HFT
  have KL := Lib.hid (fun W (hW : Below w3.heap.size w3 W) => (by have q := cells22 (KY.out W hW); rw [hla, hkp] at q; exact ⟨q.1.2.1, q.1.2.2.2.2.2.2.2.2.2.2.2.2.2.2.2.2.2.2⟩ :
    W.cell? ⟨w2.heap.size, 1, none⟩ = some (.bool true) ∧ W.cell? ⟨w2.heap.size, 18, none⟩ = some (.int .i64 la.addr) ∧ W.cell? ⟨w2.heap.size, 19, none⟩ = some (.int .i64 la.state) ∧ W.cell? ⟨w2.heap.size, 20, none⟩ = some (.int .i64 la.till) ∧ W.cell? ⟨w2.heap.size, 21, none⟩ = some (.string (ba la.key))))
  clear hkp hla KY HLE HLL
  have HRL : Hid (RightR la) := HFT.out.2.1
  have HKL : Hid (la.key.length ≤ 9223372036854775807) := key_len HRL.out.2.2.2
  have HFK : Hid (Fk la) := HKL.out
  obtain ⟨st, hst⟩ : ∃ st, setT l la = st := ⟨_, rfl⟩
  have HS0 : Hid (st.2 = 0) := by show _ = _; rw [← hst]; exact HFT.out.1
  have HSR : Hid (RightT st.1) := by show RightT _; rw [← hst]; exact set_right l la
  have HSF : Hid (∀ b ∈ st.1, Fk b) := fun b hb => key_len (HSR.out.2.1 b hb).2.2.2
  have HCS := HFT.out.2.2
  rw [hst] at HCS
  have HCS := Lib.hid HCS
  have C1 := Lib.hid (fun W (hW : Below w3.heap.size w3 W) => Bw.set_any A n cc w.heap.size l la W (OL.out W hW) (OU.out W hW) OF.out HFK.out)
  rw [hst] at C1
  obtain ⟨sl, se⟩ := st
  obtain rfl : se = 0 := HS0.out
  clear hst HFT
  obtain ⟨p1, p18, p19, p20, p21⟩ := KL.out w3 HBB.out
  go_wp2_with fail
  refine (C1.out w3 HBB.out).mono ?_
  rintro e w4 ⟨A4, n4, k4, rfl, hown, hb4⟩
  have HB4 := Lib.hid hb4
  have OT := Lib.hid (fun W (hW : Below w4.heap.size w4 W) => hown.rd.below hW)
  clear hown hb4 p1 p18 p19 p20 p21
  obtain ⟨p1, p18, p19, p20, p21⟩ := KL.out w4 HB4.out
  go_wp2_with fail
  refine (Ew.refRight_any la w4 HFK.out).mono ?_
  rw [show rightR la = true from decide_eq_true HRL.out]
  rintro e w5 ⟨rfl, hb5⟩
  have HB45 := Lib.hid hb5
  have HB5 := Lib.hid (tr HB4.out hb5)
  clear hb5
  go_wp2_with fail
  refine (Bw.refRight_any A4 n4 k4 w4.heap.size sl w5 (OT.out w5 HB45.out) HB45.out.size HSF.out).mono ?_
  rw [show rightT sl = true from decide_eq_true HSR.out]
  rintro e w6 ⟨rfl, hb6⟩
  have HB46 := Lib.hid (tr HB45.out hb6)
  have HB6 := Lib.hid (tr HB5.out hb6)
  clear hb6 p1 p18 p19 p20 p21
  obtain ⟨p1, p18, p19, p20, p21⟩ := KL.out w6 HB6.out
  rcases HCS.out with ⟨h1, h2, h3, h4⟩ | ⟨h1, h2⟩ | ⟨h1, h2⟩
  · have H2 := Lib.hid h2
    have H3 := Lib.hid h3
    have H4 := Lib.hid h4
    rw [h1] at p19
    clear h1 h2 h3 h4
    have C2 := Lib.hid (fun W (hW : Below w4.heap.size w4 W) => Vw.refFind_any c la.addr w.heap.size W (OC.out W (tr HB4.out hW)) (OU.out W (tr HB4.out hW)) HS.out)
    have C3 : Hid (∀ W : World, Below w4.heap.size w4 W → Calls Tryz.prog 33 #[c.v, .slice A4 n4 k4, .int .i64 (findC c.cf la.addr).1, .string (ba la.key), .int .i64 la.addr, .int .i64 now] W (Vw.isB (mayA c.cf sl (findC c.cf la.addr).1 la.key la.addr now) W)) := fun W hW =>
      Xw.May_any ⟨c, A4, n4, k4, sl, (findC c.cf la.addr).1, la.key, now⟩ la.addr w4.heap.size W ⟨(OC.out W (tr HB4.out hW)).mono (OU.out w4 HB4.out), OT.out W hW, HSF.out, HS.out, HKL.out⟩ hW.size
    rw [H3.out] at C3
    obtain ⟨fi, hfi⟩ : ∃ fi, findC c.cf la.addr = fi := ⟨_, rfl⟩
    have H2b : Hid (fi.2.2 = true) := by show _ = _; rw [← hfi]; exact H2.out
    rw [hfi] at C2 C3
    obtain ⟨f1, f2, f3⟩ := fi
    obtain rfl : f3 = true := H2b.out
    clear hfi H2 H2b H3
    obtain ⟨v0, v1, v2⟩ := KC.out w6 HB6.out
    go_wp2_with fail
    refine (C2.out w6 HB46.out).mono ?_
    rintro e w7 ⟨rfl, hb7⟩
    have HB47 := Lib.hid (tr HB46.out hb7)
    have HB7 := Lib.hid (tr HB6.out hb7)
    clear hb7 p1 p18 p19 p20 p21 v0 v1 v2
    obtain ⟨p1, p18, p19, p20, p21⟩ := KL.out w7 HB7.out
    obtain ⟨v0, v1, v2⟩ := KC.out w7 HB7.out
    go_wp2_with fail
    refine (C3.out w7 HB47.out).mono ?_
    rintro e w8 ⟨rfl, hb8⟩
    have HB8 := Lib.hid (tr HB7.out hb8)
    clear hb8 p1 p18 p19 p20 p21 v0 v1 v2
    obtain ⟨p1, p18, p19, p20, p21⟩ := KL.out w8 HB8.out
    by_cases hlt : now < la.till
    · go_wp2_with fail
      refine (KN.out w8 HB8.out).mono ?_
      rintro e wz ⟨rfl, hbz⟩
      go_wp2
      go_ret
      exact ⟨rfl, tr HB0.out (tr HB8.out hbz)⟩
    · have hnm : (now == 1125899906842624) = true := by
        rcases H4.out with q | q
        · exact absurd q hlt
        · simpa using q
      go_wp2_with fail
      refine (KN.out w8 HB8.out).mono ?_
      rintro e wz ⟨rfl, hbz⟩
      go_wp2
      go_ret
      exact ⟨rfl, tr HB0.out (tr HB8.out hbz)⟩
  · have C2 := Lib.hid (fun W => Bw.rests_any la now W)
    rw [h2] at C2
    have HST := Lib.hid h1
    rw [h1] at p19
    have KR := Lib.hid (fun W (hW : Below w3.heap.size w3 W) => (by have q := KL.out W hW; rw [HST.out] at q; exact ⟨q.2.1, q.2.2.1, q.2.2.2.1, q.2.2.2.2⟩ : W.cell? ⟨w2.heap.size, 18, none⟩ = some (.int .i64 la.addr) ∧ W.cell? ⟨w2.heap.size, 19, none⟩ = some (.int .i64 3) ∧ W.cell? ⟨w2.heap.size, 20, none⟩ = some (.int .i64 la.till) ∧ W.cell? ⟨w2.heap.size, 21, none⟩ = some (.string (ba la.key))))
    clear h1 h2
    go_upto_region 10 with fail
    clear p1 p18 p19 p20 p21
    refine wp_region_held_drew (S := fun W => W.cell? ⟨w2.heap.size, 18, none⟩ = some (.int .i64 la.addr) ∧ W.cell? ⟨w2.heap.size, 19, none⟩ = some (.int .i64 3) ∧ W.cell? ⟨w2.heap.size, 20, none⟩ = some (.int .i64 la.till) ∧ W.cell? ⟨w2.heap.size, 21, none⟩ = some (.string (ba la.key))) (by kernel_rfl) (KR.out _ HB6.out.drew) (fun hHeld => ?_)
    refine wpAnyH_take (i := 0) (v := .pointer (some ⟨w2.heap.size, 18, none⟩)) rfl (by kernel_rfl) (by kernel_rfl) (by kernel_rfl) (fun _ _ _ h => h) (.inl ⟨by rfl, fun w hSw => by go_simp⟩) hHeld ?_
    simp only [Act.put, gTo, gZe, sTo, sZe, sSu]
    refine wpAnyH_take (i := 1) (v := .pointer (some ⟨w2.heap.size, 19, none⟩)) rfl (by kernel_rfl) (by kernel_rfl) (by kernel_rfl) (fun _ _ _ h => h) (.inl ⟨by rfl, fun w hSw => by go_simp⟩) hHeld ?_
    simp only [Act.put, gTo, gZe, gSu, sTo, sZe, sSu]
    refine wpAnyH_take (i := 2) (v := .int .i64 3) rfl (by kernel_rfl) (by kernel_rfl) (by kernel_rfl) (fun _ _ _ h => h) (.inl ⟨by rfl, fun w hSw => by obtain ⟨s0, s1, s2, s3⟩ := hSw; go_simp⟩) hHeld ?_
    simp only [Act.put, gTo, gZe, gSu, sTo, sZe, sSu]
    refine wpAnyH_take (i := 3) (v := .bool false) rfl (by kernel_rfl) (by kernel_rfl) (by kernel_rfl) (fun _ _ _ h => h) (.inl ⟨by rfl, fun w hSw => by go_simp⟩) hHeld ?_
    simp only [Act.put, gTo, gZe, gSu, sTo, sZe, sSu]
    refine wpAnyH_take (i := 4) (v := .pointer (some ⟨w2.heap.size, 18, none⟩)) rfl (by kernel_rfl) (by kernel_rfl) (by kernel_rfl) (fun _ _ _ h => h) (.inl ⟨by rfl, fun w hSw => by go_simp⟩) hHeld ?_
    simp only [Act.put, gTo, gZe, gSu, sTo, sZe, sSu]
    refine wpAnyH_take (i := 5) (v := .agg #[.int .i64 la.addr, .int .i64 3, .int .i64 la.till, .string (ba la.key)]) rfl (by kernel_rfl) (by kernel_rfl) (by kernel_rfl) (fun _ _ _ h => h) (.inl ⟨by rfl, fun w hSw => by obtain ⟨s0, s1, s2, s3⟩ := hSw; go_simp⟩) hHeld ?_
    simp only [Act.put, gTo, gZe, gSu, sTo, sZe, sSu]
    refine wpAnyH_take (i := 6) (v := .int .i64 now) rfl (by kernel_rfl) (by kernel_rfl) (by kernel_rfl) (fun _ _ _ h => h) (.inl ⟨by rfl, fun w hSw => by go_simp⟩) hHeld ?_
    simp only [Act.put, gTo, gZe, gSu, sTo, sZe, sSu]
    refine wpAnyH_ready (rs := [7]) (by kernel_rfl) (by simp) ?_
    refine AllReadyH.cons rfl (fun K2 hK2 => ?_) AllReadyH.nil
    go_simp
    go_at_call 31
    have C2b := C2.out w6.drew
    rw [show lv la = .agg #[.int .i64 la.addr, .int .i64 3, .int .i64 la.till, .string (ba la.key)] by rw [← HST.out]] at C2b
    refine C2b.mono ?_
    rintro ee wq1 ⟨rfl, hbu1⟩
    have hbq1 : Below w3.heap.size w3 wq1 := tr HB6.out (below_undrew hbu1)
    refine hK2.out _ _ (KR.out _ hbq1) (fun hHeld => ?_)
    clear hK2 K2
    try simp only [Act.put, gTo, gZe, gSu, sTo, sZe, sSu]
    refine wpAnyH_take (i := 8) (v := .bool true) rfl (by kernel_rfl) (by kernel_rfl) (by kernel_rfl) (fun _ _ _ h => h) (.inl ⟨by rfl, fun w hSw => by go_simp⟩) hHeld ?_
    simp only [Act.put, gTo, gZe, gSu, sTo, sZe, sSu]
    refine wpAnyH_take (i := 9) (v := .bool true) rfl (by kernel_rfl) (by kernel_rfl) (by kernel_rfl) (fun _ _ _ h => h) (.inl ⟨by rfl, fun w hSw => by go_simp⟩) hHeld ?_
    simp only [Act.put, gTo, gZe, gSu, sTo, sZe, sSu]
    refine wpAnyH_ready (rs := [10]) (by kernel_rfl) (by simp) ?_
    refine AllReadyH.cons rfl (fun K2 hK2 => ?_) AllReadyH.nil
    go_simp
    go_at_call 10
    refine (KN.out _ hbq1).mono ?_
    rintro ee wq2 ⟨rfl, hbu2⟩
    have hbq2 : Below w3.heap.size w3 wq2 := tr hbq1 hbu2
    refine hK2.out _ _ (KR.out _ hbq2) (fun hHeld => ?_)
    clear hK2 K2
    try simp only [Act.put, gTo, gZe, gSu, sTo, sZe, sSu]
    refine wpAnyH_take (i := 11) (v := .bool true) rfl (by kernel_rfl) (by kernel_rfl) (by kernel_rfl) (fun _ _ _ h => h) (.inl ⟨by rfl, fun w hSw => by go_simp⟩) hHeld ?_
    simp only [Act.put, gTo, gZe, gSu, sTo, sZe, sSu]
    refine wpAnyH_take (i := 12) (v := .bool true) rfl (by kernel_rfl) (by kernel_rfl) (by kernel_rfl) (fun _ _ _ h => h) (.inl ⟨by rfl, fun w hSw => by go_simp⟩) hHeld ?_
    simp only [Act.put, gTo, gZe, gSu, sTo, sZe, sSu]
    refine wpAnyH_done (by kernel_rfl) ?_ _
    go_wp2
    go_ret
    exact ⟨rfl, tr HB0.out hbq2⟩
  · have C2 := Lib.hid (fun W => Bw.rests_any la now W)
    rw [h2] at C2
    have HST := Lib.hid h1
    rw [h1] at p19
    have KR := Lib.hid (fun W (hW : Below w3.heap.size w3 W) => (by have q := KL.out W hW; rw [HST.out] at q; exact ⟨q.2.1, q.2.2.1, q.2.2.2.1, q.2.2.2.2⟩ : W.cell? ⟨w2.heap.size, 18, none⟩ = some (.int .i64 la.addr) ∧ W.cell? ⟨w2.heap.size, 19, none⟩ = some (.int .i64 2) ∧ W.cell? ⟨w2.heap.size, 20, none⟩ = some (.int .i64 la.till) ∧ W.cell? ⟨w2.heap.size, 21, none⟩ = some (.string (ba la.key))))
    clear h1 h2
    go_upto_region 10 with fail
    clear p1 p18 p19 p20 p21
    refine wp_region_held_drew (S := fun W => W.cell? ⟨w2.heap.size, 18, none⟩ = some (.int .i64 la.addr) ∧ W.cell? ⟨w2.heap.size, 19, none⟩ = some (.int .i64 2) ∧ W.cell? ⟨w2.heap.size, 20, none⟩ = some (.int .i64 la.till) ∧ W.cell? ⟨w2.heap.size, 21, none⟩ = some (.string (ba la.key))) (by kernel_rfl) (KR.out _ HB6.out.drew) (fun hHeld => ?_)
    refine wpAnyH_take (i := 0) (v := .pointer (some ⟨w2.heap.size, 18, none⟩)) rfl (by kernel_rfl) (by kernel_rfl) (by kernel_rfl) (fun _ _ _ h => h) (.inl ⟨by rfl, fun w hSw => by go_simp⟩) hHeld ?_
    simp only [Act.put, gTo, gZe, sTo, sZe, sSu]
    refine wpAnyH_take (i := 1) (v := .pointer (some ⟨w2.heap.size, 19, none⟩)) rfl (by kernel_rfl) (by kernel_rfl) (by kernel_rfl) (fun _ _ _ h => h) (.inl ⟨by rfl, fun w hSw => by go_simp⟩) hHeld ?_
    simp only [Act.put, gTo, gZe, gSu, sTo, sZe, sSu]
    refine wpAnyH_take (i := 2) (v := .int .i64 2) rfl (by kernel_rfl) (by kernel_rfl) (by kernel_rfl) (fun _ _ _ h => h) (.inl ⟨by rfl, fun w hSw => by obtain ⟨s0, s1, s2, s3⟩ := hSw; go_simp⟩) hHeld ?_
    simp only [Act.put, gTo, gZe, gSu, sTo, sZe, sSu]
    refine wpAnyH_take (i := 3) (v := .bool true) rfl (by kernel_rfl) (by kernel_rfl) (by kernel_rfl) (fun _ _ _ h => h) (.inl ⟨by rfl, fun w hSw => by go_simp⟩) hHeld ?_
    simp only [Act.put, gTo, gZe, gSu, sTo, sZe, sSu]
    refine wpAnyH_take (i := 4) (v := .pointer (some ⟨w2.heap.size, 18, none⟩)) rfl (by kernel_rfl) (by kernel_rfl) (by kernel_rfl) (fun _ _ _ h => h) (.inl ⟨by rfl, fun w hSw => by go_simp⟩) hHeld ?_
    simp only [Act.put, gTo, gZe, gSu, sTo, sZe, sSu]
    refine wpAnyH_take (i := 5) (v := .agg #[.int .i64 la.addr, .int .i64 2, .int .i64 la.till, .string (ba la.key)]) rfl (by kernel_rfl) (by kernel_rfl) (by kernel_rfl) (fun _ _ _ h => h) (.inl ⟨by rfl, fun w hSw => by obtain ⟨s0, s1, s2, s3⟩ := hSw; go_simp⟩) hHeld ?_
    simp only [Act.put, gTo, gZe, gSu, sTo, sZe, sSu]
    refine wpAnyH_take (i := 6) (v := .int .i64 now) rfl (by kernel_rfl) (by kernel_rfl) (by kernel_rfl) (fun _ _ _ h => h) (.inl ⟨by rfl, fun w hSw => by go_simp⟩) hHeld ?_
    simp only [Act.put, gTo, gZe, gSu, sTo, sZe, sSu]
    refine wpAnyH_ready (rs := [7]) (by kernel_rfl) (by simp) ?_
    refine AllReadyH.cons rfl (fun K2 hK2 => ?_) AllReadyH.nil
    go_simp
    go_at_call 31
    have C2b := C2.out w6.drew
    rw [show lv la = .agg #[.int .i64 la.addr, .int .i64 2, .int .i64 la.till, .string (ba la.key)] by rw [← HST.out]] at C2b
    refine C2b.mono ?_
    rintro ee wq1 ⟨rfl, hbu1⟩
    have hbq1 : Below w3.heap.size w3 wq1 := tr HB6.out (below_undrew hbu1)
    refine hK2.out _ _ (KR.out _ hbq1) (fun hHeld => ?_)
    clear hK2 K2
    try simp only [Act.put, gTo, gZe, gSu, sTo, sZe, sSu]
    refine wpAnyH_take (i := 8) (v := .bool true) rfl (by kernel_rfl) (by kernel_rfl) (by kernel_rfl) (fun _ _ _ h => h) (.inl ⟨by rfl, fun w hSw => by go_simp⟩) hHeld ?_
    simp only [Act.put, gTo, gZe, gSu, sTo, sZe, sSu]
    refine wpAnyH_take (i := 9) (v := .bool true) rfl (by kernel_rfl) (by kernel_rfl) (by kernel_rfl) (fun _ _ _ h => h) (.inl ⟨by rfl, fun w hSw => by go_simp⟩) hHeld ?_
    simp only [Act.put, gTo, gZe, gSu, sTo, sZe, sSu]
    refine wpAnyH_ready (rs := [10]) (by kernel_rfl) (by simp) ?_
    refine AllReadyH.cons rfl (fun K2 hK2 => ?_) AllReadyH.nil
    go_simp
    go_at_call 10
    refine (KN.out _ hbq1).mono ?_
    rintro ee wq2 ⟨rfl, hbu2⟩
    have hbq2 : Below w3.heap.size w3 wq2 := tr hbq1 hbu2
    refine hK2.out _ _ (KR.out _ hbq2) (fun hHeld => ?_)
    clear hK2 K2
    try simp only [Act.put, gTo, gZe, gSu, sTo, sZe, sSu]
    refine wpAnyH_take (i := 11) (v := .bool true) rfl (by kernel_rfl) (by kernel_rfl) (by kernel_rfl) (fun _ _ _ h => h) (.inl ⟨by rfl, fun w hSw => by go_simp⟩) hHeld ?_
    simp only [Act.put, gTo, gZe, gSu, sTo, sZe, sSu]
    refine wpAnyH_take (i := 12) (v := .bool true) rfl (by kernel_rfl) (by kernel_rfl) (by kernel_rfl) (fun _ _ _ h => h) (.inl ⟨by rfl, fun w hSw => by go_simp⟩) hHeld ?_
    simp only [Act.put, gTo, gZe, gSu, sTo, sZe, sSu]
    refine wpAnyH_done (by kernel_rfl) ?_ _
    go_wp2
    go_ret
    exact ⟨rfl, tr HB0.out hbq2⟩
end Go.Proofs.YtoldppbakapohaaGreatDoor
