/- The walk of EngineKeeps: it returns true, and what was in memory stays. Conditions: the configuration, the leases and the message read; what msg's package-level variables hold (En.ok). -/
import Derived.Test.YtoldppbakapohaaGreatDoorEnA
import Derived.Test.YtoldppbakapohaaGreatDoorEyRef2
import Derived.Test.YtoldppbakapohaaGreatDoorGwA
import Derived.Test.YtoldppbakapohaaGreatDoorXwC
import Derived.Test.YtoldppbakapohaaGreatDoorVwD
import Derived.Test.YtoldppbakapohaaGreatDoorBwA
import Derived.Test.YtoldppbakapohaaGreatDoorKwA
import Derived.Test.YtoldppbakapohaaGreatDoorPwA
import Derived.Test.YtoldppbakapohaaGreatDoorEgMore
import Derived.Test.YtoldppbakapohaaGreatDoorEwEq
set_option maxRecDepth 8000
namespace Go.Proofs.YtoldppbakapohaaGreatDoor
open Go.RowKit Tl Co Ms Cf Ad By Rp Ky Rc Ew Jw La Tb Pk Al Cl Eg Ey Ex
open Dw (ba ba_size ba_data ba_list)
open Pw (alloc_more celM_all boxM boxCM small_ms)
open Vw (Cx cel3C)

set_option maxHeartbeats 16000000 in
theorem engineKeeps_walk (E : Mw.En) (c : Cx) (A : Option Addr) (n cc : Nat) (l : List L) (x : Mv) (iface now : Int) (w : World) (hE : E.ok w) (hc : c.ok w.heap.size w) (hl : RdLs w.heap.size w A n cc l) (hf : ∀ b ∈ l, Fk b) (hx : x.ok w) :
    Calls Tryz.prog 5 #[c.v, .slice A n cc, x.v, .int .i64 iface, .int .i64 now] w (isTrue w) := by
  obtain ⟨w0, hw0, hc0, hm0, hb0, hs0⟩ := boxCM w c x 29
  have HGR := Lib.hid (great19_any c A n cc w.heap.size l x w0 (hc.below hb0) (hl.below hb0) hb0.size hf (hx.below hb0))
  have KC := Lib.hid (fun W (hW : Below w0.heap.size w0 W) => cel3C (hc0.below hW hc0.lt))
  have KM := Lib.hid (fun W (hW : Below w0.heap.size w0 W) => celM_all (hm0.below hW hm0.lt))
  have KX := Lib.hid (fun W (hW : Below w0.heap.size w0 W) => hm0.below hW hm0.lt)
  have HB0 := Lib.hid hb0
  have HS0 := Lib.hid hs0
  have HB00 := Lib.hid (Below.refl w0.heap.size w0)
  have OC := Lib.hid (fun W (hW : Below w0.heap.size w0 W) => hc.below (tr hb0 hW))
  have OL := Lib.hid (fun W (hW : Below w0.heap.size w0 W) => hl.below (tr hb0 hW))
  have OX := Lib.hid (fun W (hW : Below w0.heap.size w0 W) => hx.below (tr hb0 hW))
  have OE := Lib.hid (fun W (hW : Below w0.heap.size w0 W) => hE.below (tr hb0 hW))
  have OU := Lib.hid (fun W (hW : Below w0.heap.size w0 W) => (tr hb0 hW).size)
  have OF := Lib.hid hf
  have KN := Lib.hid (fun W (hW : Below w0.heap.size w0 W) => knows_yes E W (hE.below (tr hb0 hW)))
  clear hc hl hf hx hE hc0 hm0 hb0 hs0
  cases hg : great19 c.cf l x.mm with
  | true =>
    rw [hg] at HGR
    clear hg
    obtain ⟨v0, v1, v2⟩ := KC.out w0 HB00.out
    obtain ⟨⟨m0, m1, m2, m3, m4, m5, m6⟩, m7, m8, m9, m10, m11, m12⟩ := KM.out w0 HB00.out
    go_enter Tryz.func5, Tryz.ntmps5
    go_upto_region 1 with fail
    rw [← hw0]
    clear hw0
    go_wp2_with fail
    refine HGR.out.mono ?_
    rintro e w1 ⟨rfl, hb1⟩
    have HB1 := Lib.hid hb1
    clear hb1 v0 v1 v2 m0 m1 m2 m3 m4 m5 m6 m7 m8 m9 m10 m11 m12
    go_wp2_with fail
    refine (KN.out w1 HB1.out).mono ?_
    rintro e wz ⟨rfl, hbz⟩
    go_wp2
    go_ret
    exact ⟨rfl, tr HB0.out (tr HB1.out hbz)⟩
  | false =>
  rw [hg] at HGR
  obtain ⟨hg1, hg2⟩ := great19_no hg
  have HS := Lib.hid hg1
  have HSM := Lib.hid (small_ms hg2)
  clear hg hg1 hg2
  have KH := Lib.hid (fun W (hW : Below w0.heap.size w0 W) => Ez.handle_any E c A n cc w.heap.size l x iface now W (OC.out W hW) (OL.out W hW) (OU.out W hW) HS.out (OX.out W hW) OF.out HSM.out (OE.out W hW))
  obtain ⟨v0, v1, v2⟩ := KC.out w0 HB00.out
  obtain ⟨⟨m0, m1, m2, m3, m4, m5, m6⟩, m7, m8, m9, m10, m11, m12⟩ := KM.out w0 HB00.out
  go_enter Tryz.func5, Tryz.ntmps5
  go_upto_region 1 with fail
  rw [← hw0]
  clear hw0
  go_wp2_with fail
  refine HGR.out.mono ?_
  rintro e w1 ⟨rfl, hb1⟩
  have HB1 := Lib.hid hb1
  clear hb1 HGR v0 v1 v2 m0 m1 m2 m3 m4 m5 m6 m7 m8 m9 m10 m11 m12
  obtain ⟨v0, v1, v2⟩ := KC.out w1 HB1.out
  obtain ⟨⟨m0, m1, m2, m3, m4, m5, m6⟩, m7, m8, m9, m10, m11, m12⟩ := KM.out w1 HB1.out
  go_wp2_with fail
  refine (KH.out w1 HB1.out).mono ?_
  rintro e w2 ⟨y, rfl, hmp, hya, hb2⟩
  have hal := alloc_more w2 (.cells y.cs 37)
  obtain ⟨w3, hw3⟩ : ∃ w3, w3 = w2.alloc (.cells y.cs 37) := ⟨_, rfl⟩
  have HY := Lib.hid (show Cel w3 w2.heap.size 37 y.cs by rw [hw3]; exact Cel.born _ _ _)
  rw [← hw3] at hal
  have HB3 := Lib.hid (tr (tr HB1.out hb2) hal)
  have HMP := Lib.hid (hmp.below hal)
  have HYA := Lib.hid hya
  clear hmp hya hb2 hal v0 v1 v2 m0 m1 m2 m3 m4 m5 m6 m7 m8 m9 m10 m11 m12
  go_upto_region 4 with (refine wpList_store_row rfl 37 (.tmp 11) (.tmp 27) rfl w2.heap.size y.cs rfl rfl 37 zav (Cel.born w2 37 zav) (by kernel_rfl) rfl (by kernel_rfl) ?_; rw [World.setRow_alloc_new, ← hw3]; clear hw3)
  have KY := Lib.hid (fun W (hW : Below w3.heap.size w3 W) => HY.out.below hW HY.out.lt)
  have OY := Lib.hid (fun W (hW : Below w3.heap.size w3 W) => HMP.out.ok.below hW)
  have HBB := Lib.hid (Below.refl w3.heap.size w3)
  have KC := Lib.hid (fun W (hW : Below w3.heap.size w3 W) => KC.out W (tr HB3.out hW))
  have KM := Lib.hid (fun W (hW : Below w3.heap.size w3 W) => KM.out W (tr HB3.out hW))
  have KX := Lib.hid (fun W (hW : Below w3.heap.size w3 W) => KX.out W (tr HB3.out hW))
  have OC := Lib.hid (fun W (hW : Below w3.heap.size w3 W) => OC.out W (tr HB3.out hW))
  have OL := Lib.hid (fun W (hW : Below w3.heap.size w3 W) => OL.out W (tr HB3.out hW))
  have OX := Lib.hid (fun W (hW : Below w3.heap.size w3 W) => OX.out W (tr HB3.out hW))
  have OE := Lib.hid (fun W (hW : Below w3.heap.size w3 W) => OE.out W (tr HB3.out hW))
  have OU := Lib.hid (fun W (hW : Below w3.heap.size w3 W) => OU.out W (tr HB3.out hW))
  have KN := Lib.hid (fun W (hW : Below w3.heap.size w3 W) => KN.out W (tr HB3.out hW))
  have KH := Lib.hid (fun W (hW : Below w3.heap.size w3 W) => KH.out W (tr HB3.out hW))
  have HB0 := Lib.hid (tr HB0.out HB3.out)
  have HB3 := Lib.hid (Below.refl w3.heap.size w3)
  obtain ⟨kd, hkd⟩ : ∃ kd, Ow.kindL (osP y.x.ps) = kd := ⟨_, rfl⟩
  have C1 := Lib.hid (fun W (hW : Below w3.heap.size w3 W) => Ow.refKind_any y.x.B y.x.m y.x.d y.x.ps W (OY.out W hW).os)
  rw [hkd] at C1
  have C2 := Lib.hid (fun W (hW : Below w3.heap.size w3 W) => Ow.refNumber_any y.x.B y.x.m y.x.d y.x.ps 51 W (OY.out W hW).os)
  have HKD : Hid (kindE (handleE c.cf l x.mm iface now).reply.os = kd) := by show _ = _; rw [← HYA.out]; exact hkd
  have HSE : Hid ((handleE c.cf l x.mm iface now).send = y.send) := by show _ = _; rw [← HYA.out]; rfl
  have HKE : Hid ((handleE c.cf l x.mm iface now).keep = y.keep) := by show _ = _; rw [← HYA.out]; rfl
  have HYI : Hid ((handleE c.cf l x.mm iface now).reply.yi = y.x.yi) := by show _ = _; rw [← HYA.out]; rfl
  have HNE : Hid (∀ k, numE (handleE c.cf l x.mm iface now).reply.os k 4 = Ow.numL (osP y.x.ps) k 4) := fun k => by rw [← HYA.out]; rfl
  have HLE : Hid ((handleE c.cf l x.mm iface now).lease = y.l) := by show _ = _; rw [← HYA.out]; rfl
  clear hkd
  obtain ⟨gv, hgv⟩ : ∃ gv, gv = (y.send && (decide (kd = 5) && decide (y.x.yi ≠ 0))) := ⟨_, rfl⟩
  have HGV := Lib.hid hgv
  clear hgv
  simp only [Act.put]
  go_cut [12] from 28 to 42 (fun v wx => v = .bool gv ∧ wx = w3)
  case first =>
    obtain ⟨⟨y0, _, _, _, _, _, _, _, _, _, y10, _, _, _, y14, _, _, _, _, _, _, _⟩, _⟩ := cells22 (KY.out w3 HBB.out)
    cases hsd : y.send with
    | false =>
      obtain rfl : gv = false := by rw [HGV.out, hsd]; rfl
      rw [hsd] at y0
      clear hsd
      go_wp2_with fail
      go_meet
      exact ⟨rfl, rfl⟩
    | true =>
      rw [hsd] at y0
      have HG2 : Hid (gv = (decide (kd = 5) && decide (y.x.yi ≠ 0))) := by show _ = _; rw [HGV.out, hsd]; rfl
      clear hsd
      go_wp2_with fail
      refine (C1.out w3 HBB.out).mono ?_
      rintro e w4 ⟨rfl, rfl⟩
      by_cases h5 : kd = 5
      · subst h5
        by_cases h0 : y.x.yi = 0
        · obtain rfl : gv = false := by rw [HG2.out, h0]; rfl
          have h0b : (y.x.yi != 0) = false := by simp [h0]
          clear h0
          go_wp2_with fail
          go_meet
          exact ⟨rfl, rfl⟩
        · obtain rfl : gv = true := by rw [HG2.out, decide_eq_true h0]; rfl
          have h0b : (y.x.yi != 0) = true := by simpa using h0
          clear h0
          go_wp2_with fail
          go_meet
          exact ⟨rfl, rfl⟩
      · obtain rfl : gv = false := by rw [HG2.out, decide_eq_false h5]; rfl
        have h5b : (kd == 5) = false := by simpa using h5
        clear h5
        go_wp2_with fail
        go_meet
        exact ⟨rfl, rfl⟩
  case rest =>
  obtain ⟨rfl, hww⟩ := hcut
  obtain rfl := hww.symm
  cases gv with
  | false =>
    have HNG : Hid (¬ givesE (handleE c.cf l x.mm iface now)) := fun z => by
      obtain ⟨z1, z2, z3⟩ := z
      rw [HSE.out] at z1
      rw [HKD.out] at z2
      rw [HYI.out] at z3
      have := HGV.out
      rw [z1, decide_eq_true z2, decide_eq_true z3] at this
      cases this
    have HOR : Hid (y.send = false ∨ y.keep = false) := by show _ ∨ _; rw [← HSE.out, ← HKE.out]; exact keeps_not HNG.out
    obtain ⟨⟨y0, y1, _, _, _, _, _, _, _, _, _, _, _, _, _, _, _, _, _, _, _, _⟩, _⟩ := cells22 (KY.out w3 HBB.out)
    cases hsd : y.send with
    | false =>
      rw [hsd] at y0
      clear hsd
      go_wp2_with fail
      refine (KN.out w3 HB3.out).mono ?_
      rintro e wz ⟨rfl, hbz⟩
      go_wp2
      go_ret
      exact ⟨rfl, tr HB0.out (tr HB3.out hbz)⟩
    | true =>
      have hke : y.keep = false := by
        rcases HOR.out with q | q
        · rw [hsd] at q; cases q
        · exact q
      rw [hsd] at y0
      rw [hke] at y1
      clear hsd hke
      go_wp2_with fail
      refine (KN.out w3 HB3.out).mono ?_
      rintro e wz ⟨rfl, hbz⟩
      go_wp2
      go_ret
      exact ⟨rfl, tr HB0.out (tr HB3.out hbz)⟩
  | true =>
  have HGT : Hid (givesE (handleE c.cf l x.mm iface now)) := by
    have q := HGV.out.symm
    rw [Bool.and_eq_true, Bool.and_eq_true, decide_eq_true_iff, decide_eq_true_iff] at q
    exact ⟨HSE.out.trans q.1, HKD.out.trans q.2.1, by rw [HYI.out]; exact q.2.2⟩
  have HKG := Lib.hid (keeps_given HGT.out)
  have HFA := Lib.hid (gives HGT.out.1 HGT.out.2.2).1
  have HK1 : Hid (y.keep = true) := HKE.out.symm.trans HKG.out.1
  obtain ⟨tm, htm, hle⟩ := HKG.out.2
  rw [HNE.out] at htm
  rw [HLE.out, HYI.out] at hle
  have HT4 : Hid (0 ≤ (tm : Int) ∧ (tm : Int) ≤ 4294967295) := by have q := Ez.num_lt htm; show _ ∧ _; omega
  rw [htm] at C2
  have HLQ := Lib.hid hle
  clear htm hle
  go_upto_region 7 with fail
  obtain ⟨⟨m0, m1, m2, m3, m4, m5, m6⟩, m7, m8, m9, m10, m11, m12⟩ := KM.out w3 HB3.out
  go_wp2_with fail
  refine (Mw.as_msg x w3).mono ?_
  rintro e wj ⟨rfl, hbj⟩
  have HBJ := Lib.hid (tr HB3.out hbj)
  clear hbj m0 m1 m2 m3 m4 m5 m6 m7 m8 m9 m10 m11 m12
  go_wp2_with fail
  refine (Kw.refOf_any x wj (OX.out wj HBJ.out)).mono ?_
  rintro e wk ⟨kq, rfl, hkq, hbk⟩
  obtain rfl : kq = ba (ofK x.mm).1 := key_ba hkq
  have HBK := Lib.hid (tr HBJ.out hbk)
  clear hbk hkq
  generalize (ofK x.mm).2 = ke
  generalize (ofK x.mm).1 = kk at HLQ ⊢
  obtain ⟨⟨_, _, _, _, _, _, _, _, _, _, _, _, _, _, y14, _, _, _, _, _, _, _⟩, _⟩ := cells22 (KY.out wk HBK.out)
  go_wp2_with fail
  refine (C2.out wk HBK.out).mono ?_
  rintro e w5 ⟨rfl, hb5⟩
  have HB5 := Lib.hid (tr HBK.out hb5)
  clear hb5 y14
  have CE := Lib.hid (fun W => refEnd_any now (tm : Int) W HT4.out HFA.out.2.2.1)
  generalize endE now (tm : Int) = en at CE HLQ
  have HQ := fun W => leq_self (⟨y.x.yi, 1, en, kk⟩ : L) W
  have KY2 := Lib.hid (fun W (hW : Below w3.heap.size w3 W) => (by have q := cells22 (KY.out W hW); rw [HLQ.out, HK1.out] at q; exact ⟨q.1.2.1, q.1.2.2.2.2.2.2.2.2.2.2.1, q.1.2.2.2.2.2.2.2.2.2.2.2.2.2.2.2.2.2.2⟩ :
    W.cell? ⟨w2.heap.size, 1, none⟩ = some (.bool true) ∧ W.cell? ⟨w2.heap.size, 10, none⟩ = some (.int .i64 y.x.yi) ∧ W.cell? ⟨w2.heap.size, 18, none⟩ = some (.int .i64 y.x.yi) ∧ W.cell? ⟨w2.heap.size, 19, none⟩ = some (.int .i64 1) ∧ W.cell? ⟨w2.heap.size, 20, none⟩ = some (.int .i64 en) ∧ W.cell? ⟨w2.heap.size, 21, none⟩ = some (.string (ba kk))))
  go_upto_region 9 with fail
  refine wp_region_held_drew (S := fun W => W.cell? ⟨w2.heap.size, 1, none⟩ = some (.bool true) ∧ W.cell? ⟨w2.heap.size, 10, none⟩ = some (.int .i64 y.x.yi) ∧ W.cell? ⟨w2.heap.size, 18, none⟩ = some (.int .i64 y.x.yi) ∧ W.cell? ⟨w2.heap.size, 19, none⟩ = some (.int .i64 1) ∧ W.cell? ⟨w2.heap.size, 20, none⟩ = some (.int .i64 en) ∧ W.cell? ⟨w2.heap.size, 21, none⟩ = some (.string (ba kk))) (by kernel_rfl) (KY2.out _ HB5.out.drew) (fun hHeld => ?_)
  refine wpAnyH_take (i := 0) (v := .pointer (some ⟨w2.heap.size, 1, none⟩)) rfl (by kernel_rfl) (by kernel_rfl) (by kernel_rfl) (fun _ _ _ h => h) (.inl ⟨by rfl, fun w hSw => by go_simp⟩) hHeld ?_
  simp only [Act.put, gTo, gZe, sTo, sZe, sSu]
  refine wpAnyH_take (i := 1) (v := .bool true) rfl (by kernel_rfl) (by kernel_rfl) (by kernel_rfl) (fun _ _ _ h => h) (.inl ⟨by rfl, fun w hSw => by obtain ⟨s0, s1, s2, s3, s4, s5⟩ := hSw; go_simp⟩) hHeld ?_
  simp only [Act.put, gTo, gZe, gSu, sTo, sZe, sSu]
  refine wpAnyH_take (i := 2) (v := .bool true) rfl (by kernel_rfl) (by kernel_rfl) (by kernel_rfl) (fun _ _ _ h => h) (.inl ⟨by rfl, fun w hSw => by go_simp⟩) hHeld ?_
  simp only [Act.put, gTo, gZe, gSu, sTo, sZe, sSu]
  refine wpAnyH_take (i := 3) (v := .bool true) rfl (by kernel_rfl) (by kernel_rfl) (by kernel_rfl) (fun _ _ _ h => h) (.inl ⟨by rfl, fun w hSw => by go_simp⟩) hHeld ?_
  simp only [Act.put, gTo, gZe, gSu, sTo, sZe, sSu]
  refine wpAnyH_take (i := 4) (v := .bool true) rfl (by kernel_rfl) (by kernel_rfl) (by kernel_rfl) (fun _ _ _ h => h) (.inl ⟨by rfl, fun w hSw => by go_simp⟩) hHeld ?_
  simp only [Act.put, gTo, gZe, gSu, sTo, sZe, sSu]
  refine wpAnyH_take (i := 5) (v := .bool true) rfl (by kernel_rfl) (by kernel_rfl) (by kernel_rfl) (fun _ _ _ h => h) (.inl ⟨by rfl, fun w hSw => by go_simp⟩) hHeld ?_
  simp only [Act.put, gTo, gZe, gSu, sTo, sZe, sSu]
  refine wpAnyH_take (i := 6) (v := .pointer (some ⟨w2.heap.size, 18, none⟩)) rfl (by kernel_rfl) (by kernel_rfl) (by kernel_rfl) (fun _ _ _ h => h) (.inl ⟨by rfl, fun w hSw => by go_simp⟩) hHeld ?_
  simp only [Act.put, gTo, gZe, gSu, sTo, sZe, sSu]
  refine wpAnyH_take (i := 7) (v := .agg #[.int .i64 y.x.yi, .int .i64 1, .int .i64 en, .string (ba kk)]) rfl (by kernel_rfl) (by kernel_rfl) (by kernel_rfl) (fun _ _ _ h => h) (.inl ⟨by rfl, fun w hSw => by obtain ⟨s0, s1, s2, s3, s4, s5⟩ := hSw; go_simp⟩) hHeld ?_
  simp only [Act.put, gTo, gZe, gSu, sTo, sZe, sSu]
  refine wpAnyH_take (i := 8) (v := .pointer (some ⟨w2.heap.size, 2, none⟩)) rfl (by kernel_rfl) (by kernel_rfl) (by kernel_rfl) (fun _ _ _ h => h) (.inl ⟨by rfl, fun w hSw => by go_simp⟩) hHeld ?_
  simp only [Act.put, gTo, gZe, gSu, sTo, sZe, sSu]
  refine wpAnyH_take (i := 9) (v := .pointer (some ⟨w2.heap.size, 10, none⟩)) rfl (by kernel_rfl) (by kernel_rfl) (by kernel_rfl) (fun _ _ _ h => h) (.inl ⟨by rfl, fun w hSw => by go_simp⟩) hHeld ?_
  simp only [Act.put, gTo, gZe, gSu, sTo, sZe, sSu]
  refine wpAnyH_take (i := 10) (v := .int .i64 y.x.yi) rfl (by kernel_rfl) (by kernel_rfl) (by kernel_rfl) (fun _ _ _ h => h) (.inl ⟨by rfl, fun w hSw => by obtain ⟨s0, s1, s2, s3, s4, s5⟩ := hSw; go_simp⟩) hHeld ?_
  simp only [Act.put, gTo, gZe, gSu, sTo, sZe, sSu]
  refine wpAnyH_take (i := 11) (v := .int .i64 now) rfl (by kernel_rfl) (by kernel_rfl) (by kernel_rfl) (fun _ _ _ h => h) (.inl ⟨by rfl, fun w hSw => by go_simp⟩) hHeld ?_
  simp only [Act.put, gTo, gZe, gSu, sTo, sZe, sSu]
  refine wpAnyH_take (i := 12) (v := .int .i64 (tm : Int)) rfl (by kernel_rfl) (by kernel_rfl) (by kernel_rfl) (fun _ _ _ h => h) (.inl ⟨by rfl, fun w hSw => by go_simp⟩) hHeld ?_
  simp only [Act.put, gTo, gZe, gSu, sTo, sZe, sSu]
  refine wpAnyH_take (i := 14) (v := .string (ba kk)) rfl (by kernel_rfl) (by kernel_rfl) (by kernel_rfl) (fun _ _ _ h => h) (.inl ⟨by rfl, fun w hSw => by go_simp⟩) hHeld ?_
  simp only [Act.put, gTo, gZe, gSu, sTo, sZe, sSu]
  refine wpAnyH_ready (rs := [13]) (by kernel_rfl) (by simp) ?_
  refine AllReadyH.cons rfl (fun K2 hK2 => ?_) AllReadyH.nil
  go_simp
  go_at_call 22
  refine (CE.out _).mono ?_
  rintro ee wq1 ⟨rfl, hq1⟩
  have hbq1 : Below w3.heap.size w3 wq1 := by rw [← hq1]; exact HB5.out.drew
  clear hq1
  refine hK2.out _ _ (KY2.out _ hbq1) (fun hHeld => ?_)
  clear hK2 K2
  try simp only [Act.put, gTo, gZe, gSu, sTo, sZe, sSu]
  refine wpAnyH_take (i := 15) (v := .agg #[.int .i64 y.x.yi, .int .i64 1, .int .i64 en, .string (ba kk)]) rfl (by kernel_rfl) (by kernel_rfl) (by kernel_rfl) (fun _ _ _ h => h) (.inl ⟨by rfl, fun w hSw => by go_simp⟩) hHeld ?_
  simp only [Act.put, gTo, gZe, gSu, sTo, sZe, sSu]
  refine wpAnyH_take (i := 16) (v := .bool true) rfl (by kernel_rfl) (by kernel_rfl) (by kernel_rfl) (fun _ _ _ h => h) (.inl ⟨by rfl, fun w hSw => by go_simp⟩) hHeld ?_
  simp only [Act.put, gTo, gZe, gSu, sTo, sZe, sSu]
  refine wpAnyH_take (i := 17) (v := .bool true) rfl (by kernel_rfl) (by kernel_rfl) (by kernel_rfl) (fun _ _ _ h => h) (.inl ⟨by rfl, fun w hSw => by go_simp⟩) hHeld ?_
  simp only [Act.put, gTo, gZe, gSu, sTo, sZe, sSu]
  refine wpAnyH_take (i := 18) (v := .bool true) rfl (by kernel_rfl) (by kernel_rfl) (by kernel_rfl) (fun _ _ _ h => h) (.inl ⟨by rfl, fun w hSw => by go_simp⟩) hHeld ?_
  simp only [Act.put, gTo, gZe, gSu, sTo, sZe, sSu]
  refine wpAnyH_ready (rs := [19]) (by kernel_rfl) (by simp) ?_
  refine AllReadyH.cons rfl (fun K2 hK2 => ?_) AllReadyH.nil
  go_simp
  go_at_call 10
  refine (KN.out _ hbq1).mono ?_
  rintro ee wq2 ⟨rfl, hq2⟩
  have hbq2 : Below w3.heap.size w3 wq2 := tr hbq1 hq2
  refine hK2.out _ _ (KY2.out _ hbq2) (fun hHeld => ?_)
  clear hK2 K2
  try simp only [Act.put, gTo, gZe, gSu, sTo, sZe, sSu]
  refine wpAnyH_take (i := 20) (v := .bool true) rfl (by kernel_rfl) (by kernel_rfl) (by kernel_rfl) (fun _ _ _ h => h) (.inl ⟨by rfl, fun w hSw => by go_simp⟩) hHeld ?_
  simp only [Act.put, gTo, gZe, gSu, sTo, sZe, sSu]
  refine wpAnyH_take (i := 21) (v := .bool true) rfl (by kernel_rfl) (by kernel_rfl) (by kernel_rfl) (fun _ _ _ h => h) (.inl ⟨by rfl, fun w hSw => by go_simp⟩) hHeld ?_
  simp only [Act.put, gTo, gZe, gSu, sTo, sZe, sSu]
  refine wpAnyH_done (by kernel_rfl) ?_ _
  go_wp2
  go_ret
  exact ⟨rfl, tr HB0.out hbq2⟩
end Go.Proofs.YtoldppbakapohaaGreatDoor
