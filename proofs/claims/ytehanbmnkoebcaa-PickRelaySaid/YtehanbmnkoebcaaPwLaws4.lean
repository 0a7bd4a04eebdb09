/- The walk of PickRelay: it returns true, and what was in memory stays. Condition: the configuration and the message read. -/
import Derived.Test.YtehanbmnkoebcaaPwKnows
import Derived.Test.YtehanbmnkoebcaaVwE
import Derived.Test.YtehanbmnkoebcaaVwF
set_option maxRecDepth 8000
namespace Go.Proofs.Ytehanbmnkoebcaa
open Go.RowKit Tl Co Ms Ry Cf Ad By Pk Pw
open Vw (Cx FiR cel3C)
open Mw (cels13 withO with_cells)
theorem rightA_any (a : Int) (w : World) : Calls Try.prog 13 #[.int .i64 a] w (Vw.isB (Ad.rightB a) w) := (Aw.refRight_any a w).mono fun _ _ h => ⟨h.1, h.2 ▸ Below.refl _ _⟩
theorem grown_at (w : World) (g j : Nat) (v : Value) : w.grownBy (w.setCell ⟨g, j, none⟩ v) (some g) :=
  ⟨rfl, rfl, rfl, by simp, fun k _ hne => Below.heap_setCell w ⟨g, j, none⟩ v k (fun e => hne (by rw [e]))⟩
theorem bytes_far {e B n c : Nat} {w : World} {A : Option Addr} {l : List UInt8} (h : Own e B w A n c l) {g : Nat} (hg : g < B) (j : Nat) (v : Value) : Own e B (w.setCell ⟨g, j, none⟩ v) A n c l := by
  refine World.ownsRow.kept h (grown_at w g j v) ?_
  by_cases k : (Value.slice A n c).ownBlock = none
  · exact .inl k
  · refine .inr fun k2 => ?_
    have := (World.ownsRow.lt h g k2).1
    omega
theorem opts_far {e B n c : Nat} {w : World} {A : Option Addr} {ps : List Po} (h : OwnC e B w A n c ps) {g : Nat} (hg : g < B) (j : Nat) (v : Value) : OwnC e B (w.setCell ⟨g, j, none⟩ v) A n c ps := by
  refine World.ownsRow.kept h (grown_at w g j v) ?_
  by_cases k : (Value.slice A n c).ownBlock = none
  · exact .inl k
  · refine .inr fun k2 => ?_
    have := (World.ownsRow.lt h g k2).1
    omega
theorem lit9 (e : Nat) (w : World) (x3 x2 x1 x0 : UInt8) : Own e w.heap.size (w.alloc (.cells #[.int .u8 1, .int .u8 1, .int .u8 7, .int .u8 5, .int .u8 4, .int .u8 (x3.toNat : Int), .int .u8 (x2.toNat : Int), .int .u8 (x1.toNat : Int), .int .u8 (x0.toNat : Int)] e)) (some ⟨w.heap.size, 0, none⟩) 9 9 [1, 1, 7, 5, 4, x3, x2, x1, x0] :=
  World.ownsRow_lit w #[.int .u8 1, .int .u8 1, .int .u8 7, .int .u8 5, .int .u8 4, .int .u8 (x3.toNat : Int), .int .u8 (x2.toNat : Int), .int .u8 (x1.toNat : Int), .int .u8 (x0.toNat : Int)] 9 (Nat.le_refl _) (by unfold maxLen; omega) rfl
/-- The option 82 that tells an address, made and stored in a box. -/
theorem relay_made (w : World) (g : Nat) (hg : g < w.heap.size) (x3 x2 x1 x0 : UInt8) (u : Value) :
    RdO (((w.alloc (.cells #[.int .u8 1, .int .u8 1, .int .u8 7, .int .u8 5, .int .u8 4, .int .u8 (x3.toNat : Int), .int .u8 (x2.toNat : Int), .int .u8 (x1.toNat : Int), .int .u8 (x0.toNat : Int)] 5)).alloc (.cells #[.int .i64 82, .slice (some ⟨w.heap.size, 0, none⟩) 9 9] 40)).setCell ⟨g, 12, none⟩ u) (some ⟨w.heap.size + 1, 0, none⟩) 1 1 [⟨82, some ⟨w.heap.size, 0, none⟩, 9, [1, 1, 7, 5, 4, x3, x2, x1, x0]⟩] ∧
    Below w.heap.size w ((w.alloc (.cells #[.int .u8 1, .int .u8 1, .int .u8 7, .int .u8 5, .int .u8 4, .int .u8 (x3.toNat : Int), .int .u8 (x2.toNat : Int), .int .u8 (x1.toNat : Int), .int .u8 (x0.toNat : Int)] 5)).alloc (.cells #[.int .i64 82, .slice (some ⟨w.heap.size, 0, none⟩) 9 9] 40)) := by
  have h1 := lit9 5 w x3 x2 x1 x0
  have hs : (w.alloc (.cells #[.int .u8 1, .int .u8 1, .int .u8 7, .int .u8 5, .int .u8 4, .int .u8 (x3.toNat : Int), .int .u8 (x2.toNat : Int), .int .u8 (x1.toNat : Int), .int .u8 (x0.toNat : Int)] 5)).heap.size = w.heap.size + 1 := by simp
  have h2 := OwnC.lit1m 40 (w.alloc (.cells #[.int .u8 1, .int .u8 1, .int .u8 7, .int .u8 5, .int .u8 4, .int .u8 (x3.toNat : Int), .int .u8 (x2.toNat : Int), .int .u8 (x1.toNat : Int), .int .u8 (x0.toNat : Int)] 5)) 82 (some ⟨w.heap.size, 0, none⟩) 9 9 [1, 1, 7, 5, 4, x3, x2, x1, x0] rfl
  have hb := alloc_more (w.alloc (.cells #[.int .u8 1, .int .u8 1, .int .u8 7, .int .u8 5, .int .u8 4, .int .u8 (x3.toNat : Int), .int .u8 (x2.toNat : Int), .int .u8 (x1.toNat : Int), .int .u8 (x0.toNat : Int)] 5)) (.cells #[.int .i64 82, .slice (some ⟨w.heap.size, 0, none⟩) 9 9] 40)
  have hb0 := alloc_more w (.cells #[.int .u8 1, .int .u8 1, .int .u8 7, .int .u8 5, .int .u8 4, .int .u8 (x3.toNat : Int), .int .u8 (x2.toNat : Int), .int .u8 (x1.toNat : Int), .int .u8 (x0.toNat : Int)] 5)
  rw [hs] at h2
  have h3 := opts_far h2 (show g < w.heap.size + 1 by omega) 12 u
  have h4 := bytes_far (h1.below hb) hg 12 u
  refine ⟨⟨h3.rdc, fun p hp => ?_⟩, hb0.trans (hb.mono hb0.size)⟩
  simp only [List.mem_singleton] at hp
  subst hp
  exact h4.bs
theorem val4 {v : Nat} (hv : v < 4294967296) : valL [byteV (v / 256 / 256 / 256), byteV (v / 256 / 256), byteV (v / 256), byteV v] = v := valL_putL 4 v hv

set_option maxHeartbeats 16000000 in
theorem pickRelay_walk (c : Cx) (x : Mv) (a i : Int) (w : World) (hc : c.ok w.heap.size w) (h : x.ok w) : Calls Try.prog 4 #[c.v, x.v, .int .i64 a, .int .i64 i] w (isTrue w) := by
  obtain ⟨w0, hw0, hc0, hm0, hb0, hz⟩ := boxCM w c x 25
  have hx0 := h.below hb0
  have hk0 := hc.below hb0
  have hU0 := hb0.size
  have HG := Lib.hid (Mw.great_msg x w0 hx0)
  have HGC := Lib.hid (fun W (hW : Below w0.heap.size w0 W) => Vw.great_any c w.heap.size W (hk0.below (hW.mono hU0)) (Nat.le_trans hU0 hW.size))
  have HB := Lib.hid hb0
  have HM := Lib.hid hm0
  have HC := Lib.hid hc0
  have HB0 := Lib.hid (Below.refl w0.heap.size w0)
  cases hg : Mw.greatM x.mm with
  | true =>
    rw [hg] at HG
    clear hg hc0 hm0 hb0 h hc hz HGC hx0 hk0 hU0
    go_enter Try.func4, Try.ntmps4
    go_wp2_with fail
    rw [← hw0]
    clear hw0
    refine HG.out.mono ?_
    rintro e w1 ⟨rfl, hb⟩
    have HB1 := Lib.hid hb
    clear hb
    go_wp2_with fail
    refine (Pw.knows_yes _).mono ?_
    rintro e wz ⟨rfl, hbz⟩
    go_wp2
    go_ret
    exact ⟨rfl, HB.out.trans ((HB1).out.trans (hbz.mono (HB1).out.size) |>.mono HB.out.size)⟩
  | false =>
  rw [hg] at HG
  cases hgc : greatC c.cf with
  | true =>
    rw [hgc] at HGC
    clear hg hgc hc0 hm0 hb0 h hc hz hx0 hk0 hU0
    go_enter Try.func4, Try.ntmps4
    go_wp2_with fail
    rw [← hw0]
    clear hw0
    refine HG.out.mono ?_
    rintro e w1 ⟨rfl, hb⟩
    have HB1 := Lib.hid hb
    clear hb
    obtain ⟨x0, x1, x2⟩ := cel3C (HC.out.below HB1.out HC.out.lt)
    go_wp2_with fail
    refine (HGC.out w1 HB1.out).mono ?_
    rintro e w2 ⟨rfl, hb⟩
    have HB2 := Lib.hid (HB1.out.trans (hb.mono HB1.out.size))
    clear hb x0 x1 x2
    go_wp2_with fail
    refine (Pw.knows_yes _).mono ?_
    rintro e wz ⟨rfl, hbz⟩
    go_wp2
    go_ret
    exact ⟨rfl, HB.out.trans ((HB2).out.trans (hbz.mono (HB2).out.size) |>.mono HB.out.size)⟩
  | false =>
  rw [hgc] at HGC
  have hsm := small_ms hg
  have hS := small_iff.1 hgc
  clear hg hgc
  have HRA := Lib.hid (rightA_any a)
  cases hra : Ad.rightB a with
  | false =>
    rw [hra] at HRA
    clear hra hc0 hm0 hb0 h hc hz hx0 hk0 hU0 hS hsm
    go_enter Try.func4, Try.ntmps4
    go_wp2_with fail
    rw [← hw0]
    clear hw0
    refine HG.out.mono ?_
    rintro e w1 ⟨rfl, hb⟩
    have HB1 := Lib.hid hb
    clear hb
    obtain ⟨x0, x1, x2⟩ := cel3C (HC.out.below HB1.out HC.out.lt)
    go_wp2_with fail
    refine (HGC.out w1 HB1.out).mono ?_
    rintro e w2 ⟨rfl, hb⟩
    have HB2 := Lib.hid (HB1.out.trans (hb.mono HB1.out.size))
    clear hb x0 x1 x2
    go_wp2_with fail
    refine (HRA.out w2).mono ?_
    rintro e w3 ⟨rfl, hb⟩
    have HB3 := Lib.hid (HB2.out.trans (hb.mono HB2.out.size))
    clear hb
    go_wp2_with fail
    refine (Pw.knows_yes _).mono ?_
    rintro e wz ⟨rfl, hbz⟩
    go_wp2
    go_ret
    exact ⟨rfl, HB.out.trans ((HB3).out.trans (hbz.mono (HB3).out.size) |>.mono HB.out.size)⟩
  | true =>
  rw [hra] at HRA
  obtain ⟨ha0, ha1⟩ := Ad.rightB_iff.1 hra
  obtain ⟨v, rfl⟩ := Int.eq_ofNat_of_zero_le ha0
  have hv : v < 4294967296 := by omega
  clear hra ha0 ha1
  have HOS : Hid (∀ W, Below w.heap.size w0 W → c.ok w.heap.size W ∧ Bs W x.A x.n x.c x.ch) := fun W hW => ⟨hk0.below hW, h.ch.below (hb0.trans hW)⟩
  have HS := Lib.hid hS
  have HZ := Lib.hid hz
  clear hc0 hm0 hb0 h hc hz hx0 hk0 hU0 hS hsm
  obtain ⟨x3, hx3⟩ : ∃ x, x = byteV (v / 256 / 256 / 256) := ⟨_, rfl⟩
  obtain ⟨x2, hx2⟩ : ∃ x, x = byteV (v / 256 / 256) := ⟨_, rfl⟩
  obtain ⟨x1, hx1⟩ : ∃ x, x = byteV (v / 256) := ⟨_, rfl⟩
  obtain ⟨x0, hx0⟩ : ∃ x, x = byteV v := ⟨_, rfl⟩
  have HVL : Hid (valL [x3, x2, x1, x0] = v) := by
    have e := val4 hv
    rw [← hx3, ← hx2, ← hx1, ← hx0] at e
    exact e
  have hv0 : (0 : Int) ≤ (v : Int) := by omega
  go_enter Try.func4, Try.ntmps4
  go_wp2_with fail
  rw [← hw0]
  clear hw0
  refine HG.out.mono ?_
  rintro e w1 ⟨rfl, hb⟩
  have HB1 := Lib.hid hb
  clear hb
  obtain ⟨x0, x1, x2⟩ := cel3C (HC.out.below HB1.out HC.out.lt)
  go_wp2_with fail
  refine (HGC.out w1 HB1.out).mono ?_
  rintro e w2 ⟨rfl, hb⟩
  have HB2 := Lib.hid (HB1.out.trans (hb.mono HB1.out.size))
  clear hb x0 x1 x2
  go_wp2_with fail
  refine (HRA.out w2).mono ?_
  rintro e w3 ⟨rfl, hb⟩
  have HB3 := Lib.hid (HB2.out.trans (hb.mono HB2.out.size))
  clear hb
  have hm3 := HM.out.below HB3.out HM.out.lt
  have hg3 : w.heap.size + 1 < w3.heap.size := hm3.lt
  have hmade := relay_made w3 (w.heap.size + 1) hg3 x3 x2 x1 x0 (.slice (some ⟨w3.heap.size + 1, 0, none⟩) 1 1)
  rw [show (x3.toNat : Int) = (v : Int) / 16777216 by rw [hx3, byteV_toNat]; omega, show (x2.toNat : Int) = (v : Int) / 65536 % 256 by rw [hx2, byteV_toNat]; omega, show (x1.toNat : Int) = (v : Int) / 256 % 256 by rw [hx1, byteV_toNat]; omega, show (x0.toNat : Int) = (v : Int) % 256 by rw [hx0, byteV_toNat]; omega] at hmade
  have y12 : w3.cell? ⟨w.heap.size + 1, 12, none⟩ = some (.slice x.B x.m x.d) := (cels13 hm3).2.2.2.2.2.2.2.2.2.2.2.2.1
  obtain ⟨w4, hw4⟩ : ∃ w4, w4 = (w3.alloc (.cells #[.int .u8 1, .int .u8 1, .int .u8 7, .int .u8 5, .int .u8 4, .int .u8 ((v : Int) / 16777216), .int .u8 ((v : Int) / 65536 % 256), .int .u8 ((v : Int) / 256 % 256), .int .u8 ((v : Int) % 256)] 5)).alloc (.cells #[.int .i64 82, .slice (some ⟨w3.heap.size, 0, none⟩) 9 9] 40) := ⟨_, rfl⟩
  rw [← hw4] at hmade
  obtain ⟨hro, hb34⟩ := hmade
  obtain ⟨w5, hw5⟩ : ∃ w5, w5 = w4.setCell ⟨w.heap.size + 1, 12, none⟩ (.slice (some ⟨w3.heap.size + 1, 0, none⟩) 1 1) := ⟨_, rfl⟩
  rw [← hw5] at hro
  have hm4 := hm3.below hb34 hm3.lt
  have f12 : ((w3.alloc (.cells #[.int .u8 1, .int .u8 1, .int .u8 7, .int .u8 5, .int .u8 4, .int .u8 ((v : Int) / 16777216), .int .u8 ((v : Int) / 65536 % 256), .int .u8 ((v : Int) / 256 % 256), .int .u8 ((v : Int) % 256)] 5)).alloc (.cells #[.int .i64 82, .slice (some ⟨w3.heap.size, 0, none⟩) 9 9] 40)).frozen? ⟨w.heap.size + 1, 12, none⟩ = false := by rw [← hw4]; exact Mw.Cel.frozen hm4 12
  have y12e : ((w3.alloc (.cells #[.int .u8 1, .int .u8 1, .int .u8 7, .int .u8 5, .int .u8 4, .int .u8 ((v : Int) / 16777216), .int .u8 ((v : Int) / 65536 % 256), .int .u8 ((v : Int) / 256 % 256), .int .u8 ((v : Int) % 256)] 5)).alloc (.cells #[.int .i64 82, .slice (some ⟨w3.heap.size, 0, none⟩) 9 9] 40)).cell? ⟨w.heap.size + 1, 12, none⟩ = some (.slice x.B x.m x.d) := by rw [← hw4]; exact (cels13 hm4).2.2.2.2.2.2.2.2.2.2.2.2.1
  have hb04 : Below w.heap.size w0 w4 := (HB3.out.trans (hb34.mono HB3.out.size)).mono HB.out.size
  have hb5 : Below w.heap.size w0 w5 := by
    rw [hw5]
    exact hb04.setCell (p := ⟨w.heap.size + 1, 12, none⟩) (Nat.le_succ _) _
  have hm5 : Cel w5 (w.heap.size + 1) 25 (withO x (some ⟨w3.heap.size + 1, 0, none⟩) 1 1 [⟨82, some ⟨w3.heap.size, 0, none⟩, 9, [1, 1, 7, 5, 4, x3, x2, x1, x0]⟩]).cells := by
    rw [hw5]
    exact with_cells x hm4 _ _ _ _
  have hc5 : Cel w5 w.heap.size 35 c.cs := by
    rw [hw5]
    exact Mw.Cel.far ((HC.out.below HB3.out HC.out.lt).below hb34 (Nat.lt_of_lt_of_le HC.out.lt HB3.out.size)) (Nat.ne_of_lt (Nat.lt_succ_self _)) 12 _
  have HW := Lib.hid (show w5 = ((w3.alloc (.cells #[.int .u8 1, .int .u8 1, .int .u8 7, .int .u8 5, .int .u8 4, .int .u8 ((v : Int) / 16777216), .int .u8 ((v : Int) / 65536 % 256), .int .u8 ((v : Int) / 256 % 256), .int .u8 ((v : Int) % 256)] 5)).alloc (.cells #[.int .i64 82, .slice (some ⟨w3.heap.size, 0, none⟩) 9 9] 40)).setCell ⟨w.heap.size + 1, 12, none⟩ (.slice (some ⟨w3.heap.size + 1, 0, none⟩) 1 1) by rw [hw5, hw4])
  obtain ⟨y, hy⟩ : ∃ y, y = withO x (some ⟨w3.heap.size + 1, 0, none⟩) 1 1 [⟨82, some ⟨w3.heap.size, 0, none⟩, 9, [1, 1, 7, 5, 4, x3, x2, x1, x0]⟩] := ⟨_, rfl⟩
  have HVS : Hid (∀ W, Below w5.heap.size w5 W → Below w.heap.size w0 W) := fun W hW => hb5.trans (hW.mono (Nat.le_trans HB.out.size hb5.size))
  have HYO : Hid (∀ W, Below w5.heap.size w5 W → y.ok W) := fun W hW => by
    rw [hy]
    exact ⟨(HOS.out W (HVS.out W hW)).2, hro.below hW⟩
  have hps : y.ps = [⟨82, some ⟨w3.heap.size, 0, none⟩, 9, [1, 1, 7, 5, 4, x3, x2, x1, x0]⟩] := by rw [hy]
  have HPL : Hid (placeM y.mm = ((v : Int), true)) := by
    have e := place_told y.mm x3 x2 x1 x0 (by show osP y.ps = _; rw [hps]; rfl)
    rw [HVL.out] at e
    exact e
  rw [← hy] at hm5
  have hyv : y.op = x.op ∧ y.htype = x.htype ∧ y.hlen = x.hlen ∧ y.hops = x.hops ∧ y.xid = x.xid ∧ y.secs = x.secs ∧ y.flags = x.flags ∧ y.ci = x.ci ∧ y.yi = x.yi ∧ y.si = x.si ∧ y.gi = x.gi := by rw [hy]; exact ⟨rfl, rfl, rfl, rfl, rfl, rfl, rfl, rfl, rfl, rfl, rfl⟩
  have hsm : ∀ p ∈ y.ps, p.l.length ≤ 1000 := by
    rw [hps]
    intro p hp
    simp only [List.mem_singleton] at hp
    subst hp
    show (9 : Nat) ≤ 1000
    omega
  have HP := Lib.hid (fun W (hW : Below w5.heap.size w5 W) => subnet_any c y i w.heap.size W (HOS.out W (HVS.out W hW)).1 (Nat.le_trans HB.out.size (HVS.out W hW).size) HS.out (HYO.out W hW) hsm)
  have HR := Lib.hid (fun W (hW : Below w5.heap.size w5 W) => Mw.refRight_msg y W (HYO.out W hW))
  have HF : Hid (∀ W : World, Below w5.heap.size w5 W → Calls Try.prog 16 #[c.v, .int .i64 (v : Int)] W (FiR (findC c.cf (v : Int)) W)) := fun W hW => Vw.find_doc c (v : Int) ▸ Vw.findX_any c (v : Int) w.heap.size W (HOS.out W (HVS.out W hW)).1 (Nat.le_trans HB.out.size (HVS.out W hW).size) HS.out
  have HG2 := Lib.hid (fun W (hW : Below w5.heap.size w5 W) => Vw.refFind_any c (v : Int) w.heap.size W (HOS.out W (HVS.out W hW)).1 (Nat.le_trans HB.out.size (HVS.out W hW).size) HS.out)
  have HT : Hid (rightM y.mm = true → subnetM c.cf y.mm i = findC c.cf (v : Int)) := fun hr => sub_at hr HPL.out
  generalize findC c.cf (v : Int) = t at HF HG2 HT
  obtain ⟨t1, t2, t3⟩ := t
  have he1 : (t1 == t1) = true := beq_self_eq_true _
  have he2 : (t2 == t2) = true := beq_self_eq_true _
  have he3 : (t3 == t3) = true := beq_self_eq_true _
  have HM := Lib.hid hm5
  have HC := Lib.hid hc5
  have HB5 := Lib.hid (Below.refl w5.heap.size w5)
  clear hw4 hw5 hro hb34 hm4 hb04 hb5 hm5 hc5 hps hyv hsm hy hx3 hx2 hx1 hx0 hm3
  go_upto_region 4 with fail
  rw [← HW.out]
  clear HW f12 y12 y12e hg3
  obtain ⟨⟨m0, m1, m2, m3, m4, m5, m6⟩, m7, m8, m9, m10, m11, m12⟩ := celM_all (HM.out.below HB5.out HM.out.lt)
  go_wp2_with fail
  refine (Mw.as_msg y w5).mono ?_
  rintro e w6 ⟨rfl, hb⟩
  have HB6 := Lib.hid (HB5.out.trans (hb.mono HB5.out.size))
  clear hb m0 m1 m2 m3 m4 m5 m6 m7 m8 m9 m10 m11 m12
  go_wp2_with fail
  refine (HR.out w6 HB6.out).mono ?_
  rintro e w7 ⟨rfl, hb⟩
  have HB7 := Lib.hid (HB6.out.trans (hb.mono HB6.out.size))
  clear hb
  cases hr : rightM y.mm with
  | false =>
    go_wp2_with fail
    refine (Pw.knows_yes _).mono ?_
    rintro e wz ⟨rfl, hbz⟩
    go_wp2
    go_ret
    exact ⟨rfl, HB.out.trans (HVS.out _ (HB7.out.trans (hbz.mono HB7.out.size)))⟩
  | true =>
    have HE := Lib.hid (HT.out hr)
    rw [HE.out] at HP
    clear hr HT HE
    obtain ⟨⟨m0, m1, m2, m3, m4, m5, m6⟩, m7, m8, m9, m10, m11, m12⟩ := celM_all (HM.out.below HB7.out HM.out.lt)
    obtain ⟨x0, x1, x2⟩ := cel3C (HC.out.below HB7.out HC.out.lt)
    go_wp2_with fail
    refine (HP.out w7 HB7.out).mono ?_
    rintro e w8 ⟨rfl, hb⟩
    have HB8 := Lib.hid (HB7.out.trans (hb.mono HB7.out.size))
    clear hb m0 m1 m2 m3 m4 m5 m6 m7 m8 m9 m10 m11 m12 x0 x1 x2
    obtain ⟨x0, x1, x2⟩ := cel3C (HC.out.below HB8.out HC.out.lt)
    go_wp2_with fail
    refine (HF.out w8 HB8.out).mono ?_
    rintro e w9 ⟨rfl, hb⟩
    have HB9 := Lib.hid (HB8.out.trans (hb.mono HB8.out.size))
    clear hb x0 x1 x2
    obtain ⟨x0, x1, x2⟩ := cel3C (HC.out.below HB9.out HC.out.lt)
    go_wp2_with fail
    refine (HG2.out w9 HB9.out).mono ?_
    rintro e w10 ⟨rfl, hb⟩
    have HB10 := Lib.hid (HB9.out.trans (hb.mono HB9.out.size))
    clear hb x0 x1 x2
    go_wp2_with fail
    refine (Pw.knows_yes _).mono ?_
    rintro e wz ⟨rfl, hbz⟩
    go_wp2
    go_ret
    exact ⟨rfl, HB.out.trans (HVS.out _ (HB10.out.trans (hbz.mono HB10.out.size)))⟩
end Go.Proofs.Ytehanbmnkoebcaa
