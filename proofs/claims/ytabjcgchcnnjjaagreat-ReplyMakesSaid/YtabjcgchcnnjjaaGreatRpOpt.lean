/- What reply's options come to: the list, in its own memory. Conditions: the message's options are right, the numbers are 32-bit ones. -/
import Derived.Test.YtabjcgchcnnjjaaGreatRpSub
import Derived.Deep.CutRange
import Derived.Deep.DeepCutAuto
set_option maxRecDepth 8000
namespace Go.Proofs.YtabjcgchcnnjjaaGreat.Rpw
open Go.RowKit Tl Co Ms Cf Ad By Ow Rp
open Pw (alloc_more celM_all boxM)
open Vw (Cx Sx cel7)

theorem fair4 {v : Int} (h : rightB v = true) : Cw.fairB v 4 = true := by
  have := rightB_iff.1 h
  have p4 : p256 4 = 4294967296 := by decide
  exact (fairB_iff v 4).2 ⟨by omega, by omega, by omega, by show v < ((p256 4 : Nat) : Int); rw [p4]; omega⟩
theorem fair1 {k : Int} (h : k = 2 ∨ k = 5 ∨ k = 6) : Cw.fairB k 1 = true := by rcases h with rfl | rfl | rfl <;> decide
theorem byte1 {k : Int} (h : k = 2 ∨ k = 5 ∨ k = 6) : putL k.toNat (1 : Int).toNat = [byteI k] := by rcases h with rfl | rfl | rfl <;> rfl
theorem bo_le {g : Nat} {w : World} {L : List O} (h : Bo g w L) : g ≤ w.heap.size := by
  obtain ⟨_, _, _, _, B, hg, hB, _⟩ := h
  exact Nat.le_of_lt (Nat.lt_of_lt_of_le hg hB)
/-! ### The list, stage by stage -/
def O2 (srv kind : Int) : List O := ([] ++ [((53 : Int), [byteI kind])]) ++ [((54 : Int), numB srv 4)]
def O3 (srv kind : Int) (s : Sn) (p : Bool) : List O := O2 srv kind ++ ifL p 51 (numB s.time 4)
def O4 (srv kind : Int) (s : Sn) (p q : Bool) : List O := O3 srv kind s p ++ ifL q 1 (numB (4294967296 - sz s.bits) 4)
def O5 (srv kind : Int) (s : Sn) (p q r : Bool) : List O := O4 srv kind s p q ++ ifL r 3 (numB s.router 4)
theorem o_all (srv : Int) (s : Sn) (l : List O) (kind yi : Int) : optsR srv s l kind yi = (O5 srv kind s (!decide (kind = 6) && decide (0 < yi)) (!decide (kind = 6) && asksL l 1) (!decide (kind = 6) && (asksL l 3 && decide (0 < s.router))) ++ echoL l 61) ++ echoL l 82 := by
  unfold optsR O5 O4 O3 O2
  simp only [List.nil_append, List.append_assoc]
theorem o_nak (srv : Int) (s : Sn) (l : List O) (yi : Int) : optsR srv s l 6 yi = (O2 srv 6 ++ echoL l 61) ++ echoL l 82 := by
  rw [o_all]
  simp [O5, O4, O3, ifL]
theorem o_ack {kind yi : Int} (srv : Int) (s : Sn) (l : List O) (hk : kind ≠ 6) (hy : 0 ≤ yi) (hr : 0 ≤ s.router) : optsR srv s l kind yi = (O5 srv kind s (yi != 0) (asksL l 1) (s.router != 0 && asksL l 3) ++ echoL l 61) ++ echoL l 82 := by
  have h1 : decide (kind = 6) = false := decide_eq_false hk
  have h2 : decide (0 < yi) = (yi != 0) := by rw [Bool.eq_iff_iff]; simp; omega
  have h3 : decide (0 < s.router) = (s.router != 0) := by rw [Bool.eq_iff_iff]; simp; omega
  rw [o_all, h1, h2, h3, Bool.and_comm (asksL l 3)]
  simp
theorem sm2 (srv kind : Int) : Sm [54, 53] (O2 srv kind) := (Sm.nil.snoc 53 (by simp)).snoc 54 (by rw [numB_len]; omega)
theorem sm3 (srv kind : Int) (s : Sn) (p : Bool) : Sm [51, 54, 53] (O3 srv kind s p) := (sm2 srv kind).iff p 51 (by rw [numB_len]; omega)
theorem sm4 (srv kind : Int) (s : Sn) (p q : Bool) : Sm [1, 51, 54, 53] (O4 srv kind s p q) := (sm3 srv kind s p).iff q 1 (by rw [numB_len]; omega)
theorem sm5 (srv kind : Int) (s : Sn) (p q r : Bool) : Sm [3, 1, 51, 54, 53] (O5 srv kind s p q r) := (sm4 srv kind s p q).iff r 3 (by rw [numB_len]; omega)
theorem boxO3 (w : World) (s : Sx) (pn rn : Nat) (x : Mv) : ∃ w3, w3 = ((w.alloc (.cells (s.cs pn rn) 51)).alloc (.cells x.cells 28)).alloc (.cells #[.slice none 0 0] 26) ∧
    Cel w3 w.heap.size 51 (s.cs pn rn) ∧ Cel w3 (w.heap.size + 1) 28 x.cells ∧ Bo (w.heap.size + 2) w3 [] ∧ Below w.heap.size w w3 := by
  have ca := Cel.born w 51 (s.cs pn rn)
  have ba := alloc_more w (.cells (s.cs pn rn) 51)
  have sa : (w.alloc (.cells (s.cs pn rn) 51)).heap.size = w.heap.size + 1 := by simp
  refine ⟨_, rfl, ?_⟩
  generalize w.alloc (.cells (s.cs pn rn) 51) = wa at ca ba sa
  have cb := Cel.born wa 28 x.cells
  have bb := alloc_more wa (.cells x.cells 28)
  have sb : (wa.alloc (.cells x.cells 28)).heap.size = w.heap.size + 2 := by simp; omega
  generalize wa.alloc (.cells x.cells 28) = wb at cb bb sb
  have cc := Bo.born wb
  have bc := alloc_more wb (.cells #[.slice none 0 0] 26)
  rw [sa] at cb
  rw [sb] at cc
  exact ⟨(ca.below bb ca.lt).below bc (by omega), cb.below bc cb.lt, cc, (ba.trans (bb.mono ba.size)).trans (bc.mono (by omega))⟩

set_option maxHeartbeats 8000000 in
theorem options_any (srv : Int) (s : Sx) (pn rn : Nat) (x : Mv) (kind yi : Int) (w : World) (hx : x.ok w) (hr : rightL (osP x.ps) = true) (hsm : ∀ p ∈ x.ps, p.l.length ≤ 1000)
    (h1 : rightB srv = true) (h2 : rightB s.time = true) (h3 : rightB (4294967296 - sz s.bits) = true) (h4 : bitsB s.bits = true) (h5 : rightB s.router = true) (h6 : rightB yi = true) (hk : kind = 2 ∨ kind = 5 ∨ kind = 6) :
    Calls Tryz.prog 23 #[.int .i64 srv, s.v pn rn, x.v, .int .i64 kind, .int .i64 yi] w (KpR w (optsR srv s.s (osP x.ps) kind yi) fun v => v) := by
  obtain ⟨w3, hw3, hcs, hcm, hbo, hb0⟩ := boxO3 w s pn rn x
  have HCS := Lib.hid hcs
  have HCM := Lib.hid hcm
  have HB0 := Lib.hid hb0
  have HX := Lib.hid (fun W (hW : Below (w.heap.size + 2) w3 W) => hx.below (hb0.trans (hW.mono (Nat.le_add_right _ 2))))
  have HO := Lib.hid hbo
  have HB := Lib.hid (Below.refl (w.heap.size + 2) w3)
  have HS2 : Hid (∀ W : World, Below (w.heap.size + 2) w3 W → _) := fun W hW => cel7 (hcs.below hW (by omega))
  have HM2 : Hid (∀ W : World, Below (w.heap.size + 2) w3 W → _) := fun W hW => celM_all (hcm.below hW (by omega))
  have HC2 : Hid (∀ W : World, Below (w.heap.size + 2) w3 W → Cel W (w.heap.size + 1) 28 x.cells) := fun W hW => hcm.below hW (by omega)
  have HR := Lib.hid hr
  have HSM := Lib.hid hsm
  have F1 := Lib.hid (fair4 h1)
  have F2 := Lib.hid (fair4 h2)
  have F3 := Lib.hid (fair4 h3)
  have F5 := Lib.hid (fair4 h5)
  have FK := Lib.hid (fair1 hk)
  have BK := Lib.hid (byte1 hk)
  have HBI := Lib.hid h4
  have HY : Hid (0 ≤ yi) := (rightB_iff.1 h6).1
  have HRO : Hid (0 ≤ s.router) := (rightB_iff.1 h5).1
  clear hcs hcm hbo hb0 hx hr hsm h1 h2 h3 h4 h5 h6
  by_cases h6 : kind = 6
  · subst h6
    go_enter Tryz.func23, Tryz.ntmps23
    go_upto_region 2 with fail
    rw [← hw3]
    clear hw3
    go_wp2_with fail
    refine (put_any (w.heap.size + 2) [] [] 53 6 1 w3 HO.out Sm.nil (by decide) (by decide) FK.out (by decide)).mono ?_
    rintro e w4 ⟨rfl, hbo, hb⟩
    have HO : Hid (Bo (w.heap.size + 2) w4 ([] ++ [((53 : Int), [byteI 6])])) := by rw [BK.out] at hbo; exact hbo
    have HB := Lib.hid (HB.out.trans hb)
    clear hbo hb
    go_wp2_with fail
    refine (put_any (w.heap.size + 2) [53] _ 54 srv 4 w4 HO.out (Sm.nil.snoc 53 (by simp)) (by decide) (by decide) F1.out (by decide)).mono ?_
    rintro e w5 ⟨rfl, hbo, hb⟩
    have HO : Hid (Bo (w.heap.size + 2) w5 (O2 srv 6)) := hbo
    have HB := Lib.hid (HB.out.trans hb)
    clear hbo hb
    go_wp2_with fail
    refine (give_any x (w.heap.size + 2) (w.heap.size + 1) [54, 53] (O2 srv 6) 61 w5 HO.out (sm2 srv 6) (by decide) (by decide) (HC2.out _ HB.out) (HX.out _ HB.out) HR.out HSM.out (by decide)).mono ?_
    rintro e wy ⟨rfl, hbo, hb⟩
    have HO : Hid (Bo (w.heap.size + 2) wy (O2 srv 6 ++ echoL (osP x.ps) 61)) := hbo
    have HB := Lib.hid (HB.out.trans hb)
    clear hbo hb
    go_wp2_with fail
    refine (give_any x (w.heap.size + 2) (w.heap.size + 1) (61 :: [54, 53]) (O2 srv 6 ++ echoL (osP x.ps) 61) 82 wy HO.out ((sm2 srv 6).echo HR.out 61) (by decide) (by decide) (HC2.out _ HB.out) (HX.out _ HB.out) HR.out HSM.out (by decide)).mono ?_
    rintro e wz ⟨rfl, hbo, hb⟩
    have HO : Hid (Bo (w.heap.size + 2) wz (O2 srv 6 ++ echoL (osP x.ps) 61 ++ echoL (osP x.ps) 82)) := hbo
    have HB := Lib.hid (HB.out.trans hb)
    clear hbo hb
    obtain ⟨A, n, c, ps, B, hg, hB, hcl, hown, hos⟩ := HO.out
    have e1 : wz.cell? ⟨w.heap.size + 2, 0, none⟩ = some (.slice A n c) := by rw [hcl.cell]; rfl
    have HOW := Lib.hid hown
    have HOS := Lib.hid hos
    have HGB := Lib.hid hg
    clear hcl hown hos hg hB
    go_wp2
    go_ret
    exact ⟨A, n, c, ps, rfl, by rw [HOS.out]; exact (o_nak srv s.s (osP x.ps) yi).symm, ⟨HOW.out.1.mono (by have := HGB.out; omega), fun p hp => (HOW.out.2 p hp).mono (by have := HGB.out; omega)⟩, HB0.out.trans (HB.out.mono (by omega))⟩
  · have hk6 : (kind != 6) = true := by simpa using h6
    have HK6 := Lib.hid h6
    clear h6 hk
    go_enter Tryz.func23, Tryz.ntmps23
    go_upto_region 2 with fail
    rw [← hw3]
    clear hw3
    go_wp2_with fail
    refine (put_any (w.heap.size + 2) [] [] 53 kind 1 w3 HO.out Sm.nil (by decide) (by decide) FK.out (by decide)).mono ?_
    rintro e w4 ⟨rfl, hbo, hb⟩
    have HO : Hid (Bo (w.heap.size + 2) w4 ([] ++ [((53 : Int), [byteI kind])])) := by rw [BK.out] at hbo; exact hbo
    have HB := Lib.hid (HB.out.trans hb)
    clear hbo hb
    go_wp2_with fail
    refine (put_any (w.heap.size + 2) [53] _ 54 srv 4 w4 HO.out (Sm.nil.snoc 53 (by simp)) (by decide) (by decide) F1.out (by decide)).mono ?_
    rintro e w5 ⟨rfl, hbo, hb⟩
    have HO : Hid (Bo (w.heap.size + 2) w5 (O2 srv kind)) := hbo
    have HB := Lib.hid (HB.out.trans hb)
    clear hbo hb
    go_upto_if 31 with fail
    go_cut [14] from 27 to 35 (fun v wx => v = .bool true ∧ Hid (Bo (w.heap.size + 2) wx (O3 srv kind s.s (yi != 0))) ∧ Hid (Below (w.heap.size + 2) w3 wx))
    case first =>
      cases hy : (yi != 0) with
      | false =>
        go_wp2_with fail
        go_meet
        exact ⟨rfl, Lib.hid (by rw [hy]; simpa [O3, ifL] using HO.out), HB⟩
      | true =>
        obtain ⟨s0, s1, s2, s3, s4, s5, s6⟩ := HS2.out w5 HB.out
        go_wp2_with fail
        refine (put_any (w.heap.size + 2) [54, 53] _ 51 s.time 4 w5 HO.out (sm2 srv kind) (by decide) (by decide) F2.out (by decide)).mono ?_
        rintro e w6 ⟨rfl, hbo, hb⟩
        have HO : Hid (Bo (w.heap.size + 2) w6 (O3 srv kind s.s true)) := hbo
        have HB := Lib.hid (HB.out.trans hb)
        clear hbo hb
        clear s0 s1 s2 s3 s4 s5 s6
        go_wp2_with fail
        go_meet
        exact ⟨rfl, Lib.hid (by rw [hy]; exact HO.out), HB⟩
    case rest =>
      obtain ⟨rfl, ho, hb⟩ := hcut
      have HO := ho
      have HB := hb
      clear ho hb
      have HA1 := Lib.hid (fun W (hW : x.ok W) => asked_any x 1 W hW HSM.out)
      have HA3 := Lib.hid (fun W (hW : x.ok W) => asked_any x 3 W hW HSM.out)
      generalize hp : (yi != 0) = p at HO ⊢
      have HP := Lib.hid hp
      clear hp
      obtain ⟨a1, ha1⟩ : ∃ a1, asksL (osP x.ps) 1 = a1 := ⟨_, rfl⟩
      obtain ⟨a3, ha3⟩ : ∃ a3, asksL (osP x.ps) 3 = a3 := ⟨_, rfl⟩
      rw [ha1] at HA1
      rw [ha3] at HA3
      have HQ1 := Lib.hid ha1
      have HQ3 := Lib.hid ha3
      clear ha1 ha3
      have m13 := HM2.out wc HB.out
      obtain ⟨⟨m0, m1, m2, m3, m4, m5, m6⟩, m7, m8, m9, m10, m11, m12⟩ := m13
      go_wp2_with fail
      refine (HA1.out _ (HX.out _ HB.out)).mono ?_
      rintro e w7 ⟨rfl, hb⟩
      have HB := Lib.hid (HB.out.trans (hb.mono (bo_le HO.out)))
      have HO := Lib.hid (Bo.below HO.out hb)
      clear hb m0 m1 m2 m3 m4 m5 m6 m7 m8 m9 m10 m11 m12
      go_upto_if 40 with fail
      go_cut [14, 15, 16] from 36 to 49 (fun v v15 v16 wx => v = .bool true ∧ Hid (Bo (w.heap.size + 2) wx (O4 srv kind s.s p a1)) ∧ Hid (Below (w.heap.size + 2) w3 wx))
      case first =>
        cases a1 with
        | false =>
          go_wp2_with fail
          go_meet
          exact ⟨rfl, Lib.hid (by simpa [O4, ifL] using HO.out), HB⟩
        | true =>
          obtain ⟨s0, s1, s2, s3, s4, s5, s6⟩ := HS2.out w7 HB.out
          go_wp2_with fail
          refine (Aw.mask_yes s.bits w7 HBI.out).mono ?_
          rintro e wm ⟨rfl, rfl⟩
          go_wp2_with fail
          refine (put_any (w.heap.size + 2) [51, 54, 53] _ 1 (4294967296 - sz s.bits) 4 w7 HO.out (sm3 srv kind s.s p) (by decide) (by decide) F3.out (by decide)).mono ?_
          rintro e w8 ⟨rfl, hbo, hb⟩
          have HO : Hid (Bo (w.heap.size + 2) w8 (O4 srv kind s.s p true)) := hbo
          have HB := Lib.hid (HB.out.trans hb)
          clear hbo hb
          clear s0 s1 s2 s3 s4 s5 s6
          go_wp2_with fail
          go_meet
          exact ⟨rfl, HO, HB⟩
      case rest =>
        obtain ⟨rfl, ho, hb⟩ := hcut
        have HO := ho
        have HB := hb
        clear ho hb
        have HAC : Hid (optsR srv s.s (osP x.ps) kind yi = (O5 srv kind s.s p a1 (s.router != 0 && a3) ++ echoL (osP x.ps) 61) ++ echoL (osP x.ps) 82) := by
          show _ = _
          rw [o_ack srv s.s (osP x.ps) HK6.out HY.out HRO.out, HP.out, HQ1.out, HQ3.out]
          rfl
        cases hr : (s.router != 0) with
        | false =>
          rw [hr] at HAC
          obtain ⟨s0, s1, s2, s3, s4, s5, s6⟩ := HS2.out wc HB.out
          go_wp2_with fail
          refine (give_any x (w.heap.size + 2) (w.heap.size + 1) [1, 51, 54, 53] (O4 srv kind s.s p a1) 61 wc HO.out (sm4 srv kind s.s p a1) (by decide) (by decide) (HC2.out _ HB.out) (HX.out _ HB.out) HR.out HSM.out (by decide)).mono ?_
          rintro e wy ⟨rfl, hbo, hb⟩
          have HO : Hid (Bo (w.heap.size + 2) wy (O4 srv kind s.s p a1 ++ echoL (osP x.ps) 61)) := hbo
          have HB := Lib.hid (HB.out.trans hb)
          clear hbo hb
          go_wp2_with fail
          refine (give_any x (w.heap.size + 2) (w.heap.size + 1) (61 :: [1, 51, 54, 53]) (O4 srv kind s.s p a1 ++ echoL (osP x.ps) 61) 82 wy HO.out ((sm4 srv kind s.s p a1).echo HR.out 61) (by decide) (by decide) (HC2.out _ HB.out) (HX.out _ HB.out) HR.out HSM.out (by decide)).mono ?_
          rintro e wz ⟨rfl, hbo, hb⟩
          have HO : Hid (Bo (w.heap.size + 2) wz (O4 srv kind s.s p a1 ++ echoL (osP x.ps) 61 ++ echoL (osP x.ps) 82)) := hbo
          have HB := Lib.hid (HB.out.trans hb)
          clear hbo hb
          obtain ⟨A, n, c, ps, B, hg, hB, hcl, hown, hos⟩ := HO.out
          have e1 : wz.cell? ⟨w.heap.size + 2, 0, none⟩ = some (.slice A n c) := by rw [hcl.cell]; rfl
          have HOW := Lib.hid hown
          have HOS := Lib.hid hos
          have HGB := Lib.hid hg
          clear hcl hown hos hg hB
          go_wp2
          go_ret
          exact ⟨A, n, c, ps, rfl, by rw [HOS.out]; exact (HAC.out.trans (by simp [O5, ifL])).symm, ⟨HOW.out.1.mono (by have := HGB.out; omega), fun p hp => (HOW.out.2 p hp).mono (by have := HGB.out; omega)⟩, HB0.out.trans (HB.out.mono (by omega))⟩
        | true =>
          rw [hr] at HAC
          obtain ⟨s0, s1, s2, s3, s4, s5, s6⟩ := HS2.out wc HB.out
          have m13 := HM2.out wc HB.out
          obtain ⟨⟨m0, m1, m2, m3, m4, m5, m6⟩, m7, m8, m9, m10, m11, m12⟩ := m13
          go_wp2_with fail
          refine (HA3.out _ (HX.out _ HB.out)).mono ?_
          rintro e w9 ⟨rfl, hb⟩
          have HB := Lib.hid (HB.out.trans (hb.mono (bo_le HO.out)))
          have HO := Lib.hid (Bo.below HO.out hb)
          clear hb m0 m1 m2 m3 m4 m5 m6 m7 m8 m9 m10 m11 m12
          obtain ⟨s0, s1, s2, s3, s4, s5, s6⟩ := HS2.out w9 HB.out
          cases a3 with
          | false =>
            go_wp2_with fail
            refine (give_any x (w.heap.size + 2) (w.heap.size + 1) [1, 51, 54, 53] (O4 srv kind s.s p a1) 61 w9 HO.out (sm4 srv kind s.s p a1) (by decide) (by decide) (HC2.out _ HB.out) (HX.out _ HB.out) HR.out HSM.out (by decide)).mono ?_
            rintro e wy ⟨rfl, hbo, hb⟩
            have HO : Hid (Bo (w.heap.size + 2) wy (O4 srv kind s.s p a1 ++ echoL (osP x.ps) 61)) := hbo
            have HB := Lib.hid (HB.out.trans hb)
            clear hbo hb
            go_wp2_with fail
            refine (give_any x (w.heap.size + 2) (w.heap.size + 1) (61 :: [1, 51, 54, 53]) (O4 srv kind s.s p a1 ++ echoL (osP x.ps) 61) 82 wy HO.out ((sm4 srv kind s.s p a1).echo HR.out 61) (by decide) (by decide) (HC2.out _ HB.out) (HX.out _ HB.out) HR.out HSM.out (by decide)).mono ?_
            rintro e wz ⟨rfl, hbo, hb⟩
            have HO : Hid (Bo (w.heap.size + 2) wz (O4 srv kind s.s p a1 ++ echoL (osP x.ps) 61 ++ echoL (osP x.ps) 82)) := hbo
            have HB := Lib.hid (HB.out.trans hb)
            clear hbo hb
            obtain ⟨A, n, c, ps, B, hg, hB, hcl, hown, hos⟩ := HO.out
            have e1 : wz.cell? ⟨w.heap.size + 2, 0, none⟩ = some (.slice A n c) := by rw [hcl.cell]; rfl
            have HOW := Lib.hid hown
            have HOS := Lib.hid hos
            have HGB := Lib.hid hg
            clear hcl hown hos hg hB
            go_wp2
            go_ret
            exact ⟨A, n, c, ps, rfl, by rw [HOS.out]; exact (HAC.out.trans (by simp [O5, ifL])).symm, ⟨HOW.out.1.mono (by have := HGB.out; omega), fun p hp => (HOW.out.2 p hp).mono (by have := HGB.out; omega)⟩, HB0.out.trans (HB.out.mono (by omega))⟩
          | true =>
            go_wp2_with fail
            refine (put_any (w.heap.size + 2) [1, 51, 54, 53] _ 3 s.router 4 w9 HO.out (sm4 srv kind s.s p a1) (by decide) (by decide) F5.out (by decide)).mono ?_
            rintro e w10 ⟨rfl, hbo, hb⟩
            have HO : Hid (Bo (w.heap.size + 2) w10 (O5 srv kind s.s p a1 true)) := hbo
            have HB := Lib.hid (HB.out.trans hb)
            clear hbo hb
            go_wp2_with fail
            refine (give_any x (w.heap.size + 2) (w.heap.size + 1) [3, 1, 51, 54, 53] (O5 srv kind s.s p a1 true) 61 w10 HO.out (sm5 srv kind s.s p a1 true) (by decide) (by decide) (HC2.out _ HB.out) (HX.out _ HB.out) HR.out HSM.out (by decide)).mono ?_
            rintro e wy ⟨rfl, hbo, hb⟩
            have HO : Hid (Bo (w.heap.size + 2) wy (O5 srv kind s.s p a1 true ++ echoL (osP x.ps) 61)) := hbo
            have HB := Lib.hid (HB.out.trans hb)
            clear hbo hb
            go_wp2_with fail
            refine (give_any x (w.heap.size + 2) (w.heap.size + 1) (61 :: [3, 1, 51, 54, 53]) (O5 srv kind s.s p a1 true ++ echoL (osP x.ps) 61) 82 wy HO.out ((sm5 srv kind s.s p a1 true).echo HR.out 61) (by decide) (by decide) (HC2.out _ HB.out) (HX.out _ HB.out) HR.out HSM.out (by decide)).mono ?_
            rintro e wz ⟨rfl, hbo, hb⟩
            have HO : Hid (Bo (w.heap.size + 2) wz (O5 srv kind s.s p a1 true ++ echoL (osP x.ps) 61 ++ echoL (osP x.ps) 82)) := hbo
            have HB := Lib.hid (HB.out.trans hb)
            clear hbo hb
            obtain ⟨A, n, c, ps, B, hg, hB, hcl, hown, hos⟩ := HO.out
            have e1 : wz.cell? ⟨w.heap.size + 2, 0, none⟩ = some (.slice A n c) := by rw [hcl.cell]; rfl
            have HOW := Lib.hid hown
            have HOS := Lib.hid hos
            have HGB := Lib.hid hg
            clear hcl hown hos hg hB
            go_wp2
            go_ret
            exact ⟨A, n, c, ps, rfl, by rw [HOS.out]; exact HAC.out.symm, ⟨HOW.out.1.mono (by have := HGB.out; omega), fun p hp => (HOW.out.2 p hp).mono (by have := HGB.out; omega)⟩, HB0.out.trans (HB.out.mono (by omega))⟩
end Go.Proofs.YtabjcgchcnnjjaaGreat.Rpw
