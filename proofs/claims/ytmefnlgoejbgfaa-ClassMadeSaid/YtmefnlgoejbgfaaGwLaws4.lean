/- The walk of ClassMade: it returns true, and what was in memory stays. For all inputs. -/
import Derived.Test.YtmefnlgoejbgfaaGwKnows
import Derived.Test.YtmefnlgoejbgfaaOwKnows
import Derived.Deep.RegionHeld3
set_option maxRecDepth 8000
namespace Go.Proofs.Ytmefnlgoejbgfaa
open Go.RowKit Tl Co Ms By Cl Ow Gw
open Pw (boxM celM_all alloc_more small_ms)

/-- A message of nothing but its options and its Ci. -/
def ofO (ci : Int) (A : Option Addr) (n c : Nat) (ps : List Po) : Mv := ⟨0, 0, 0, 0, 0, 0, 0, ci, 0, 0, 0, none, 0, 0, [], A, n, c, ps⟩
theorem ofO_ok {ci : Int} {A : Option Addr} {n c : Nat} {ps : List Po} {w : World} (h : RdO w A n c ps) : (ofO ci A n c ps).ok w := ⟨Bs.nil _, h⟩
theorem made_small {v : Int} (h : ¬ Cw.fairB v 4 = true) : v < 0 ∨ 4294967295 < v := by
  rw [fairB_iff] at h
  have : p256 (4 : Int).toNat = 4294967296 := by decide +kernel
  omega
theorem made_back {v : Int} (h : Cw.fairB v 4 = true) : ((v.toNat : Nat) : Int) = v := by
  rw [fairB_iff] at h
  omega
theorem find_set (l : List O) (c k : Int) (v n : Int) (h : c ≠ k) : findL (setL l c v n) k = findL l k := find_other _ _ h
theorem made_two {ci : Int} {A : Option Addr} {n c : Nat} {qs : List Po} {a : Int} (hq : osP qs = setL [(53, [3])] 50 a 4) (hf : Cw.fairB a 4 = true) (hc : ci = 0) : classL (ofO ci A n c qs).mm = 2 ∧ aboutL (ofO ci A n c qs).mm = a := by
  have ho : (ofO ci A n c qs).mm.os = setL [(53, [3])] 50 a 4 := hq
  have hn := num_set [(53, [3])] 50 (k := 4) hf
  have hk : kindE (ofO ci A n c qs).mm.os = 3 := by
    refine (kind_num (v := 3) ?_ (by omega) (by omega)).trans rfl
    rw [ho]
    rw [num_find (find_set _ 50 53 a 4 (by omega))]
    decide +kernel
  have hs : numE (ofO ci A n c qs).mm.os 54 4 = none := by
    rw [ho]
    rw [num_find (find_set _ 50 54 a 4 (by omega))]
    decide +kernel
  have := class_two hk hc (a := a.toNat) (by rw [ho]; exact hn) hs
  rwa [made_back hf] at this
theorem made_one {ci : Int} {A : Option Addr} {n c : Nat} {qs ps : List Po} {a s : Int} (hq : osP qs = setL (osP ps) 54 s 4) (hp : osP ps = setL [(53, [3])] 50 a 4) (hf : Cw.fairB a 4 = true) (hg : Cw.fairB s 4 = true) :
    (ci = 0 → classL (ofO ci A n c qs).mm = 1 ∧ aboutL (ofO ci A n c qs).mm = a) ∧ (ci = 1 → classL (ofO ci A n c qs).mm = 0 ∧ aboutL (ofO ci A n c qs).mm = 0) ∧ foreignL (ofO ci A n c qs).mm s = false := by
  have ho : (ofO ci A n c qs).mm.os = setL (setL [(53, [3])] 50 a 4) 54 s 4 := by rw [← hp]; exact hq
  have hn := num_set [(53, [3])] 50 (k := 4) hf
  have hm := num_set (setL [(53, [3])] 50 a 4) 54 (k := 4) hg
  have hk : kindE (ofO ci A n c qs).mm.os = 3 := by
    refine (kind_num (v := 3) ?_ (by omega) (by omega)).trans rfl
    rw [ho]
    rw [num_find (find_set _ 54 53 s 4 (by omega)), num_find (find_set _ 50 53 a 4 (by omega))]
    decide +kernel
  have hs : numE (ofO ci A n c qs).mm.os 54 4 = some s.toNat := by rw [ho]; exact hm
  have hw : numE (ofO ci A n c qs).mm.os 50 4 = some a.toNat := by
    rw [ho]
    rw [num_find (find_set _ 54 50 s 4 (by omega))]
    exact hn
  refine ⟨fun hc => ?_, fun hc => ?_, ?_⟩
  · have := class_one hk hc hw hs
    rwa [made_back hf] at this
  · have h0 : classL (ofO ci A n c qs).mm = 0 := by
      unfold classL
      rw [if_neg (by rw [hk]; omega), if_neg (fun e => by have e1 : ci = 0 := e.1; omega), if_neg (fun e => by rw [hw] at e; exact absurd e.2.1 (by simp))]
    exact ⟨h0, class_wrong h0⟩
  · rw [foreign_some hs, made_back hg]
    simp

set_option maxHeartbeats 16000000 in
theorem classMade_walk (s a : Int) (w : World) (_ : (Lit.int .i64 s).wf = true) (_ : (Lit.int .i64 a).wf = true) : Calls Try.prog 5 #[.int .i64 s, .int .i64 a] w (isTrue w) := by
  obtain ⟨w1, e1⟩ : ∃ w1, w1 = w.alloc (.cells #[.int .u8 3] 5) := ⟨_, rfl⟩
  have z1 : w1.heap.size = w.heap.size + 1 := by rw [e1]; simp
  have b1 : Below w.heap.size w w1 := by rw [e1]; exact alloc_more _ _
  have h1 : Bs w1 (some ⟨w.heap.size, 0, none⟩) 1 1 [3] := by rw [e1]; exact (Own.lit1 5 w 3).bs
  obtain ⟨w0, e0⟩ : ∃ w0, w0 = w1.alloc (.cells #[.int .i64 53, .slice (some ⟨w.heap.size, 0, none⟩) 1 1] 41) := ⟨_, rfl⟩
  have hw0 : w0 = (w.alloc (.cells #[.int .u8 3] 5)).alloc (.cells #[.int .i64 53, .slice (some ⟨w.heap.size, 0, none⟩) 1 1] 41) := by rw [e0, e1]
  have b0 : Below w1.heap.size w1 w0 := by rw [e0]; exact alloc_more _ _
  have hrd : RdO w0 (some ⟨w.heap.size + 1, 0, none⟩) 1 1 [⟨53, some ⟨w.heap.size, 0, none⟩, 1, [3]⟩] := by
    have := (lits 41 w1 [⟨53, some ⟨w.heap.size, 0, none⟩, 1, [3]⟩] 1 #[.int .i64 53, .slice (some ⟨w.heap.size, 0, none⟩) 1 1] rfl rfl (by omega)).rdc
    rw [← e0, z1] at this
    refine ⟨this, fun p hp => ?_⟩
    simp only [List.mem_singleton] at hp
    subst hp
    exact h1.below b0
  have hsm : ∀ p ∈ [(⟨53, some ⟨w.heap.size, 0, none⟩, 1, [3]⟩ : Po)], p.l.length ≤ 1000 := fun p hp => by
    simp only [List.mem_singleton] at hp
    subst hp
    simp
  have HB := Lib.hid (b1.trans (b0.mono b1.size))
  have HB0 := Lib.hid (Below.refl w0.heap.size w0)
  clear b1 b0 h1 z1 e1 e0
  by_cases hf : Cw.fairB a 4 = true
  rotate_left
  · have HS := Lib.hid (fun A n c W => set_no A n c 50 a 4 W (fun e => hf e.1))
    have ho := made_small hf
    clear hf hrd hsm
    rcases ho with ho | ho
    · go_enter Try.func5, Try.ntmps5
      go_wp2_with fail
      rw [← hw0]
      clear hw0
      refine (HS.out _ _ _ _).mono ?_
      rintro e w1 ⟨rfl, hb⟩
      have HB1 := Lib.hid (HB0.out.trans (hb.mono HB0.out.size))
      clear hb
      go_wp2_with fail
      refine (knows_yes _).mono ?_
      rintro e w2 ⟨rfl, hb⟩
      have HB2 := Lib.hid (HB1.out.trans (hb.mono HB1.out.size))
      clear hb
      go_wp2
      go_ret
      exact ⟨rfl, HB.out.trans (HB2.out.mono HB.out.size)⟩
    · have hno : ¬ a < 0 := by omega
      go_enter Try.func5, Try.ntmps5
      go_wp2_with fail
      rw [← hw0]
      clear hw0
      refine (HS.out _ _ _ _).mono ?_
      rintro e w1 ⟨rfl, hb⟩
      have HB1 := Lib.hid (HB0.out.trans (hb.mono HB0.out.size))
      clear hb
      go_wp2_with fail
      refine (knows_yes _).mono ?_
      rintro e w2 ⟨rfl, hb⟩
      have HB2 := Lib.hid (HB1.out.trans (hb.mono HB1.out.size))
      clear hb
      go_wp2
      go_ret
      exact ⟨rfl, HB.out.trans (HB2.out.mono HB.out.size)⟩
  have HS := Lib.hid (set_yes _ 1 1 _ 50 a 4 w0 hrd (by omega) hsm hf (by decide +kernel))
  have HF := Lib.hid hf
  have HSM := Lib.hid hsm
  clear hf hrd hsm
  by_cases hg : Cw.fairB s 4 = true
  rotate_left
  · have HT := Lib.hid (fun A n c W => set_no A n c 54 s 4 W (fun e => hg e.1))
    have ho := made_small hg
    clear hg
    rcases ho with ho | ho
    · go_enter Try.func5, Try.ntmps5
      go_wp2_with fail
      rw [← hw0]
      clear hw0
      refine (HS.out).mono ?_
      rintro e w1 ⟨A1, y1, c1, q1, rfl, hq, hown, hb⟩
      have HB1 := Lib.hid (HB0.out.trans (hb.mono HB0.out.size))
      have HQ1 := Lib.hid hq
      have HRD1 := Lib.hid (show RdO w1 A1 y1 c1 q1 from ⟨hown.1.rdc, fun p hp => (hown.2 p hp).bs⟩)
      have HM1 := Lib.hid (set_small HSM.out HF.out hq)
      clear hb hown hq
      have HL : Hid (y1 ≤ 1000) := by
        have e1 := HRD1.out.len
        have e2 := os_len q1
        rw [HQ1.out] at e2
        have e3 : (setL (osP [(⟨53, some ⟨w.heap.size, 0, none⟩, 1, [3]⟩ : Po)]) 50 a 4).length = 2 := rfl
        show y1 ≤ 1000
        omega
      have HO := Lib.hid (fun W (hW : Below w1.heap.size w1 W) => of_any (ofO 0 A1 y1 c1 q1) W (ofO_ok (HRD1.out.below hW)) HM1.out)
      have HA := Lib.hid (fun W (hW : Below w1.heap.size w1 W) => about_any (ofO 0 A1 y1 c1 q1) W (ofO_ok (HRD1.out.below hW)) HM1.out)
      rw [(made_two (A := A1) (n := y1) (c := c1) HQ1.out HF.out rfl).1] at HO
      rw [(made_two (A := A1) (n := y1) (c := c1) HQ1.out HF.out rfl).2] at HA
      go_wp2_with fail
      refine (HO.out _ (Below.refl _ _)).mono ?_
      rintro e w2 ⟨rfl, hb⟩
      have HB2 := Lib.hid (HB1.out.trans (hb.mono HB1.out.size))
      have HC2 := Lib.hid hb
      clear hb
      go_wp2_with fail
      refine (HA.out _ HC2.out).mono ?_
      rintro e w3 ⟨rfl, hb⟩
      have HB3 := Lib.hid (HB2.out.trans (hb.mono HB2.out.size))
      have HC3 := Lib.hid (HC2.out.trans (hb.mono HC2.out.size))
      clear hb HO HA
      go_wp2_with fail
      refine (HT.out _ _ _ _).mono ?_
      rintro e w4 ⟨rfl, hb⟩
      have HB4 := Lib.hid (HB3.out.trans (hb.mono HB3.out.size))
      clear hb
      go_wp2_with fail
      refine (knows_yes _).mono ?_
      rintro e w5 ⟨rfl, hb⟩
      have HB5 := Lib.hid (HB4.out.trans (hb.mono HB4.out.size))
      clear hb
      go_wp2
      go_ret
      exact ⟨rfl, HB.out.trans (HB5.out.mono HB.out.size)⟩
    · have hno : ¬ s < 0 := by omega
      go_enter Try.func5, Try.ntmps5
      go_wp2_with fail
      rw [← hw0]
      clear hw0
      refine (HS.out).mono ?_
      rintro e w1 ⟨A1, y1, c1, q1, rfl, hq, hown, hb⟩
      have HB1 := Lib.hid (HB0.out.trans (hb.mono HB0.out.size))
      have HQ1 := Lib.hid hq
      have HRD1 := Lib.hid (show RdO w1 A1 y1 c1 q1 from ⟨hown.1.rdc, fun p hp => (hown.2 p hp).bs⟩)
      have HM1 := Lib.hid (set_small HSM.out HF.out hq)
      clear hb hown hq
      have HL : Hid (y1 ≤ 1000) := by
        have e1 := HRD1.out.len
        have e2 := os_len q1
        rw [HQ1.out] at e2
        have e3 : (setL (osP [(⟨53, some ⟨w.heap.size, 0, none⟩, 1, [3]⟩ : Po)]) 50 a 4).length = 2 := rfl
        show y1 ≤ 1000
        omega
      have HO := Lib.hid (fun W (hW : Below w1.heap.size w1 W) => of_any (ofO 0 A1 y1 c1 q1) W (ofO_ok (HRD1.out.below hW)) HM1.out)
      have HA := Lib.hid (fun W (hW : Below w1.heap.size w1 W) => about_any (ofO 0 A1 y1 c1 q1) W (ofO_ok (HRD1.out.below hW)) HM1.out)
      rw [(made_two (A := A1) (n := y1) (c := c1) HQ1.out HF.out rfl).1] at HO
      rw [(made_two (A := A1) (n := y1) (c := c1) HQ1.out HF.out rfl).2] at HA
      go_wp2_with fail
      refine (HO.out _ (Below.refl _ _)).mono ?_
      rintro e w2 ⟨rfl, hb⟩
      have HB2 := Lib.hid (HB1.out.trans (hb.mono HB1.out.size))
      have HC2 := Lib.hid hb
      clear hb
      go_wp2_with fail
      refine (HA.out _ HC2.out).mono ?_
      rintro e w3 ⟨rfl, hb⟩
      have HB3 := Lib.hid (HB2.out.trans (hb.mono HB2.out.size))
      have HC3 := Lib.hid (HC2.out.trans (hb.mono HC2.out.size))
      clear hb HO HA
      go_wp2_with fail
      refine (HT.out _ _ _ _).mono ?_
      rintro e w4 ⟨rfl, hb⟩
      have HB4 := Lib.hid (HB3.out.trans (hb.mono HB3.out.size))
      clear hb
      go_wp2_with fail
      refine (knows_yes _).mono ?_
      rintro e w5 ⟨rfl, hb⟩
      have HB5 := Lib.hid (HB4.out.trans (hb.mono HB4.out.size))
      clear hb
      go_wp2
      go_ret
      exact ⟨rfl, HB.out.trans (HB5.out.mono HB.out.size)⟩
  have HG := Lib.hid hg
  clear hg
  go_enter Try.func5, Try.ntmps5
  go_wp2_with fail
  rw [← hw0]
  clear hw0
  refine (HS.out).mono ?_
  rintro e w1 ⟨A1, y1, c1, q1, rfl, hq, hown, hb⟩
  have HB1 := Lib.hid (HB0.out.trans (hb.mono HB0.out.size))
  have HQ1 := Lib.hid hq
  have HRD1 := Lib.hid (show RdO w1 A1 y1 c1 q1 from ⟨hown.1.rdc, fun p hp => (hown.2 p hp).bs⟩)
  have HM1 := Lib.hid (set_small HSM.out HF.out hq)
  clear hb hown hq
  have HL : Hid (y1 ≤ 1000) := by
    have e1 := HRD1.out.len
    have e2 := os_len q1
    rw [HQ1.out] at e2
    have e3 : (setL (osP [(⟨53, some ⟨w.heap.size, 0, none⟩, 1, [3]⟩ : Po)]) 50 a 4).length = 2 := rfl
    show y1 ≤ 1000
    omega
  have HO := Lib.hid (fun W (hW : Below w1.heap.size w1 W) => of_any (ofO 0 A1 y1 c1 q1) W (ofO_ok (HRD1.out.below hW)) HM1.out)
  have HA := Lib.hid (fun W (hW : Below w1.heap.size w1 W) => about_any (ofO 0 A1 y1 c1 q1) W (ofO_ok (HRD1.out.below hW)) HM1.out)
  rw [(made_two (A := A1) (n := y1) (c := c1) HQ1.out HF.out rfl).1] at HO
  rw [(made_two (A := A1) (n := y1) (c := c1) HQ1.out HF.out rfl).2] at HA
  go_wp2_with fail
  refine (HO.out _ (Below.refl _ _)).mono ?_
  rintro e w2 ⟨rfl, hb⟩
  have HB2 := Lib.hid (HB1.out.trans (hb.mono HB1.out.size))
  have HC2 := Lib.hid hb
  clear hb
  go_wp2_with fail
  refine (HA.out _ HC2.out).mono ?_
  rintro e w3 ⟨rfl, hb⟩
  have HB3 := Lib.hid (HB2.out.trans (hb.mono HB2.out.size))
  have HC3 := Lib.hid (HC2.out.trans (hb.mono HC2.out.size))
  clear hb HO HA
  go_wp2_with fail
  refine (set_yes A1 y1 c1 q1 54 s 4 w3 (HRD1.out.below HC3.out) HL.out HM1.out HG.out (by decide +kernel)).mono ?_
  rintro e w4 ⟨A4, y4, c4, q4, rfl, hq, hown, hb⟩
  have HB4 := Lib.hid (HB3.out.trans (hb.mono HB3.out.size))
  have HQ4 := Lib.hid hq
  have HRD4 := Lib.hid (show RdO w4 A4 y4 c4 q4 from ⟨hown.1.rdc, fun p hp => (hown.2 p hp).bs⟩)
  have HM4 := Lib.hid (set_small HM1.out HG.out hq)
  clear hb hown hq
  have hx := made_one (ci := 0) (A := A4) (n := y4) (c := c4) HQ4.out HQ1.out HF.out HG.out
  have hy := made_one (ci := 1) (A := A4) (n := y4) (c := c4) HQ4.out HQ1.out HF.out HG.out
  obtain ⟨wx, hwx⟩ : ∃ wx, wx = w4.alloc (.cells #[.int .i64 0, .int .i64 0, .int .i64 0, .int .i64 0, .int .i64 0, .int .i64 0, .int .i64 0, .int .i64 0, .int .i64 0, .int .i64 0, .int .i64 0, .slice none 0 0, .slice A4 y4 c4] 25) := ⟨_, rfl⟩
  obtain ⟨wy, hwy⟩ : ∃ wy, wy = (w4.alloc (.cells #[.int .i64 0, .int .i64 0, .int .i64 0, .int .i64 0, .int .i64 0, .int .i64 0, .int .i64 0, .int .i64 0, .int .i64 0, .int .i64 0, .int .i64 0, .slice none 0 0, .slice A4 y4 c4] 25)).alloc (.cells #[.int .i64 0, .int .i64 0, .int .i64 0, .int .i64 0, .int .i64 0, .int .i64 0, .int .i64 0, .int .i64 1, .int .i64 0, .int .i64 0, .int .i64 0, .slice none 0 0, .slice A4 y4 c4] 25) := ⟨_, rfl⟩
  have hwxy : wy = wx.alloc (.cells #[.int .i64 0, .int .i64 0, .int .i64 0, .int .i64 0, .int .i64 0, .int .i64 0, .int .i64 0, .int .i64 1, .int .i64 0, .int .i64 0, .int .i64 0, .slice none 0 0, .slice A4 y4 c4] 25) := by rw [hwy, hwx]
  have zx : wx.heap.size = w4.heap.size + 1 := by rw [hwx]; simp
  have hb4x : Below w4.heap.size w4 wx := by rw [hwx]; exact alloc_more _ _
  have hbxy : Below wx.heap.size wx wy := by rw [hwxy]; exact alloc_more _ _
  have hcx : Cel wx w4.heap.size 25 (ofO 0 A4 y4 c4 q4).cells := by rw [hwx]; exact Cel.born _ _ _
  have hcy : Cel wy (w4.heap.size + 1) 25 (ofO 1 A4 y4 c4 q4).cells := by rw [hwxy, ← zx]; exact Cel.born _ _ _
  have HX5 := Lib.hid (hcx.below hbxy hcx.lt)
  have HY5 := Lib.hid hcy
  have hb4y := hb4x.trans (hbxy.mono hb4x.size)
  have HBX := Lib.hid (HB.out.trans ((HB4.out.trans (hb4y.mono HB4.out.size)).mono HB.out.size))
  have hry := HRD4.out.below hb4y
  have HOX := Lib.hid (fun W (hW : Below wy.heap.size wy W) => of_any (ofO 0 A4 y4 c4 q4) W (ofO_ok (hry.below hW)) HM4.out)
  have HAX := Lib.hid (fun W (hW : Below wy.heap.size wy W) => about_any (ofO 0 A4 y4 c4 q4) W (ofO_ok (hry.below hW)) HM4.out)
  have HOY := Lib.hid (fun W (hW : Below wy.heap.size wy W) => of_any (ofO 1 A4 y4 c4 q4) W (ofO_ok (hry.below hW)) HM4.out)
  have HAY := Lib.hid (fun W (hW : Below wy.heap.size wy W) => about_any (ofO 1 A4 y4 c4 q4) W (ofO_ok (hry.below hW)) HM4.out)
  have HFX := Lib.hid (fun W (hW : Below wy.heap.size wy W) => foreign_any (ofO 0 A4 y4 c4 q4) s W (ofO_ok (hry.below hW)) HM4.out)
  rw [(hx.1 rfl).1] at HOX
  rw [(hx.1 rfl).2] at HAX
  rw [(hy.2.1 rfl).1] at HOY
  rw [(hy.2.1 rfl).2] at HAY
  rw [hx.2.2] at HFX
  have HB5 := Lib.hid (Below.refl wy.heap.size wy)
  clear hwxy zx hb4x hbxy hcx hcy hb4y hry hx hy hwx
  go_upto_region 11 with fail
  rw [← hwy]
  clear hwy
  obtain ⟨⟨m0, m1, m2, m3, m4, m5, m6⟩, m7, m8, m9, m10, m11, m12⟩ := celM_all (HX5.out.below HB5.out HX5.out.lt)
  go_wp2_with fail
  refine (HOX.out _ HB5.out).mono ?_
  rintro e w6 ⟨rfl, hb⟩
  have HB6 := Lib.hid (HB5.out.trans (hb.mono HB5.out.size))
  clear hb m0 m1 m2 m3 m4 m5 m6 m7 m8 m9 m10 m11 m12
  obtain ⟨⟨m0, m1, m2, m3, m4, m5, m6⟩, m7, m8, m9, m10, m11, m12⟩ := celM_all (HX5.out.below HB6.out HX5.out.lt)
  go_wp2_with fail
  refine (HAX.out _ HB6.out).mono ?_
  rintro e w7 ⟨rfl, hb⟩
  have HB7 := Lib.hid (HB6.out.trans (hb.mono HB6.out.size))
  clear hb m0 m1 m2 m3 m4 m5 m6 m7 m8 m9 m10 m11 m12
  obtain ⟨⟨m0, m1, m2, m3, m4, m5, m6⟩, m7, m8, m9, m10, m11, m12⟩ := celM_all (HY5.out.below HB7.out HY5.out.lt)
  go_wp2_with fail
  refine (HOY.out _ HB7.out).mono ?_
  rintro e w8 ⟨rfl, hb⟩
  have HB8 := Lib.hid (HB7.out.trans (hb.mono HB7.out.size))
  clear hb m0 m1 m2 m3 m4 m5 m6 m7 m8 m9 m10 m11 m12
  obtain ⟨⟨m0, m1, m2, m3, m4, m5, m6⟩, m7, m8, m9, m10, m11, m12⟩ := celM_all (HY5.out.below HB8.out HY5.out.lt)
  go_wp2_with fail
  refine (HAY.out _ HB8.out).mono ?_
  rintro e w9 ⟨rfl, hb⟩
  have HB9 := Lib.hid (HB8.out.trans (hb.mono HB8.out.size))
  clear hb m0 m1 m2 m3 m4 m5 m6 m7 m8 m9 m10 m11 m12
  obtain ⟨⟨m0, m1, m2, m3, m4, m5, m6⟩, m7, m8, m9, m10, m11, m12⟩ := celM_all (HX5.out.below HB9.out HX5.out.lt)
  go_wp2_with fail
  refine (HFX.out _ HB9.out).mono ?_
  rintro e w10 ⟨rfl, hb⟩
  have HB10 := Lib.hid (HB9.out.trans (hb.mono HB9.out.size))
  clear hb m0 m1 m2 m3 m4 m5 m6 m7 m8 m9 m10 m11 m12
  go_wp2_with fail
  refine (knows_yes _).mono ?_
  rintro e w11 ⟨rfl, hb⟩
  have HB11 := Lib.hid (HB10.out.trans (hb.mono HB10.out.size))
  clear hb
  go_wp2
  go_ret
  exact ⟨rfl, HBX.out.trans (HB11.out.mono HBX.out.size)⟩
end Go.Proofs.Ytmefnlgoejbgfaa
