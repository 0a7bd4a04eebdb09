/- boarderlaw16's knows: the document's examples come out. No conditions. -/
import Derived.Test.YtmefnlgoejbgfaaGwOf
import Derived.Deep.Cut
set_option maxRecDepth 8000
namespace Go.Proofs.Ytmefnlgoejbgfaa.Gw
open Go.RowKit Tl Co Ms By Cl Ow
open Pw (boxM celM_all alloc_more)
theorem lits (e : Nat) (w : World) (ps : List Po) (n : Nat) (cs : Array Value) (hcs : cs.toList = cellsP ps) (hn : ps.length = n) (hm : n ≤ 9223372036854775807) : OwnC e w.heap.size (w.alloc (.cells cs e)) (some ⟨w.heap.size, 0, none⟩) n n ps := by
  have h := World.ownsRow_lit (e := e) (size := 2) w cs n (Nat.le_refl _) (by unfold maxLen; omega) (by rw [← Array.length_toList, hcs, cellsP_len, hn])
  rw [hcs] at h
  exact h
theorem lit4 (e : Nat) (w : World) (x y z u : UInt8) : Own e w.heap.size (w.alloc (.cells #[.int .u8 (x.toNat : Int), .int .u8 (y.toNat : Int), .int .u8 (z.toNat : Int), .int .u8 (u.toNat : Int)] e)) (some ⟨w.heap.size, 0, none⟩) 4 4 [x, y, z, u] :=
  World.ownsRow_lit w #[.int .u8 (x.toNat : Int), .int .u8 (y.toNat : Int), .int .u8 (z.toNat : Int), .int .u8 (u.toNat : Int)] 4 (Nat.le_refl _) (by unfold maxLen; omega) rfl
/-- The messages of the examples. -/
def exM (w : World) : Mv := ⟨0, 0, 0, 0, 0, 0, 0, 0, 0, 0, 0, none, 0, 0, [], some ⟨w.heap.size + 1 + 1 + 1, 0, none⟩, 3, 3, [⟨53, some ⟨w.heap.size, 0, none⟩, 1, [3]⟩, ⟨54, some ⟨w.heap.size + 1, 0, none⟩, 4, [10, 0, 0, 1]⟩, ⟨50, some ⟨w.heap.size + 1 + 1, 0, none⟩, 4, [10, 0, 0, 7]⟩]⟩
def exN (w : World) : Mv := ⟨0, 0, 0, 0, 0, 0, 0, 9, 0, 0, 0, none, 0, 0, [], some ⟨w.heap.size + 1 + 1 + 1 + 1 + 1 + 1, 0, none⟩, 1, 1, [⟨53, some ⟨w.heap.size + 1 + 1 + 1 + 1 + 1, 0, none⟩, 1, [3]⟩]⟩
def gM : M := ⟨0, 0, 0, 0, 0, 0, 0, 0, 0, 0, 0, [], [(53, [3]), (54, [10, 0, 0, 1]), (50, [10, 0, 0, 7])]⟩
def gN : M := ⟨0, 0, 0, 0, 0, 0, 0, 9, 0, 0, 0, [], [(53, [3])]⟩
theorem exM_mm (w : World) : (exM w).mm = gM := rfl
theorem exN_mm (w : World) : (exN w).mm = gN := rfl
theorem g1 : classL gM = 1 := by decide +kernel
theorem g2 : aboutL gM = 167772167 := by decide +kernel
theorem g3 : classL gN = 3 := by decide +kernel
theorem g4 : aboutL gN = 9 := by decide +kernel
theorem g5 : foreignL gM 5 = true := by decide +kernel
theorem g6 : foreignL gM 167772161 = false := by decide +kernel
theorem g7 : classL zeroV.mm = 0 := by decide +kernel
theorem ex_made (w : World) : ∃ w8, w8 = ((((((((w.alloc (.cells #[.int .u8 3] 5)).alloc (.cells #[.int .u8 10, .int .u8 0, .int .u8 0, .int .u8 1] 5)).alloc (.cells #[.int .u8 10, .int .u8 0, .int .u8 0, .int .u8 7] 5)).alloc (.cells #[.int .i64 53, .slice (some ⟨w.heap.size, 0, none⟩) 1 1, .int .i64 54, .slice (some ⟨w.heap.size + 1, 0, none⟩) 4 4, .int .i64 50, .slice (some ⟨w.heap.size + 1 + 1, 0, none⟩) 4 4] 41)).alloc (.cells #[.int .i64 0, .int .i64 0, .int .i64 0, .int .i64 0, .int .i64 0, .int .i64 0, .int .i64 0, .int .i64 0, .int .i64 0, .int .i64 0, .int .i64 0, .slice none 0 0, .slice (some ⟨w.heap.size + 1 + 1 + 1, 0, none⟩) 3 3] 25)).alloc (.cells #[.int .u8 3] 5)).alloc (.cells #[.int .i64 53, .slice (some ⟨w.heap.size + 1 + 1 + 1 + 1 + 1, 0, none⟩) 1 1] 41)).alloc (.cells #[.int .i64 0, .int .i64 0, .int .i64 0, .int .i64 0, .int .i64 0, .int .i64 0, .int .i64 0, .int .i64 9, .int .i64 0, .int .i64 0, .int .i64 0, .slice none 0 0, .slice (some ⟨w.heap.size + 1 + 1 + 1 + 1 + 1 + 1, 0, none⟩) 1 1] 25)) ∧ (exM w).ok w8 ∧ (exN w).ok w8 ∧ Cel w8 (w.heap.size + 1 + 1 + 1 + 1) 25 (exM w).cells ∧ Cel w8 (w.heap.size + 1 + 1 + 1 + 1 + 1 + 1 + 1) 25 (exN w).cells ∧ Below w.heap.size w w8 := by
  have h1 := (Own.lit1 5 w 3).bs
  obtain ⟨w1, e1⟩ : ∃ w1, w1 = w.alloc (.cells #[.int .u8 3] 5) := ⟨_, rfl⟩
  have z1 : w1.heap.size = w.heap.size + 1 := by rw [e1]; simp
  have b1 : Below w.heap.size w w1 := by rw [e1]; exact alloc_more _ _
  have h2 := (lit4 5 w1 10 0 0 1).bs
  obtain ⟨w2, e2⟩ : ∃ w2, w2 = w1.alloc (.cells #[.int .u8 10, .int .u8 0, .int .u8 0, .int .u8 1] 5) := ⟨_, rfl⟩
  have z2 : w2.heap.size = w.heap.size + 1 + 1 := by rw [e2]; simp [z1]
  have b2 : Below w1.heap.size w1 w2 := by rw [e2]; exact alloc_more _ _
  have h3 := (lit4 5 w2 10 0 0 7).bs
  obtain ⟨w3, e3⟩ : ∃ w3, w3 = w2.alloc (.cells #[.int .u8 10, .int .u8 0, .int .u8 0, .int .u8 7] 5) := ⟨_, rfl⟩
  have z3 : w3.heap.size = w.heap.size + 1 + 1 + 1 := by rw [e3]; simp [z2]
  have b3 : Below w2.heap.size w2 w3 := by rw [e3]; exact alloc_more _ _
  have h4 := (lits 41 w3 (exM w).ps 3 #[.int .i64 53, .slice (some ⟨w.heap.size, 0, none⟩) 1 1, .int .i64 54, .slice (some ⟨w.heap.size + 1, 0, none⟩) 4 4, .int .i64 50, .slice (some ⟨w.heap.size + 1 + 1, 0, none⟩) 4 4] rfl rfl (by omega)).rdc
  obtain ⟨w4, e4⟩ : ∃ w4, w4 = w3.alloc (.cells #[.int .i64 53, .slice (some ⟨w.heap.size, 0, none⟩) 1 1, .int .i64 54, .slice (some ⟨w.heap.size + 1, 0, none⟩) 4 4, .int .i64 50, .slice (some ⟨w.heap.size + 1 + 1, 0, none⟩) 4 4] 41) := ⟨_, rfl⟩
  have z4 : w4.heap.size = w.heap.size + 1 + 1 + 1 + 1 := by rw [e4]; simp [z3]
  have b4 : Below w3.heap.size w3 w4 := by rw [e4]; exact alloc_more _ _
  obtain ⟨w5, e5⟩ : ∃ w5, w5 = w4.alloc (.cells (exM w).cells 25) := ⟨_, rfl⟩
  have c5 := Cel.born w4 25 (exM w).cells
  have z5 : w5.heap.size = w.heap.size + 1 + 1 + 1 + 1 + 1 := by rw [e5]; simp [z4]
  have b5 : Below w4.heap.size w4 w5 := by rw [e5]; exact alloc_more _ _
  have h6 := (Own.lit1 5 w5 3).bs
  obtain ⟨w6, e6⟩ : ∃ w6, w6 = w5.alloc (.cells #[.int .u8 3] 5) := ⟨_, rfl⟩
  have z6 : w6.heap.size = w.heap.size + 1 + 1 + 1 + 1 + 1 + 1 := by rw [e6]; simp [z5]
  have b6 : Below w5.heap.size w5 w6 := by rw [e6]; exact alloc_more _ _
  have h7 := (lits 41 w6 (exN w).ps 1 #[.int .i64 53, .slice (some ⟨w.heap.size + 1 + 1 + 1 + 1 + 1, 0, none⟩) 1 1] rfl rfl (by omega)).rdc
  obtain ⟨w7, e7⟩ : ∃ w7, w7 = w6.alloc (.cells #[.int .i64 53, .slice (some ⟨w.heap.size + 1 + 1 + 1 + 1 + 1, 0, none⟩) 1 1] 41) := ⟨_, rfl⟩
  have z7 : w7.heap.size = w.heap.size + 1 + 1 + 1 + 1 + 1 + 1 + 1 := by rw [e7]; simp [z6]
  have b7 : Below w6.heap.size w6 w7 := by rw [e7]; exact alloc_more _ _
  obtain ⟨w8, e8⟩ : ∃ w8, w8 = w7.alloc (.cells (exN w).cells 25) := ⟨_, rfl⟩
  have c8 := Cel.born w7 25 (exN w).cells
  have b8 : Below w7.heap.size w7 w8 := by rw [e8]; exact alloc_more _ _
  have k68 := b7.trans (b8.mono b7.size)
  have k58 := b6.trans (k68.mono b6.size)
  have k48 := b5.trans (k58.mono b5.size)
  have k38 := b4.trans (k48.mono b4.size)
  have k28 := b3.trans (k38.mono b3.size)
  have k18 := b2.trans (k28.mono b2.size)
  have k08 := b1.trans (k18.mono b1.size)
  refine ⟨w8, ?_, ⟨Bs.nil _, ?_, fun p hp => ?_⟩, ⟨Bs.nil _, ?_, fun p hp => ?_⟩, ?_, ?_, k08⟩
  · rw [e8, e7, e6, e5, e4, e3, e2, e1]
    rfl
  · rw [← e4, z3] at h4
    exact RdC.keep h4 fun _ hp => k48.cell hp
  · have hp' : p = ⟨53, some ⟨w.heap.size, 0, none⟩, 1, [3]⟩ ∨ p = ⟨54, some ⟨w.heap.size + 1, 0, none⟩, 4, [10, 0, 0, 1]⟩ ∨ p = ⟨50, some ⟨w.heap.size + 1 + 1, 0, none⟩, 4, [10, 0, 0, 7]⟩ := by simpa [exM] using hp
    rcases hp' with rfl | rfl | rfl
    · exact (e1 ▸ h1).below k18
    · have := (e2 ▸ h2).below k28
      rw [z1] at this
      exact this
    · have := (e3 ▸ h3).below k38
      rw [z2] at this
      exact this
  · rw [← e7, z6] at h7
    exact RdC.keep h7 fun _ hp => b8.cell hp
  · have hp' : p = ⟨53, some ⟨w.heap.size + 1 + 1 + 1 + 1 + 1, 0, none⟩, 1, [3]⟩ := by simpa [exN] using hp
    subst hp'
    have := (e6 ▸ h6).below k68
    rw [z5] at this
    exact this
  · rw [← e5, z4] at c5
    exact c5.below k58 (by rw [z5]; omega)
  · rw [← e8, z7] at c8
    exact c8

set_option maxHeartbeats 4000000 in
theorem knows_yes (w : World) : Calls Try.prog 8 #[] w (isTrue w) := by
  obtain ⟨w0, hw0, hm, hn, hcm, hcn, hb⟩ := ex_made w
  have sm : ∀ p ∈ (exM w).ps, p.l.length ≤ 1000 := fun p hp => by
    have hp' : p = ⟨53, some ⟨w.heap.size, 0, none⟩, 1, [3]⟩ ∨ p = ⟨54, some ⟨w.heap.size + 1, 0, none⟩, 4, [10, 0, 0, 1]⟩ ∨ p = ⟨50, some ⟨w.heap.size + 1 + 1, 0, none⟩, 4, [10, 0, 0, 7]⟩ := by simpa [exM] using hp
    rcases hp' with rfl | rfl | rfl <;> simp
  have sn : ∀ p ∈ (exN w).ps, p.l.length ≤ 1000 := fun p hp => by
    have hp' : p = ⟨53, some ⟨w.heap.size + 1 + 1 + 1 + 1 + 1, 0, none⟩, 1, [3]⟩ := by simpa [exN] using hp
    subst hp'
    simp
  have H1 := Lib.hid (fun W (hW : Below w0.heap.size w0 W) => of_any (exM w) W (hm.below hW) sm)
  have H2 := Lib.hid (fun W (hW : Below w0.heap.size w0 W) => about_any (exM w) W (hm.below hW) sm)
  have H3 := Lib.hid (fun W (hW : Below w0.heap.size w0 W) => of_any (exN w) W (hn.below hW) sn)
  have H4 := Lib.hid (fun W (hW : Below w0.heap.size w0 W) => about_any (exN w) W (hn.below hW) sn)
  have H5 := Lib.hid (fun s W (hW : Below w0.heap.size w0 W) => foreign_any (exM w) s W (hm.below hW) sm)
  have H7 := Lib.hid (fun W => of_any zeroV W (zeroV_ok W) (fun p hp => by cases hp))
  rw [exM_mm] at H1 H2 H5
  rw [exN_mm] at H3 H4
  rw [g1] at H1
  rw [g2] at H2
  rw [g3] at H3
  rw [g4] at H4
  rw [g7] at H7
  have H51 := Lib.hid (H5.out 5)
  rw [g5] at H51
  have H52 := Lib.hid (H5.out 167772161)
  rw [g6] at H52
  have HB := Lib.hid hb
  have HM := Lib.hid hcm
  have HN := Lib.hid hcn
  have HB0 := Lib.hid (Below.refl w0.heap.size w0)
  clear hm hn hcm hcn hb sm sn H5
  go_enter Try.func8, Try.ntmps8
  go_upto_region 3 with fail
  rw [← hw0]
  clear hw0
  obtain ⟨⟨m0, m1, m2, m3, m4, m5, m6⟩, m7, m8, m9, m10, m11, m12⟩ := celM_all (HM.out.below HB0.out HM.out.lt)
  go_wp2_with fail
  refine (H1.out _ HB0.out).mono ?_
  rintro e w1 ⟨rfl, hb⟩
  have HB1 := Lib.hid (HB0.out.trans (hb.mono HB0.out.size))
  clear hb m0 m1 m2 m3 m4 m5 m6 m7 m8 m9 m10 m11 m12
  obtain ⟨⟨m0, m1, m2, m3, m4, m5, m6⟩, m7, m8, m9, m10, m11, m12⟩ := celM_all (HM.out.below HB1.out HM.out.lt)
  go_wp2_with fail
  refine (H2.out _ HB1.out).mono ?_
  rintro e w2 ⟨rfl, hb⟩
  have HB2 := Lib.hid (HB1.out.trans (hb.mono HB1.out.size))
  clear hb m0 m1 m2 m3 m4 m5 m6 m7 m8 m9 m10 m11 m12
  obtain ⟨⟨m0, m1, m2, m3, m4, m5, m6⟩, m7, m8, m9, m10, m11, m12⟩ := celM_all (HN.out.below HB2.out HN.out.lt)
  go_wp2_with fail
  refine (H3.out _ HB2.out).mono ?_
  rintro e w3 ⟨rfl, hb⟩
  have HB3 := Lib.hid (HB2.out.trans (hb.mono HB2.out.size))
  clear hb m0 m1 m2 m3 m4 m5 m6 m7 m8 m9 m10 m11 m12
  obtain ⟨⟨m0, m1, m2, m3, m4, m5, m6⟩, m7, m8, m9, m10, m11, m12⟩ := celM_all (HN.out.below HB3.out HN.out.lt)
  go_wp2_with fail
  refine (H4.out _ HB3.out).mono ?_
  rintro e w4 ⟨rfl, hb⟩
  have HB4 := Lib.hid (HB3.out.trans (hb.mono HB3.out.size))
  clear hb m0 m1 m2 m3 m4 m5 m6 m7 m8 m9 m10 m11 m12
  obtain ⟨⟨m0, m1, m2, m3, m4, m5, m6⟩, m7, m8, m9, m10, m11, m12⟩ := celM_all (HM.out.below HB4.out HM.out.lt)
  go_wp2_with fail
  refine (H51.out _ HB4.out).mono ?_
  rintro e w5 ⟨rfl, hb⟩
  have HB5 := Lib.hid (HB4.out.trans (hb.mono HB4.out.size))
  clear hb m0 m1 m2 m3 m4 m5 m6 m7 m8 m9 m10 m11 m12
  obtain ⟨⟨m0, m1, m2, m3, m4, m5, m6⟩, m7, m8, m9, m10, m11, m12⟩ := celM_all (HM.out.below HB5.out HM.out.lt)
  go_wp2_with fail
  refine (H52.out _ HB5.out).mono ?_
  rintro e w6 ⟨rfl, hb⟩
  have HB6 := Lib.hid (HB5.out.trans (hb.mono HB5.out.size))
  clear hb m0 m1 m2 m3 m4 m5 m6 m7 m8 m9 m10 m11 m12
  go_wp2_with fail
  refine (H7.out _).mono ?_
  rintro e w7 ⟨rfl, hb⟩
  have HB7 := Lib.hid (HB6.out.trans (hb.mono HB6.out.size))
  clear hb
  go_wp2
  go_ret
  exact ⟨rfl, HB.out.trans (HB7.out.mono HB.out.size)⟩
end Go.Proofs.Ytmefnlgoejbgfaa.Gw
