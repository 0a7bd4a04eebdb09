/- The document's Read (boarderref04) where the fixed part is right. -/
import Derived.Test.YtibcpdimdjipjaaDoorMwRef3
set_option maxRecDepth 8000
namespace Go.Proofs.YtibcpdimdjipjaaDoor.Mw
open Go.RowKit Tl Ms Co By

set_option maxHeartbeats 4000000 in
theorem refReadM_ok (b o n c : Nat) (l : List UInt8) (w : World) (h : Bs w (some ⟨b, o, none⟩) n c l) (h1 : 240 ≤ n) (h2 : n ≤ 1500) (y0 y1 y2 y3 : UInt8)
    (c0 : w.cell? ⟨b, o + 236, none⟩ = some (.int .u8 99)) (c1 : w.cell? ⟨b, o + 237, none⟩ = some (.int .u8 130)) (c2 : w.cell? ⟨b, o + 238, none⟩ = some (.int .u8 83)) (c3 : w.cell? ⟨b, o + 239, none⟩ = some (.int .u8 99))
    (b0 : w.cell? ⟨b, o, none⟩ = some (.int .u8 y0.toNat)) (b1 : w.cell? ⟨b, o + 1, none⟩ = some (.int .u8 y1.toNat)) (c4 : w.cell? ⟨b, o + 2, none⟩ = some (.int .u8 y2.toNat)) (b3 : w.cell? ⟨b, o + 3, none⟩ = some (.int .u8 y3.toNat))
    (HB0 : Hid (numAt l 0 1 = (y0.toNat : Int))) (HB1 : Hid (numAt l 1 1 = (y1.toNat : Int))) (HB2 : Hid (numAt l 2 1 = (y2.toNat : Int))) (HB3 : Hid (numAt l 3 1 = (y3.toNat : Int)))
    (ly0 : y0.toNat < 2 ^ 8) (ly1 : y1.toNat < 2 ^ 8) (ly2 : y2.toNat < 2 ^ 8) (ly3 : y3.toNat < 2 ^ 8) (e4 : ¬ (16 : Int) < (y2.toNat : Int)) (HRD : Hid (readM l = if (optionsL l).2 ≠ 0 then (zeroM, (optionsL l).2) else (msgOf l (optionsL l).1, 0))) :
    Calls Tryd.prog 13 #[.slice (some ⟨b, o, none⟩) n c] w (RdM w (readM l)) := by
  have hm := h.max
  have hcap := h.cap
  have HL := Lib.hid h.len
  have hblt : b < w.heap.size := World.block_lt_of_cell? w _ c0
  have hb0 : Below w.heap.size w (w.alloc (.cells zeroV.cells 32)) := (Below.refl _ _).alloc (Nat.le_refl _) _
  have h0 := h.below hb0
  have HOG := Lib.hid (fun k => options_good (b := l) k)
  obtain ⟨A1, s1, cut1⟩ := byP.cut_lh h 4 8 4 8 rfl rfl (by omega) (by omega)
  obtain ⟨A2, s2, cut2⟩ := byP.cut_lh h 8 10 8 10 rfl rfl (by omega) (by omega)
  obtain ⟨A3, s3, cut3⟩ := byP.cut_lh h 10 12 10 12 rfl rfl (by omega) (by omega)
  obtain ⟨A4, s4, cut4⟩ := byP.cut_lh h 12 16 12 16 rfl rfl (by omega) (by omega)
  obtain ⟨A5, s5, cut5⟩ := byP.cut_lh h 16 20 16 20 rfl rfl (by omega) (by omega)
  obtain ⟨A6, s6, cut6⟩ := byP.cut_lh h 20 24 20 24 rfl rfl (by omega) (by omega)
  obtain ⟨A7, s7, cut7⟩ := byP.cut_lh h 24 28 24 28 rfl rfl (by omega) (by omega)
  obtain ⟨A8, s8, cut8⟩ := byP.cut_lh h 28 44 28 44 rfl rfl (by omega) (by omega)
  have KB : Hid (∀ W, Below w.heap.size w W → Bs W A1 4 (c - 4) (sub l 4 4) ∧ Bs W A2 2 (c - 8) (sub l 8 2) ∧ Bs W A3 2 (c - 10) (sub l 10 2) ∧ Bs W A4 4 (c - 12) (sub l 12 4) ∧ Bs W A5 4 (c - 16) (sub l 16 4) ∧ Bs W A6 4 (c - 20) (sub l 20 4) ∧ Bs W A7 4 (c - 24) (sub l 24 4) ∧ Bs W A8 16 (c - 28) (sub l 28 16)) := fun W hW =>
    ⟨Bs.below s1 hW, Bs.below s2 hW, Bs.below s3 hW, Bs.below s4 hW, Bs.below s5 hW, Bs.below s6 hW, Bs.below s7 hW, Bs.below s8 hW⟩
  clear s1 s2 s3 s4 s5 s6 s7 s8
  obtain ⟨R, HR⟩ : ∃ R, Hid (optionsL l = R) := ⟨_, rfl⟩
  rw [HR.out] at HRD HOG
  go_enter Tryd.func13, Tryd.ntmps13
  go_wp2_with fail
  refine (refOptions_any (some ⟨b, o, none⟩) n c l _ h0 h1 (by omega)).mono ?_
  rw [HR.out]
  rintro e w1 ⟨B, k, d, qs, rfl, hqs, hrq, hb1⟩
  obtain ⟨os, er⟩ := R
  simp only at hqs HRD HOG ⊢
  have HQ := Lib.hid hqs
  have hbw1 := hb0.trans (hb1.mono hb0.size)
  have hcR := (Cel.born w 32 zeroV.cells).below hb1 (Cel.born w 32 zeroV.cells).lt
  clear hqs c0 c1 c2 c3
  by_cases z0 : er = 0
  rotate_left
  · have H : Hid (readM l = (zeroM, er)) := by rw [HRD.out, if_pos z0]; rfl
    have hb : (er != 0) = true := by simpa using z0
    obtain ⟨r0, r1, r2, r3, r4, r5, r6, r7, r8, r9, r10, r11, r12, fz⟩ := cels13 hcR
    have hfin := set13 (.int .i64 0) (.int .i64 0) (.int .i64 0) (.int .i64 0) (.int .i64 0) (.int .i64 0) (.int .i64 0) (.int .i64 0) (.int .i64 0) (.int .i64 0) (.int .i64 0) (.slice none 0 0) (.slice none 0 0) (.int .i64 0) (.int .i64 0) (.int .i64 0) (.int .i64 0) (.int .i64 0) (.int .i64 0) (.int .i64 0) (.int .i64 0) (.int .i64 0) (.int .i64 0) (.int .i64 0) (.slice none 0 0) (.slice none 0 0) hcR
    clear z0 hcR
    go_wp2
    (try simp only [Exit.inBlock, Exit.then])
    refine bodyPost_ret (ret_cellR rfl _ _ _ _ rfl hfin rfl) rfl ?_
    exact ⟨zeroV, by rw [H.out]; rfl, zeroV_ok _, by rw [H.out]; rfl, (((((((((((((hbw1.setCell (p := ⟨w.heap.size, 0, none⟩) (Nat.le_refl _) _).setCell (p := ⟨w.heap.size, 1, none⟩) (Nat.le_refl _) _).setCell (p := ⟨w.heap.size, 2, none⟩) (Nat.le_refl _) _).setCell (p := ⟨w.heap.size, 3, none⟩) (Nat.le_refl _) _).setCell (p := ⟨w.heap.size, 4, none⟩) (Nat.le_refl _) _).setCell (p := ⟨w.heap.size, 5, none⟩) (Nat.le_refl _) _).setCell (p := ⟨w.heap.size, 6, none⟩) (Nat.le_refl _) _).setCell (p := ⟨w.heap.size, 7, none⟩) (Nat.le_refl _) _).setCell (p := ⟨w.heap.size, 8, none⟩) (Nat.le_refl _) _).setCell (p := ⟨w.heap.size, 9, none⟩) (Nat.le_refl _) _).setCell (p := ⟨w.heap.size, 10, none⟩) (Nat.le_refl _) _).setCell (p := ⟨w.heap.size, 11, none⟩) (Nat.le_refl _) _).setCell (p := ⟨w.heap.size, 12, none⟩) (Nat.le_refl _) _)⟩
  subst z0
  have H : Hid (readM l = (msgOf l (osP qs), 0)) := by rw [HRD.out, if_neg (by simp), HQ.out]; rfl
  have HC : Hid (∀ p ∈ qs, p.code ≠ 0) := fun p hp => by
    have hg := right_fit (HOG.out rfl).1 (o := p.o) (by rw [← HQ.out]; exact List.mem_map_of_mem hp)
    have : 1 ≤ p.code := hg.1
    omega
  replace b0 := (hbw1.cell (p := ⟨b, o, none⟩) hblt).trans b0
  replace b1 := (hbw1.cell (p := ⟨b, o + 1, none⟩) hblt).trans b1
  replace c4 := (hbw1.cell (p := ⟨b, o + 2, none⟩) hblt).trans c4
  replace b3 := (hbw1.cell (p := ⟨b, o + 3, none⟩) hblt).trans b3
  have hlt1 : b < w1.heap.size := Nat.lt_of_lt_of_le hblt hbw1.size
  have HCR := Lib.hid hcR
  have HRQ := Lib.hid hrq
  clear hcR hrq HR HRD HOG h h0
  go_wp2_with fail
  go_region
  have hb2 : Below w1.heap.size w1 ((w1.alloc (.cells #[.int .i64 y0.toNat, .int .i64 y1.toNat, .int .i64 y2.toNat, .int .i64 y3.toNat, .int .i64 0, .int .i64 0, .int .i64 0, .int .i64 0, .int .i64 0, .int .i64 0, .int .i64 0, .slice none 0 0, .slice none 0 0] 32)).drew) := ((Below.refl _ _).alloc (Nat.le_refl _) _).drew
  have hP0 : Cel ((w1.alloc (.cells #[.int .i64 y0.toNat, .int .i64 y1.toNat, .int .i64 y2.toNat, .int .i64 y3.toNat, .int .i64 0, .int .i64 0, .int .i64 0, .int .i64 0, .int .i64 0, .int .i64 0, .int .i64 0, .slice none 0 0, .slice none 0 0] 32)).drew) w1.heap.size 32 #[.int .i64 y0.toNat, .int .i64 y1.toNat, .int .i64 y2.toNat, .int .i64 y3.toNat, .int .i64 0, .int .i64 0, .int .i64 0, .int .i64 0, .int .i64 0, .int .i64 0, .int .i64 0, .slice none 0 0, .slice none 0 0] := Cel.born w1 32 #[.int .i64 y0.toNat, .int .i64 y1.toNat, .int .i64 y2.toNat, .int .i64 y3.toNat, .int .i64 0, .int .i64 0, .int .i64 0, .int .i64 0, .int .i64 0, .int .i64 0, .int .i64 0, .slice none 0 0, .slice none 0 0]
  have hR0 := HCR.out.below hb2 HCR.out.lt
  have hne : w.heap.size ≠ w1.heap.size := by have := HCR.out.lt; omega
  have hne2 : w1.heap.size ≠ w.heap.size := Ne.symm hne
  have hle := hbw1.size
  have hB0 := hbw1.trans (hb2.mono hbw1.size)
  have K0 : Hid (∀ b', b' < w1.heap.size → ((w1.alloc (.cells #[.int .i64 y0.toNat, .int .i64 y1.toNat, .int .i64 y2.toNat, .int .i64 y3.toNat, .int .i64 0, .int .i64 0, .int .i64 0, .int .i64 0, .int .i64 0, .int .i64 0, .int .i64 0, .slice none 0 0, .slice none 0 0] 32)).drew).heap[b']? = w1.heap[b']?) := fun b' hb' => hb2.block b' hb'
  clear b0 b1 c4 b3 hb2
  generalize ((w1.alloc (.cells #[.int .i64 y0.toNat, .int .i64 y1.toNat, .int .i64 y2.toNat, .int .i64 y3.toNat, .int .i64 0, .int .i64 0, .int .i64 0, .int .i64 0, .int .i64 0, .int .i64 0, .int .i64 0, .slice none 0 0, .slice none 0 0] 32)).drew) = v0 at *
  obtain ⟨p, HP⟩ : ∃ p, Hid (w1.heap.size = p) := ⟨_, rfl⟩
  rw [HP.out] at hP0 hne hne2 hle K0 ⊢
  obtain ⟨q0, q1, q2, q3, q4, q5, q6, q7, q8, q9, q10, q11, q12, fzP⟩ := cels13 hP0
  go_wp2_with fail
  refine (Cw.value_any A1 4 (c - 4) (sub l 4 4) _ (KB.out _ hB0).1 (by omega)).mono ?_
  rintro e _ ⟨rfl, rfl⟩
  go_wp2_with fail
  have hP1 : Cel (v0.setCell ⟨p, 4, none⟩ (.int .i64 (valL (sub l 4 4) : Nat))) p 32 #[.int .i64 y0.toNat, .int .i64 y1.toNat, .int .i64 y2.toNat, .int .i64 y3.toNat, .int .i64 (valL (sub l 4 4) : Nat), .int .i64 0, .int .i64 0, .int .i64 0, .int .i64 0, .int .i64 0, .int .i64 0, .slice none 0 0, .slice none 0 0] := Cel.set hP0 4 (.int .i64 (valL (sub l 4 4) : Nat))
  have hR1 := Cel.far hR0 hne 4 (.int .i64 (valL (sub l 4 4) : Nat))
  have hB1 := hB0.setCell (p := ⟨p, 4, none⟩) hle (.int .i64 (valL (sub l 4 4) : Nat))
  have K1 : Hid (∀ b', b' < p → (v0.setCell ⟨p, 4, none⟩ (.int .i64 (valL (sub l 4 4) : Nat))).heap[b']? = w1.heap[b']?) := fun b' hb' => (Below.heap_setCell _ _ _ _ (by show b' ≠ p; omega)).trans (K0.out b' hb')
  clear q0 q1 q2 q3 q4 q5 q6 q7 q8 q9 q10 q11 q12 fzP hP0 hR0 hB0 K0
  generalize (v0.setCell ⟨p, 4, none⟩ (.int .i64 (valL (sub l 4 4) : Nat))) = v1 at *
  obtain ⟨q0, q1, q2, q3, q4, q5, q6, q7, q8, q9, q10, q11, q12, fzP⟩ := cels13 hP1
  refine (Cw.value_any A2 2 (c - 8) (sub l 8 2) _ (KB.out _ hB1).2.1 (by omega)).mono ?_
  rintro e _ ⟨rfl, rfl⟩
  go_wp2_with fail
  have hP2 : Cel (v1.setCell ⟨p, 5, none⟩ (.int .i64 (valL (sub l 8 2) : Nat))) p 32 #[.int .i64 y0.toNat, .int .i64 y1.toNat, .int .i64 y2.toNat, .int .i64 y3.toNat, .int .i64 (valL (sub l 4 4) : Nat), .int .i64 (valL (sub l 8 2) : Nat), .int .i64 0, .int .i64 0, .int .i64 0, .int .i64 0, .int .i64 0, .slice none 0 0, .slice none 0 0] := Cel.set hP1 5 (.int .i64 (valL (sub l 8 2) : Nat))
  have hR2 := Cel.far hR1 hne 5 (.int .i64 (valL (sub l 8 2) : Nat))
  have hB2 := hB1.setCell (p := ⟨p, 5, none⟩) hle (.int .i64 (valL (sub l 8 2) : Nat))
  have K2 : Hid (∀ b', b' < p → (v1.setCell ⟨p, 5, none⟩ (.int .i64 (valL (sub l 8 2) : Nat))).heap[b']? = w1.heap[b']?) := fun b' hb' => (Below.heap_setCell _ _ _ _ (by show b' ≠ p; omega)).trans (K1.out b' hb')
  clear q0 q1 q2 q3 q4 q5 q6 q7 q8 q9 q10 q11 q12 fzP hP1 hR1 hB1 K1
  generalize (v1.setCell ⟨p, 5, none⟩ (.int .i64 (valL (sub l 8 2) : Nat))) = v2 at *
  obtain ⟨q0, q1, q2, q3, q4, q5, q6, q7, q8, q9, q10, q11, q12, fzP⟩ := cels13 hP2
  refine (Cw.value_any A3 2 (c - 10) (sub l 10 2) _ (KB.out _ hB2).2.2.1 (by omega)).mono ?_
  rintro e _ ⟨rfl, rfl⟩
  go_wp2_with fail
  have hP3 : Cel (v2.setCell ⟨p, 6, none⟩ (.int .i64 (valL (sub l 10 2) : Nat))) p 32 #[.int .i64 y0.toNat, .int .i64 y1.toNat, .int .i64 y2.toNat, .int .i64 y3.toNat, .int .i64 (valL (sub l 4 4) : Nat), .int .i64 (valL (sub l 8 2) : Nat), .int .i64 (valL (sub l 10 2) : Nat), .int .i64 0, .int .i64 0, .int .i64 0, .int .i64 0, .slice none 0 0, .slice none 0 0] := Cel.set hP2 6 (.int .i64 (valL (sub l 10 2) : Nat))
  have hR3 := Cel.far hR2 hne 6 (.int .i64 (valL (sub l 10 2) : Nat))
  have hB3 := hB2.setCell (p := ⟨p, 6, none⟩) hle (.int .i64 (valL (sub l 10 2) : Nat))
  have K3 : Hid (∀ b', b' < p → (v2.setCell ⟨p, 6, none⟩ (.int .i64 (valL (sub l 10 2) : Nat))).heap[b']? = w1.heap[b']?) := fun b' hb' => (Below.heap_setCell _ _ _ _ (by show b' ≠ p; omega)).trans (K2.out b' hb')
  clear q0 q1 q2 q3 q4 q5 q6 q7 q8 q9 q10 q11 q12 fzP hP2 hR2 hB2 K2
  generalize (v2.setCell ⟨p, 6, none⟩ (.int .i64 (valL (sub l 10 2) : Nat))) = v3 at *
  obtain ⟨q0, q1, q2, q3, q4, q5, q6, q7, q8, q9, q10, q11, q12, fzP⟩ := cels13 hP3
  refine (Cw.value_any A4 4 (c - 12) (sub l 12 4) _ (KB.out _ hB3).2.2.2.1 (by omega)).mono ?_
  rintro e _ ⟨rfl, rfl⟩
  go_wp2_with fail
  have hP4 : Cel (v3.setCell ⟨p, 7, none⟩ (.int .i64 (valL (sub l 12 4) : Nat))) p 32 #[.int .i64 y0.toNat, .int .i64 y1.toNat, .int .i64 y2.toNat, .int .i64 y3.toNat, .int .i64 (valL (sub l 4 4) : Nat), .int .i64 (valL (sub l 8 2) : Nat), .int .i64 (valL (sub l 10 2) : Nat), .int .i64 (valL (sub l 12 4) : Nat), .int .i64 0, .int .i64 0, .int .i64 0, .slice none 0 0, .slice none 0 0] := Cel.set hP3 7 (.int .i64 (valL (sub l 12 4) : Nat))
  have hR4 := Cel.far hR3 hne 7 (.int .i64 (valL (sub l 12 4) : Nat))
  have hB4 := hB3.setCell (p := ⟨p, 7, none⟩) hle (.int .i64 (valL (sub l 12 4) : Nat))
  have K4 : Hid (∀ b', b' < p → (v3.setCell ⟨p, 7, none⟩ (.int .i64 (valL (sub l 12 4) : Nat))).heap[b']? = w1.heap[b']?) := fun b' hb' => (Below.heap_setCell _ _ _ _ (by show b' ≠ p; omega)).trans (K3.out b' hb')
  clear q0 q1 q2 q3 q4 q5 q6 q7 q8 q9 q10 q11 q12 fzP hP3 hR3 hB3 K3
  generalize (v3.setCell ⟨p, 7, none⟩ (.int .i64 (valL (sub l 12 4) : Nat))) = v4 at *
  obtain ⟨q0, q1, q2, q3, q4, q5, q6, q7, q8, q9, q10, q11, q12, fzP⟩ := cels13 hP4
  refine (Cw.value_any A5 4 (c - 16) (sub l 16 4) _ (KB.out _ hB4).2.2.2.2.1 (by omega)).mono ?_
  rintro e _ ⟨rfl, rfl⟩
  go_wp2_with fail
  have hP5 : Cel (v4.setCell ⟨p, 8, none⟩ (.int .i64 (valL (sub l 16 4) : Nat))) p 32 #[.int .i64 y0.toNat, .int .i64 y1.toNat, .int .i64 y2.toNat, .int .i64 y3.toNat, .int .i64 (valL (sub l 4 4) : Nat), .int .i64 (valL (sub l 8 2) : Nat), .int .i64 (valL (sub l 10 2) : Nat), .int .i64 (valL (sub l 12 4) : Nat), .int .i64 (valL (sub l 16 4) : Nat), .int .i64 0, .int .i64 0, .slice none 0 0, .slice none 0 0] := Cel.set hP4 8 (.int .i64 (valL (sub l 16 4) : Nat))
  have hR5 := Cel.far hR4 hne 8 (.int .i64 (valL (sub l 16 4) : Nat))
  have hB5 := hB4.setCell (p := ⟨p, 8, none⟩) hle (.int .i64 (valL (sub l 16 4) : Nat))
  have K5 : Hid (∀ b', b' < p → (v4.setCell ⟨p, 8, none⟩ (.int .i64 (valL (sub l 16 4) : Nat))).heap[b']? = w1.heap[b']?) := fun b' hb' => (Below.heap_setCell _ _ _ _ (by show b' ≠ p; omega)).trans (K4.out b' hb')
  clear q0 q1 q2 q3 q4 q5 q6 q7 q8 q9 q10 q11 q12 fzP hP4 hR4 hB4 K4
  generalize (v4.setCell ⟨p, 8, none⟩ (.int .i64 (valL (sub l 16 4) : Nat))) = v5 at *
  obtain ⟨q0, q1, q2, q3, q4, q5, q6, q7, q8, q9, q10, q11, q12, fzP⟩ := cels13 hP5
  refine (Cw.value_any A6 4 (c - 20) (sub l 20 4) _ (KB.out _ hB5).2.2.2.2.2.1 (by omega)).mono ?_
  rintro e _ ⟨rfl, rfl⟩
  go_wp2_with fail
  have hP6 : Cel (v5.setCell ⟨p, 9, none⟩ (.int .i64 (valL (sub l 20 4) : Nat))) p 32 #[.int .i64 y0.toNat, .int .i64 y1.toNat, .int .i64 y2.toNat, .int .i64 y3.toNat, .int .i64 (valL (sub l 4 4) : Nat), .int .i64 (valL (sub l 8 2) : Nat), .int .i64 (valL (sub l 10 2) : Nat), .int .i64 (valL (sub l 12 4) : Nat), .int .i64 (valL (sub l 16 4) : Nat), .int .i64 (valL (sub l 20 4) : Nat), .int .i64 0, .slice none 0 0, .slice none 0 0] := Cel.set hP5 9 (.int .i64 (valL (sub l 20 4) : Nat))
  have hR6 := Cel.far hR5 hne 9 (.int .i64 (valL (sub l 20 4) : Nat))
  have hB6 := hB5.setCell (p := ⟨p, 9, none⟩) hle (.int .i64 (valL (sub l 20 4) : Nat))
  have K6 : Hid (∀ b', b' < p → (v5.setCell ⟨p, 9, none⟩ (.int .i64 (valL (sub l 20 4) : Nat))).heap[b']? = w1.heap[b']?) := fun b' hb' => (Below.heap_setCell _ _ _ _ (by show b' ≠ p; omega)).trans (K5.out b' hb')
  clear q0 q1 q2 q3 q4 q5 q6 q7 q8 q9 q10 q11 q12 fzP hP5 hR5 hB5 K5
  generalize (v5.setCell ⟨p, 9, none⟩ (.int .i64 (valL (sub l 20 4) : Nat))) = v6 at *
  obtain ⟨q0, q1, q2, q3, q4, q5, q6, q7, q8, q9, q10, q11, q12, fzP⟩ := cels13 hP6
  refine (Cw.value_any A7 4 (c - 24) (sub l 24 4) _ (KB.out _ hB6).2.2.2.2.2.2.1 (by omega)).mono ?_
  rintro e _ ⟨rfl, rfl⟩
  obtain ⟨r0, r1, r2, r3, r4, r5, r6, r7, r8, r9, r10, r11, r12, fzR⟩ := cels13 hR6
  have hfin := Lib.hid (set13 (.int .i64 0) (.int .i64 0) (.int .i64 0) (.int .i64 0) (.int .i64 0) (.int .i64 0) (.int .i64 0) (.int .i64 0) (.int .i64 0) (.int .i64 0) (.int .i64 0) (.slice none 0 0) (.slice none 0 0) (.int .i64 y0.toNat) (.int .i64 y1.toNat) (.int .i64 y2.toNat) (.int .i64 y3.toNat) (.int .i64 (valL (sub l 4 4) : Nat)) (.int .i64 (valL (sub l 8 2) : Nat)) (.int .i64 (valL (sub l 10 2) : Nat)) (.int .i64 (valL (sub l 12 4) : Nat)) (.int .i64 (valL (sub l 16 4) : Nat)) (.int .i64 (valL (sub l 20 4) : Nat)) (.int .i64 (valL (sub l 24 4) : Nat)) (.slice A8 16 (c - 28)) (.slice B k d) (Cel.far (Cel.far (Cel.far hR6 hne 10 (.int .i64 (valL (sub l 24 4) : Nat))) hne 11 (.slice A8 16 (c - 28))) hne 12 (.slice B k d)))
  have hX := Lib.hid (((((((((((((((((hB6.setCell (p := ⟨p, 10, none⟩) hle (.int .i64 (valL (sub l 24 4) : Nat))).setCell (p := ⟨p, 11, none⟩) hle (.slice A8 16 (c - 28))).setCell (p := ⟨p, 12, none⟩) hle (.slice B k d)).setCell (p := ⟨w.heap.size, 0, none⟩) (Nat.le_refl _) (.int .i64 y0.toNat)).setCell (p := ⟨w.heap.size, 1, none⟩) (Nat.le_refl _) (.int .i64 y1.toNat)).setCell (p := ⟨w.heap.size, 2, none⟩) (Nat.le_refl _) (.int .i64 y2.toNat)).setCell (p := ⟨w.heap.size, 3, none⟩) (Nat.le_refl _) (.int .i64 y3.toNat)).setCell (p := ⟨w.heap.size, 4, none⟩) (Nat.le_refl _) (.int .i64 (valL (sub l 4 4) : Nat))).setCell (p := ⟨w.heap.size, 5, none⟩) (Nat.le_refl _) (.int .i64 (valL (sub l 8 2) : Nat))).setCell (p := ⟨w.heap.size, 6, none⟩) (Nat.le_refl _) (.int .i64 (valL (sub l 10 2) : Nat))).setCell (p := ⟨w.heap.size, 7, none⟩) (Nat.le_refl _) (.int .i64 (valL (sub l 12 4) : Nat))).setCell (p := ⟨w.heap.size, 8, none⟩) (Nat.le_refl _) (.int .i64 (valL (sub l 16 4) : Nat))).setCell (p := ⟨w.heap.size, 9, none⟩) (Nat.le_refl _) (.int .i64 (valL (sub l 20 4) : Nat))).setCell (p := ⟨w.heap.size, 10, none⟩) (Nat.le_refl _) (.int .i64 (valL (sub l 24 4) : Nat))).setCell (p := ⟨w.heap.size, 11, none⟩) (Nat.le_refl _) (.slice A8 16 (c - 28))).setCell (p := ⟨w.heap.size, 12, none⟩) (Nat.le_refl _) (.slice B k d)))
  clear hP6 hR6 hB6
  go_wp2
  (try simp only [Exit.inBlock, Exit.then])
  refine bodyPost_ret (ret_cellR rfl _ _ _ _ rfl hfin.out rfl) rfl ?_
  refine ⟨⟨y0.toNat, y1.toNat, y2.toNat, y3.toNat, numAt l 4 4, numAt l 8 2, numAt l 10 2, numAt l 12 4, numAt l 16 4, numAt l 20 4, numAt l 24 4, A8, 16, c - 28, sub l 28 16, B, k, d, qs⟩, by rw [H.out]; rfl, ⟨(KB.out _ hX.out).2.2.2.2.2.2.2, rd_far HRQ.out HC.out HCR.out (fun b' h1 h2 => ?_)⟩, ?_, hX.out⟩
  · rw [HP.out] at h2
    have h3 : b' ≠ p := by omega
    repeat rw [Below.heap_setCell _ _ _ _ (by first | exact h1 | exact h3)]
    exact K6.out b' h2
  · rw [H.out]
    show (⟨(y0.toNat : Int), (y1.toNat : Int), (y2.toNat : Int), (y3.toNat : Int), numAt l 4 4, numAt l 8 2, numAt l 10 2, numAt l 12 4, numAt l 16 4, numAt l 20 4, numAt l 24 4, sub l 28 16, osP qs⟩ : M) = msgOf l (osP qs)
    have hl : l.length = n := HL.out
    rw [← HB0.out, ← HB1.out, ← HB2.out, ← HB3.out, num_byte (show 0 < l.length by omega), num_byte (show 1 < l.length by omega), num_byte (show 2 < l.length by omega), num_byte (show 3 < l.length by omega)]
    rfl
end Go.Proofs.YtibcpdimdjipjaaDoor.Mw
