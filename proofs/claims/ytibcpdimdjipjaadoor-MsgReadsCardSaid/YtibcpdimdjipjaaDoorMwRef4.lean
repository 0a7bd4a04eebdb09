/- The document's Read (boarderref04) at any bytes of up to a great length. -/
import Derived.Test.YtibcpdimdjipjaaDoorMwRef3o
set_option maxRecDepth 8000
namespace Go.Proofs.YtibcpdimdjipjaaDoor.Mw
open Go.RowKit Tl Ms Co By

theorem read_code {l : List UInt8} {e : Int} (h : 240 ≤ l.length) (h2 : l.length ≤ 1500) (he : (sub l 236 4 ≠ cookieL ∨ 16 < (l.getD 2 0).toNat) ∧ e = 2) : readM l = (zeroM, e) := by
  unfold readM
  rw [if_neg (by omega), if_neg (by omega), if_pos he.1, he.2]
set_option maxHeartbeats 4000000 in
theorem refReadM_any (A : Option Addr) (n c : Nat) (l : List UInt8) (w : World) (h : Bs w A n c l) (hn5 : n ≤ 100000) :
    Calls Tryd.prog 13 #[.slice A n c] w (RdM w (readM l)) := by
  have hm := h.max
  have hcap := h.cap
  have HL := Lib.hid h.len
  have hb0 : Below w.heap.size w (w.alloc (.cells zeroV.cells 32)) := (Below.refl _ _).alloc (Nat.le_refl _) _
  have h0 := h.below hb0
  by_cases h1 : (n : Int) < 240
  · have H : Hid (readM l = (zeroM, 4)) := by show readM l = _; unfold readM; rw [if_pos (by rw [HL.out]; omega)]
    go_enter Tryd.func13, Tryd.ntmps13
    go_wp2
    (try simp only [Exit.inBlock, Exit.then])
    refine bodyPost_ret (ret_cellR rfl _ _ _ _ rfl (Cel.born w 32 zeroV.cells) rfl) rfl ?_
    exact ⟨zeroV, by rw [H.out]; rfl, zeroV_ok _, by rw [H.out]; rfl, hb0⟩
  by_cases h2 : (1500 : Int) < (n : Int)
  · have H : Hid (readM l = (zeroM, 3)) := by show readM l = _; unfold readM; rw [if_neg (by rw [HL.out]; omega), if_pos (by rw [HL.out]; omega)]
    go_enter Tryd.func13, Tryd.ntmps13
    go_wp2
    (try simp only [Exit.inBlock, Exit.then])
    refine bodyPost_ret (ret_cellR rfl _ _ _ _ rfl (Cel.born w 32 zeroV.cells) rfl) rfl ?_
    exact ⟨zeroV, by rw [H.out]; rfl, zeroV_ok _, by rw [H.out]; rfl, hb0⟩
  obtain ⟨b, o, rfl, hcell⟩ := h.at_ (k := 239) (by omega)
  have hl : l.length = n := HL.out
  have HS := Lib.hid (sub4 (l := l) (i := 236) (by omega))
  have c0 := hcell 236 (by omega)
  have c1 := hcell 237 (by omega)
  have c2 := hcell 238 (by omega)
  have c3 := hcell 239 (by omega)
  have c4 := hcell 2 (by omega)
  have b0 := hcell 0 (by omega)
  have b1 := hcell 1 (by omega)
  have b3 := hcell 3 (by omega)
  have HG : Hid (l.getD 2 0 = l[2]) := by show l.getD 2 0 = l[2]; rw [List.getD_eq_getElem?_getD, List.getElem?_eq_getElem (by omega)]; rfl
  have HB0 : Hid (numAt l 0 1 = ((l[0]).toNat : Int)) := by
    show numAt l 0 1 = _
    rw [num_byte (by omega)]; unfold byteAt; rw [List.getD_eq_getElem?_getD, List.getElem?_eq_getElem (by omega)]; rfl
  have HB1 : Hid (numAt l 1 1 = ((l[1]).toNat : Int)) := by
    show numAt l 1 1 = _
    rw [num_byte (by omega)]; unfold byteAt; rw [List.getD_eq_getElem?_getD, List.getElem?_eq_getElem (by omega)]; rfl
  have HB2 : Hid (numAt l 2 1 = ((l[2]).toNat : Int)) := by
    show numAt l 2 1 = _
    rw [num_byte (by omega)]; unfold byteAt; rw [List.getD_eq_getElem?_getD, List.getElem?_eq_getElem (by omega)]; rfl
  have HB3 : Hid (numAt l 3 1 = ((l[3]).toNat : Int)) := by
    show numAt l 3 1 = _
    rw [num_byte (by omega)]; unfold byteAt; rw [List.getD_eq_getElem?_getD, List.getElem?_eq_getElem (by omega)]; rfl
  have ly0 := (l[0]).toNat_lt
  have ly1 := (l[1]).toNat_lt
  have ly2 := (l[2]).toNat_lt
  have ly3 := (l[3]).toNat_lt
  generalize l[236] = x0 at c0 HS
  generalize l[236 + 1] = x1 at c1 HS
  generalize l[236 + 2] = x2 at c2 HS
  generalize l[236 + 3] = x3 at c3 HS
  generalize l[0] = y0 at b0 HB0 ly0
  generalize l[1] = y1 at b1 HB1 ly1
  generalize l[2] = y2 at c4 HG HB2 ly2
  generalize l[3] = y3 at b3 HB3 ly3
  have hblt : b < w.heap.size := World.block_lt_of_cell? w _ c0
  clear hcell
  by_cases e0 : x0 = 99
  rotate_left
  · have H : Hid (readM l = (zeroM, 2)) := read_code (by omega) (by omega) ⟨.inl (by rw [HS.out]; intro k; unfold cookieL at k; simp at k; exact e0 (by simp [k])), rfl⟩
    have hb : ((x0.toNat : Int) != 99) = true := by
      have : x0.toNat ≠ 99 := fun k => e0 (UInt8.toNat_inj.1 k)
      simp
      omega
    clear e0
    go_enter Tryd.func13, Tryd.ntmps13
    go_wp2
    (try simp only [Exit.inBlock, Exit.then])
    refine bodyPost_ret (ret_cellR rfl _ _ _ _ rfl (Cel.born w 32 zeroV.cells) rfl) rfl ?_
    exact ⟨zeroV, by rw [H.out]; rfl, zeroV_ok _, by rw [H.out]; rfl, hb0⟩
  subst e0
  replace c0 : w.cell? ⟨b, o + 236, none⟩ = some (.int .u8 99) := c0
  by_cases e1 : x1 = 130
  rotate_left
  · have H : Hid (readM l = (zeroM, 2)) := read_code (by omega) (by omega) ⟨.inl (by rw [HS.out]; intro k; unfold cookieL at k; simp at k; exact e1 (by simp [k])), rfl⟩
    have hb : ((x1.toNat : Int) != 130) = true := by
      have : x1.toNat ≠ 130 := fun k => e1 (UInt8.toNat_inj.1 k)
      simp
      omega
    clear e1
    go_enter Tryd.func13, Tryd.ntmps13
    go_wp2
    (try simp only [Exit.inBlock, Exit.then])
    refine bodyPost_ret (ret_cellR rfl _ _ _ _ rfl (Cel.born w 32 zeroV.cells) rfl) rfl ?_
    exact ⟨zeroV, by rw [H.out]; rfl, zeroV_ok _, by rw [H.out]; rfl, hb0⟩
  subst e1
  replace c1 : w.cell? ⟨b, o + 237, none⟩ = some (.int .u8 130) := c1
  by_cases e2 : x2 = 83
  rotate_left
  · have H : Hid (readM l = (zeroM, 2)) := read_code (by omega) (by omega) ⟨.inl (by rw [HS.out]; intro k; unfold cookieL at k; simp at k; exact e2 (by simp [k])), rfl⟩
    have hb : ((x2.toNat : Int) != 83) = true := by
      have : x2.toNat ≠ 83 := fun k => e2 (UInt8.toNat_inj.1 k)
      simp
      omega
    clear e2
    go_enter Tryd.func13, Tryd.ntmps13
    go_wp2
    (try simp only [Exit.inBlock, Exit.then])
    refine bodyPost_ret (ret_cellR rfl _ _ _ _ rfl (Cel.born w 32 zeroV.cells) rfl) rfl ?_
    exact ⟨zeroV, by rw [H.out]; rfl, zeroV_ok _, by rw [H.out]; rfl, hb0⟩
  subst e2
  replace c2 : w.cell? ⟨b, o + 238, none⟩ = some (.int .u8 83) := c2
  by_cases e3 : x3 = 99
  rotate_left
  · have H : Hid (readM l = (zeroM, 2)) := read_code (by omega) (by omega) ⟨.inl (by rw [HS.out]; intro k; unfold cookieL at k; simp at k; exact e3 (by simp [k])), rfl⟩
    have hb : ((x3.toNat : Int) != 99) = true := by
      have : x3.toNat ≠ 99 := fun k => e3 (UInt8.toNat_inj.1 k)
      simp
      omega
    clear e3
    go_enter Tryd.func13, Tryd.ntmps13
    go_wp2
    (try simp only [Exit.inBlock, Exit.then])
    refine bodyPost_ret (ret_cellR rfl _ _ _ _ rfl (Cel.born w 32 zeroV.cells) rfl) rfl ?_
    exact ⟨zeroV, by rw [H.out]; rfl, zeroV_ok _, by rw [H.out]; rfl, hb0⟩
  subst e3
  replace c3 : w.cell? ⟨b, o + 239, none⟩ = some (.int .u8 99) := c3
  by_cases e4 : (16 : Int) < (y2.toNat : Int)
  · have H : Hid (readM l = (zeroM, 2)) := read_code (by omega) (by omega) ⟨.inr (by rw [HG.out]; omega), rfl⟩
    go_enter Tryd.func13, Tryd.ntmps13
    go_wp2
    (try simp only [Exit.inBlock, Exit.then])
    refine bodyPost_ret (ret_cellR rfl _ _ _ _ rfl (Cel.born w 32 zeroV.cells) rfl) rfl ?_
    exact ⟨zeroV, by rw [H.out]; rfl, zeroV_ok _, by rw [H.out]; rfl, hb0⟩
  exact refReadM_ok b o n c l w h (by omega) (by omega) y0 y1 y2 y3 c0 c1 c2 c3 b0 b1 c4 b3 HB0 HB1 HB2 HB3 ly0 ly1 ly2 ly3 e4 (by show readM l = _; unfold readM; rw [if_neg (by omega), if_neg (by omega), if_neg (by rw [HS.out, HG.out]; rintro (k | k); exact k rfl; omega)])
end Go.Proofs.YtibcpdimdjipjaaDoor.Mw
