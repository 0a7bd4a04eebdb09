/- What the document's own Of comes to. For all messages. -/
import Derived.Test.YtgdomcjonlngaaaDoorKwOf
set_option maxRecDepth 8000
namespace Go.Proofs.YtgdomcjonlngaaaDoor.Kw
open Go.RowKit Tl Ms By Ky

theorem join105 (l : List UInt8) : (⟨#[105] ++ l.toArray⟩ : ByteArray) = ⟨(105 :: l).toArray⟩ := by simp

set_option maxHeartbeats 2000000 in
theorem refOf_any (x : Mv) (w : World) (h : x.ok w) : Calls Tryd.prog 11 #[x.v] w (OfR w (ofK x.mm)) := by
  have hb0 : Below w.heap.size w (w.alloc (.cells x.cells 33)) := (Below.refl _ _).alloc (Nat.le_refl _) _
  have HG := Lib.hid (Mw.refRight_msg x _ (h.alloc (.cells x.cells 33)))
  cases hr : rightM x.mm with
  | false =>
    have H : Hid (ofK x.mm = ([], 1)) := of_wrong (fun k => by rw [(rightM_iff _).2 k] at hr; cases hr)
    rw [hr] at HG
    clear hr h
    go_enter Tryd.func11, Tryd.ntmps11
    go_wp2_with fail
    refine HG.out.mono ?_
    rintro e w1 ⟨rfl, hb1⟩
    go_wp2
    go_ret2
    exact OfR.err H.out (hb0.trans (hb1.mono hb0.size))
  | true =>
    have hR := (rightM_iff _).1 hr
    have HR := Lib.hid hR
    rw [hr] at HG
    have hsm := Mw.right_small (ps := x.ps) hR.2.2.1
    have hh1 : 0 ≤ x.htype ∧ x.htype ≤ 255 := hR.1.2.1
    have hh2 : 0 ≤ x.hlen ∧ x.hlen ≤ 16 := hR.1.2.2.1
    have hch : x.ch.length = 16 := hR.2.1
    have HN16 : Hid (x.n = 16) := h.ch.len.symm.trans hch
    have HF := Lib.hid (fun W (k : RdO W x.B x.m x.d x.ps) => Tw.refFind_any x.B x.m x.d x.ps 61 W k)
    have HCL : Hid ((findL (osP x.ps) 61).getD [] = clientL x.mm) := rfl
    have HOK := Lib.hid (h.alloc (.cells x.cells 33))
    have hcl6 : (clientL x.mm).length ≤ 1000 := by
      show ((findL (osP x.ps) 61).getD []).length ≤ 1000
      cases hf : findL (osP x.ps) 61 with
      | none => exact Nat.zero_le _
      | some d =>
        obtain ⟨o, ho, rfl⟩ := find_mem hf
        obtain ⟨p, hp, rfl⟩ := List.mem_map.1 ho
        exact hsm p hp
    clear hr h hsm hR hch
    generalize hcl : clientL x.mm = cl at HCL hcl6
    by_cases q1 : 255 < cl.length
    · have H : Hid (ofK x.mm = ([], 3)) := of_full HR.out (by rw [hcl]; exact q1)
      clear hcl
      go_enter Tryd.func11, Tryd.ntmps11
      go_wp2_with fail
      refine HG.out.mono ?_
      rintro e w1 ⟨rfl, hb1⟩
      have hb01 := hb0.trans (hb1.mono hb0.size)
      have hcel := Mw.box_at (x := x) (by simp) hb1
      have hc12 : w1.cell? ⟨w.heap.size, 12, none⟩ = some (.slice x.B x.m x.d) := by rw [hcel.cell]; rfl
      go_wp2_with fail
      refine (HF.out _ (HOK.out.below hb1).os).mono ?_
      rintro e w2 ⟨A2, m2, c2, rfl, hbs2, rfl⟩
      rw [HCL.out] at hbs2
      have hl2 : 255 < m2 := by have := hbs2.len; omega
      have hl3 := hbs2.cap
      have hl4 := hbs2.max
      clear hbs2
      go_wp2
      go_ret2
      exact OfR.err H.out hb01
    by_cases q2 : 1 < cl.length
    · have H : Hid (ofK x.mm = (105 :: cl, 0)) := by show _ = _; rw [of_client HR.out (by rw [hcl]; exact q1) (by rw [hcl]; exact q2), hcl]
      clear hcl
      go_enter Tryd.func11, Tryd.ntmps11
      go_wp2_with fail
      refine HG.out.mono ?_
      rintro e w1 ⟨rfl, hb1⟩
      have hb01 := hb0.trans (hb1.mono hb0.size)
      have hcel := Mw.box_at (x := x) (by simp) hb1
      have hc12 : w1.cell? ⟨w.heap.size, 12, none⟩ = some (.slice x.B x.m x.d) := by rw [hcel.cell]; rfl
      go_wp2_with fail
      refine (HF.out _ (HOK.out.below hb1).os).mono ?_
      rintro e w2 ⟨A2, m2, c2, rfl, hbs2, rfl⟩
      rw [HCL.out] at hbs2
      have hl2 : ¬ (255 : Int) < (m2 : Int) := by have := hbs2.len; omega
      have hl3 : (1 : Int) < (m2 : Int) := by have := hbs2.len; omega
      have hcv := byP.str hbs2
      have hcs : (⟨cl.toArray⟩ : ByteArray).size ≤ 255 := by show cl.toArray.size ≤ 255; simp; omega
      clear hbs2
      go_wp2
      go_ret2
      exact OfR.good H.out hb01
    by_cases q3 : x.hlen = 0
    · have H : Hid (ofK x.mm = ([], 5)) := of_none HR.out (by rw [hcl]; exact q2) q3
      have Q3 := Lib.hid q3
      clear hcl q3
      go_enter Tryd.func11, Tryd.ntmps11
      go_wp2_with fail
      refine HG.out.mono ?_
      rintro e w1 ⟨rfl, hb1⟩
      have hb01 := hb0.trans (hb1.mono hb0.size)
      have hcel := Mw.box_at (x := x) (by simp) hb1
      have hc12 : w1.cell? ⟨w.heap.size, 12, none⟩ = some (.slice x.B x.m x.d) := by rw [hcel.cell]; rfl
      go_wp2_with fail
      refine (HF.out _ (HOK.out.below hb1).os).mono ?_
      rintro e w2 ⟨A2, m2, c2, rfl, hbs2, rfl⟩
      rw [HCL.out] at hbs2
      have hl2 : ¬ (255 : Int) < (m2 : Int) := by have := hbs2.len; omega
      have hl3 : ¬ (1 : Int) < (m2 : Int) := by have := hbs2.len; omega
      have hd2 : w1.cell? ⟨w.heap.size, 2, none⟩ = some (.int .i64 0) := by rw [hcel.cell, ← Q3.out]; rfl
      clear hbs2
      go_wp2
      go_ret2
      exact OfR.err H.out hb01
    have H : Hid (ofK x.mm = (104 :: byteI x.htype :: x.ch.take x.hlen.toNat, 0)) := of_head HR.out (by rw [hcl]; exact q2) q3
    have hpos : 0 < x.hlen := by omega
    obtain ⟨N, hN⟩ : ∃ N : Nat, x.hlen = (N : Int) := ⟨x.hlen.toNat, by omega⟩
    have hN16 : N ≤ 16 := by omega
    have HNN := Lib.hid hN
    have hN1 : ((N : Int) == 0) = false := by simp; omega
    have hwb := wrap_byteI hh1.1 hh1.2
    generalize byteI x.htype = y at H hwb
    have HWB := Lib.hid hwb
    clear hcl q3 hpos hh2 hN hwb
    go_enter Tryd.func11, Tryd.ntmps11
    go_wp2_with fail
    refine HG.out.mono ?_
    rintro e w1 ⟨rfl, hb1⟩
    have hb01 := hb0.trans (hb1.mono hb0.size)
    have hcel := Mw.box_at (x := x) (by simp) hb1
    have hc12 : w1.cell? ⟨w.heap.size, 12, none⟩ = some (.slice x.B x.m x.d) := by rw [hcel.cell]; rfl
    go_wp2_with fail
    refine (HF.out _ (HOK.out.below hb1).os).mono ?_
    rintro e w2 ⟨A2, m2, c2, rfl, hbs2, rfl⟩
    rw [HCL.out] at hbs2
    have hl2 : ¬ (255 : Int) < (m2 : Int) := by have := hbs2.len; omega
    have hl3 : ¬ (1 : Int) < (m2 : Int) := by have := hbs2.len; omega
    have hd2 : w1.cell? ⟨w.heap.size, 2, none⟩ = some (.int .i64 (N : Int)) := by rw [hcel.cell, ← HNN.out]; rfl
    have hd1 : w1.cell? ⟨w.heap.size, 1, none⟩ = some (.int .i64 x.htype) := by rw [hcel.cell]; rfl
    have hch1 := (HOK.out.below hb1).ch
    have hglt := hcel.lt
    have HE : Hid (x.ch.take x.hlen.toNat = x.ch.take N) := by show _ = _; rw [HNN.out]; rfl
    have hb1a : Below w1.heap.size w1 (w1.alloc (.cells #[.int .u8 104, .int .u8 (y.toNat : Int)] 5)) := (Below.refl _ _).alloc (Nat.le_refl _) _
    have ho0 : Own 5 w1.heap.size (w1.alloc (.cells #[.int .u8 104, .int .u8 (y.toNat : Int)] 5)) (some ⟨w1.heap.size, 0, none⟩) 2 2 [104, y] := Own.lit2 5 w1 104 y
    have HO := Lib.hid ho0
    have hwb := HWB.out
    clear hbs2 hc12 ho0
    go_wp2
    clear hwb
    go_loopw [6, 7] (fun v i wr => ∃ k A n c, k ≤ N ∧ i = .int .i64 (k : Nat) ∧ v = .slice A n c ∧ n ≤ k + 2 ∧ Own 5 w1.heap.size wr A n c (104 :: y :: x.ch.take k) ∧ Below w1.heap.size w1 wr) (fun _ i _ => N - (intOf i).toNat)
    case atStart => exact ⟨0, _, 2, 2, by omega, rfl, rfl, by omega, HO.out, hb1a⟩
    case round =>
      clear HO hb1a hd1 hd2
      obtain ⟨k, A, n, c, hk, rfl, rfl, hn, hown, hb⟩ := hrel
      have hsz := hb.size
      have hcelr := hcel.below hb hglt
      have hd2 : wr.cell? ⟨w.heap.size, 2, none⟩ = some (.int .i64 (N : Int)) := by rw [hcelr.cell, ← HNN.out]; rfl
      by_cases hlt : k < N
      · have hd11 : wr.cell? ⟨w.heap.size, 11, none⟩ = some (.slice x.A x.n x.c) := by rw [hcelr.cell]; rfl
        have hkn : k < x.n := by have := HN16.out; omega
        have hkl : k < x.ch.length := by have := hch1.len; omega
        obtain ⟨bb, oo, hA, hcs⟩ := (hch1.below hb).at_ hkn
        have hck := hcs k hkl
        have HNX : Hid (104 :: y :: x.ch.take (k + 1) = (104 :: y :: x.ch.take k) ++ [x.ch[k]]) := by show _ = _; rw [List.take_succ_eq_append_getElem hkl]; rfl
        generalize x.ch[k]'hkl = z at hck HNX
        rw [hA] at hd11
        have hba : Below wr.heap.size wr (wr.alloc (Obj.cells #[.int .u8 (z.toNat : Int)] 5)) := (Below.refl _ _).alloc (Nat.le_refl _) _
        have hlit : Bs (wr.alloc (Obj.cells #[.int .u8 (z.toNat : Int)] 5)) (some ⟨wr.heap.size, 0, none⟩) 1 1 [z] := (Own.lit1 5 wr z).bs
        have howna := hown.below hba
        have hszb := Nat.le_trans hsz hba.size
        have hbn : n + 1 ≤ 140737488355328 := by omega
        clear hcs hown hA
        go_wp2_with (at_builtin; refine wpList_app byP rfl (.tmp 39) (.tmp 45) rfl rfl howna rfl hlit hbn hszb ?_; intro A3 c3 w3 hown3 hb3 _ _)
        have hb13 : Below w1.heap.size wr w3 := (hba.mono hsz).trans hb3
        go_roundw
        case rel => exact ⟨k + 1, A3, n + 1, c3, by omega, by go_num, rfl, by omega, by rw [HNX.out]; exact hown3, hb.trans hb13⟩
        case measure => simp [intOf]; omega
      · obtain rfl : k = N := by omega
        have hcv := byP.str hown.bs
        clear hown
        go_wp2
        go_ret2
        exact OfR.good (by rw [H.out, HE.out]) (hb01.trans (hb.mono hb01.size))
end Go.Proofs.YtgdomcjonlngaaaDoor.Kw
