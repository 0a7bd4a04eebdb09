/- What key.Of and the document's own Of come to. For all messages. -/
import Derived.Test.YtgdomcjonlngaaaDoorKwText
import Derived.Test.YtgdomcjonlngaaaDoorMwRef1
set_option maxRecDepth 8000
namespace Go.Proofs.YtgdomcjonlngaaaDoor.Kw
open Go.RowKit Tl Ms By Ky

/-- What Of answers, the program's and the document's. -/
def OfR (w : World) (R : List UInt8 × Int) (en : Ending) (w' : World) : Prop := ∃ q : ByteArray, en = .returned (.tuple #[.string q, .int .i64 R.2]) ∧ q.data.toList = R.1 ∧ Below w.heap.size w w'
theorem OfR.err {w w' : World} {R : List UInt8 × Int} {e : Int} (h : R = ([], e)) (hb : Below w.heap.size w w') : OfR w R (.returned (.tuple #[.string ⟨#[]⟩, .int .i64 e])) w' := ⟨_, by rw [h], by rw [h], hb⟩
theorem OfR.good {w w' : World} {R : List UInt8 × Int} {l : List UInt8} (h : R = (l, 0)) (hb : Below w.heap.size w w') : OfR w R (.returned (.tuple #[.string ⟨l.toArray⟩, .int .i64 0])) w' := ⟨_, by rw [h], by rw [h], hb⟩
theorem find_mem {l : List O} {c : Int} {d : List UInt8} (h : findL l c = some d) : ∃ o ∈ l, o.2 = d := by
  unfold findL at h
  obtain ⟨o, ho, e⟩ := Option.map_eq_some_iff.1 h
  exact ⟨o, List.mem_of_find?_eq_some ho, e⟩
theorem wrap_byteI {v : Int} (h0 : 0 ≤ v) (h1 : v ≤ 255) : IntKind.u8.wrap v = ((byteI v).toNat : Int) := by
  rw [byteI_back h0 h1, IntKind.wrap_u8]
  omega

set_option maxHeartbeats 2000000 in
theorem of_any (x : Mv) (w : World) (h : x.ok w) : Calls Tryd.prog 10 #[x.v] w (OfR w (ofK x.mm)) := by
  have hb0 : Below w.heap.size w (w.alloc (.cells x.cells 25)) := (Below.refl _ _).alloc (Nat.le_refl _) _
  have HG := Lib.hid (Mw.right_any x _ (h.alloc (.cells x.cells 25)))
  cases hr : rightM x.mm with
  | false =>
    have H : Hid (ofK x.mm = ([], 1)) := of_wrong (fun k => by rw [(rightM_iff _).2 k] at hr; cases hr)
    rw [hr] at HG
    clear hr h
    go_enter Tryd.func10, Tryd.ntmps10
    go_wp2_with fail
    refine HG.out.mono ?_
    rintro e w1 ⟨rfl, hb1⟩
    go_wp2
    go_ret2
    exact OfR.err H.out (hb0.trans (hb1.mono hb0.size))
  | true =>
    have hR := (rightM_iff _).1 hr
    have HR := Lib.hid hR
    rw [hr] at HG
    have hsm := Mw.right_small (ps := x.ps) hR.2.2.1
    have hh1 : 0 ≤ x.htype ∧ x.htype ≤ 255 := hR.1.2.1
    have hh2 : 0 ≤ x.hlen ∧ x.hlen ≤ 16 := hR.1.2.2.1
    have hch : x.ch.length = 16 := hR.2.1
    have HN16 : Hid (x.n = 16) := h.ch.len.symm.trans hch
    have HF := Lib.hid (fun W (k : RdO W x.B x.m x.d x.ps) => Tw.find_any x.B x.m x.d x.ps 61 W k hsm)
    have HCL : Hid ((findL (osP x.ps) 61).getD [] = clientL x.mm) := rfl
    have HOK := Lib.hid (h.alloc (.cells x.cells 25))
    have hcl6 : (clientL x.mm).length ≤ 1000 := by
      show ((findL (osP x.ps) 61).getD []).length ≤ 1000
      cases hf : findL (osP x.ps) 61 with
      | none => exact Nat.zero_le _
      | some d =>
        obtain ⟨o, ho, rfl⟩ := find_mem hf
        obtain ⟨p, hp, rfl⟩ := List.mem_map.1 ho
        exact hsm p hp
    clear hr h hsm hR hch
    generalize hcl : clientL x.mm = cl at HCL hcl6
    by_cases q1 : 255 < cl.length
    · have H : Hid (ofK x.mm = ([], 3)) := of_full HR.out (by rw [hcl]; exact q1)
      clear hcl
      go_enter Tryd.func10, Tryd.ntmps10
      go_wp2_with fail
      refine HG.out.mono ?_
      rintro e w1 ⟨rfl, hb1⟩
      have hb01 := hb0.trans (hb1.mono hb0.size)
      have hcel := Mw.box_at (x := x) (by simp) hb1
      have hc12 : w1.cell? ⟨w.heap.size, 12, none⟩ = some (.slice x.B x.m x.d) := by rw [hcel.cell]; rfl
      go_wp2_with fail
      refine (HF.out _ (HOK.out.below hb1).os).mono ?_
      rintro e w2 ⟨A2, m2, c2, rfl, hbs2, hb2⟩
      rw [HCL.out] at hbs2
      have hl2 : 255 < m2 := by have := hbs2.len; omega
      have hl3 := hbs2.cap
      have hl4 := hbs2.max
      clear hbs2
      go_wp2
      go_ret2
      exact OfR.err H.out (hb01.trans (hb2.mono hb01.size))
    by_cases q2 : 1 < cl.length
    · have H : Hid (ofK x.mm = (105 :: cl, 0)) := by show _ = _; rw [of_client HR.out (by rw [hcl]; exact q1) (by rw [hcl]; exact q2), hcl]
      clear hcl
      go_enter Tryd.func10, Tryd.ntmps10
      go_wp2_with fail
      refine HG.out.mono ?_
      rintro e w1 ⟨rfl, hb1⟩
      have hb01 := hb0.trans (hb1.mono hb0.size)
      have hcel := Mw.box_at (x := x) (by simp) hb1
      have hc12 : w1.cell? ⟨w.heap.size, 12, none⟩ = some (.slice x.B x.m x.d) := by rw [hcel.cell]; rfl
      go_wp2_with fail
      refine (HF.out _ (HOK.out.below hb1).os).mono ?_
      rintro e w2 ⟨A2, m2, c2, rfl, hbs2, hb2⟩
      rw [HCL.out] at hbs2
      have hb02 := hb01.trans (hb2.mono hb01.size)
      have hl2 : ¬ (255 : Int) < (m2 : Int) := by have := hbs2.len; omega
      have hl3 : (2 : Int) ≤ (m2 : Int) := by have := hbs2.len; omega
      have hl4 : m2 ≤ 1000000 := by omega
      go_wp2_with fail
      refine (withLetter_any 105 A2 m2 c2 cl _ hbs2 hl4).mono ?_
      rintro e w3 ⟨rfl, hb3⟩
      go_wp2
      go_ret2
      exact OfR.good H.out (hb02.trans (hb3.mono hb02.size))
    by_cases q3 : x.hlen = 0
    · have H : Hid (ofK x.mm = ([], 5)) := of_none HR.out (by rw [hcl]; exact q2) q3
      have Q3 := Lib.hid q3
      clear hcl q3
      go_enter Tryd.func10, Tryd.ntmps10
      go_wp2_with fail
      refine HG.out.mono ?_
      rintro e w1 ⟨rfl, hb1⟩
      have hb01 := hb0.trans (hb1.mono hb0.size)
      have hcel := Mw.box_at (x := x) (by simp) hb1
      have hc12 : w1.cell? ⟨w.heap.size, 12, none⟩ = some (.slice x.B x.m x.d) := by rw [hcel.cell]; rfl
      go_wp2_with fail
      refine (HF.out _ (HOK.out.below hb1).os).mono ?_
      rintro e w2 ⟨A2, m2, c2, rfl, hbs2, hb2⟩
      rw [HCL.out] at hbs2
      have hl2 : ¬ (255 : Int) < (m2 : Int) := by have := hbs2.len; omega
      have hl3 : ¬ (2 : Int) ≤ (m2 : Int) := by have := hbs2.len; omega
      have hcel2 := hcel.below hb2 hcel.lt
      have hd2 : w2.cell? ⟨w.heap.size, 2, none⟩ = some (.int .i64 0) := by rw [hcel2.cell, ← Q3.out]; rfl
      clear hbs2
      go_wp2
      go_ret2
      exact OfR.err H.out (hb01.trans (hb2.mono hb01.size))
    have H : Hid (ofK x.mm = (104 :: byteI x.htype :: x.ch.take x.hlen.toNat, 0)) := of_head HR.out (by rw [hcl]; exact q2) q3
    have hpos : 0 < x.hlen := by omega
    obtain ⟨N, hN⟩ : ∃ N : Nat, x.hlen = (N : Int) := ⟨x.hlen.toNat, by omega⟩
    have hN16 : N ≤ 16 := by omega
    have HNN := Lib.hid hN
    have hN1 : (0 : Int) < (N : Int) := by omega
    have hwb := wrap_byteI hh1.1 hh1.2
    generalize byteI x.htype = y at H hwb
    have HWB := Lib.hid hwb
    clear hcl hwb q3 hpos hh2 hN
    go_enter Tryd.func10, Tryd.ntmps10
    go_wp2_with fail
    refine HG.out.mono ?_
    rintro e w1 ⟨rfl, hb1⟩
    have hb01 := hb0.trans (hb1.mono hb0.size)
    have hcel := Mw.box_at (x := x) (by simp) hb1
    have hc12 : w1.cell? ⟨w.heap.size, 12, none⟩ = some (.slice x.B x.m x.d) := by rw [hcel.cell]; rfl
    go_wp2_with fail
    refine (HF.out _ (HOK.out.below hb1).os).mono ?_
    rintro e w2 ⟨A2, m2, c2, rfl, hbs2, hb2⟩
    rw [HCL.out] at hbs2
    have hl2 : ¬ (255 : Int) < (m2 : Int) := by have := hbs2.len; omega
    have hl3 : ¬ (2 : Int) ≤ (m2 : Int) := by have := hbs2.len; omega
    have hcel2 := hcel.below hb2 hcel.lt
    have hd2 : w2.cell? ⟨w.heap.size, 2, none⟩ = some (.int .i64 (N : Int)) := by rw [hcel2.cell, ← HNN.out]; rfl
    have hd1 : w2.cell? ⟨w.heap.size, 1, none⟩ = some (.int .i64 x.htype) := by rw [hcel2.cell]; rfl
    have hd11 : w2.cell? ⟨w.heap.size, 11, none⟩ = some (.slice x.A x.n x.c) := by rw [hcel2.cell]; rfl
    have hg2 := hcel2.lt
    have he11 : (w2.alloc (Obj.cells #[.int .u8 (y.toNat : Int)] 5)).cell? ⟨w.heap.size, 11, none⟩ = some (.slice x.A x.n x.c) := (World.cell?_alloc_lt _ _ _ hg2).trans hd11
    have he2 : (w2.alloc (Obj.cells #[.int .u8 (y.toNat : Int)] 5)).cell? ⟨w.heap.size, 2, none⟩ = some (.int .i64 (N : Int)) := (World.cell?_alloc_lt _ _ _ hg2).trans hd2
    have he1 : (w2.alloc (Obj.cells #[.int .u8 (y.toNat : Int)] 5)).cell? ⟨w.heap.size, 1, none⟩ = some (.int .i64 x.htype) := (World.cell?_alloc_lt _ _ _ hg2).trans hd1
    have hb02 := hb01.trans (hb2.mono hb01.size)
    have hch2 := ((HOK.out.below hb1).below hb2).ch
    obtain ⟨A4, hbs4, hrun4⟩ := byP.cut_h hch2 N (N : Int) rfl (by have := HN16.out; omega)
    have HE : Hid (x.ch.take x.hlen.toNat = x.ch.take N) := by show _ = _; rw [HNN.out]; rfl
    have hba : Below w2.heap.size w2 (w2.alloc (Obj.cells #[.int .u8 (y.toNat : Int)] 5)).drew := ((Below.refl _ _).alloc (Nat.le_refl _) _).drew
    have howna : Own 5 w2.heap.size (w2.alloc (Obj.cells #[.int .u8 (y.toNat : Int)] 5)).drew (some ⟨w2.heap.size, 0, none⟩) 1 1 [y] := Own.lit1 5 w2 y
    have hbs5 := hbs4.below hba
    have hbn : 1 + N ≤ 140737488355328 := by omega
    have hszb := hba.size
    clear hbs2 hch2 hbs4 hcel hcel2 hc12
    go_wp2_with fail
    have hwb := HWB.out
    go_region_law (refine step_appK byP (by rfl) (.tmp 33) (.tmp 38) (by rfl) (by rfl) howna (by rfl) hbs5 hbn hszb ?_; intro A6 c6 w6 hown6 hb6 _ _)
    all_goals
      clear hwb
      have hb26 : Below w2.heap.size w2 w6 := hba.trans hb6
      have hb06 := hb02.trans (hb26.mono hb02.size)
      have HWL := Lib.hid (withLetter_any 104 A6 (1 + N) c6 _ w6 hown6.bs (by omega))
      go_wp2_with fail
      refine HWL.out.mono ?_
      rintro e w7 ⟨rfl, hb7⟩
      go_wp2
      go_ret2
      exact OfR.good (by rw [H.out, HE.out]) (hb06.trans (hb7.mono hb06.size))
end Go.Proofs.YtgdomcjonlngaaaDoor.Kw
