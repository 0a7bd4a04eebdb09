/- What key.Text and the document's own Text come to. Conditions: that the table of digits holds what the program's text lays. -/
import Derived.Test.YtoldppbakapohaaGreatDoorKitA
import Derived.Test.YtoldppbakapohaaGreatDoorMwA
import Derived.Deep.RegionLaw
section
set_option maxRecDepth 8000
namespace Go.Proofs.YtoldppbakapohaaGreatDoor.By
open Go.RowKit Tl
section
variable {P : Program} {T e S : TypeId} {w : World} {A : Option Addr} {n c : Nat} {l : List UInt8}
/-- 'append' of bytes as a step of a region that draws its order; what it does to other blocks. -/
theorem step_appK (hp : ByP P T e S) {ops : Array Oper} {o : Oper} {a : Act} {K : Act → World → Prop} {Q : Exit → Act → World → Prop} {E : Prop} (hgd : o.guard = none) (s x : Operand)
    (ho : o.op = .call { callee := .builtin .append, args := #[s, x], argTypes := #[T, T] }) {B : Nat} (hs : a.eval s = .slice A n c) (hown : Own e B w A n c l)
    {A2 : Option Addr} {m c2 : Nat} {l2 : List UInt8} (hx : a.eval x = .slice A2 m c2) (h2 : Bs w A2 m c2 l2) (hb : n + m ≤ 140737488355328) (hB : B ≤ w.heap.size)
    (h : ∀ A' c' w', Own e B w' A' (n + m) c' (l ++ l2) → Below B w w' → w.grownBy w' (Value.slice A n c).ownBlock →
      ((Value.slice A' (n + m) c').ownBlock = (Value.slice A n c).ownBlock ∨ (Value.slice A' (n + m) c').ownBlock = some w.heap.size) → K (a.put o.dst (.slice A' (n + m) c')) w') :
    if Region.wanted o (yielded ops a.tmps) = true then Oper.wp P o a w K Q else E := by
  have hw : Region.wanted o (yielded ops a.tmps) = true := by simp [Region.wanted, hgd]
  rw [if_pos hw]
  exact wp_app hp s x ho hs hown hx h2 hb hB h
end
end Go.Proofs.YtoldppbakapohaaGreatDoor.By
namespace Go.Proofs.YtoldppbakapohaaGreatDoor.Kw
open Go.RowKit Tl By Ky

/-! ### The document's own -/
end Go.Proofs.YtoldppbakapohaaGreatDoor.Kw
end
/- What key.Of and the document's own Of come to. For all messages. -/
section
set_option maxRecDepth 8000
namespace Go.Proofs.YtoldppbakapohaaGreatDoor.Kw
open Go.RowKit Tl Ms By Ky

/-- What Of answers, the program's and the document's. -/
def OfR (w : World) (R : List UInt8 × Int) (en : Ending) (w' : World) : Prop := ∃ q : ByteArray, en = .returned (.tuple #[.string q, .int .i64 R.2]) ∧ q.data.toList = R.1 ∧ Below w.heap.size w w'
theorem OfR.err {w w' : World} {R : List UInt8 × Int} {e : Int} (h : R = ([], e)) (hb : Below w.heap.size w w') : OfR w R (.returned (.tuple #[.string ⟨#[]⟩, .int .i64 e])) w' := ⟨_, by rw [h], by rw [h], hb⟩
theorem OfR.good {w w' : World} {R : List UInt8 × Int} {l : List UInt8} (h : R = (l, 0)) (hb : Below w.heap.size w w') : OfR w R (.returned (.tuple #[.string ⟨l.toArray⟩, .int .i64 0])) w' := ⟨_, by rw [h], by rw [h], hb⟩
theorem find_mem {l : List O} {c : Int} {d : List UInt8} (h : findL l c = some d) : ∃ o ∈ l, o.2 = d := by
  unfold findL at h
  obtain ⟨o, ho, e⟩ := Option.map_eq_some_iff.1 h
  exact ⟨o, List.mem_of_find?_eq_some ho, e⟩
theorem wrap_byteI {v : Int} (h0 : 0 ≤ v) (h1 : v ≤ 255) : IntKind.u8.wrap v = ((byteI v).toNat : Int) := by
  rw [byteI_back h0 h1, IntKind.wrap_u8]
  omega

set_option maxHeartbeats 2000000 in
theorem of_any (x : Mv) (w : World) (h : x.ok w) : Calls Tryz.prog 78 #[x.v] w (OfR w (ofK x.mm)) := by
  have hb0 : Below w.heap.size w (w.alloc (.cells x.cells 29)) := (Below.refl _ _).alloc (Nat.le_refl _) _
  have HG := Lib.hid (Mw.right_any x _ (h.alloc (.cells x.cells 29)))
  cases hr : rightM x.mm with
  | false =>
    have H : Hid (ofK x.mm = ([], 1)) := of_wrong (fun k => by rw [(rightM_iff _).2 k] at hr; cases hr)
    rw [hr] at HG
    clear hr h
    go_enter Tryz.func78, Tryz.ntmps78
    go_wp2_with fail
    refine HG.out.mono ?_
    rintro e w1 ⟨rfl, hb1⟩
    go_wp2
    go_ret2
    exact OfR.err H.out (hb0.trans (hb1.mono hb0.size))
  | true =>
    have hR := (rightM_iff _).1 hr
    have HR := Lib.hid hR
    rw [hr] at HG
    have hsm := Mw.right_small (ps := x.ps) hR.2.2.1
    have hh1 : 0 ≤ x.htype ∧ x.htype ≤ 255 := hR.1.2.1
    have hh2 : 0 ≤ x.hlen ∧ x.hlen ≤ 16 := hR.1.2.2.1
    have hch : x.ch.length = 16 := hR.2.1
    have HN16 : Hid (x.n = 16) := h.ch.len.symm.trans hch
    have HF := Lib.hid (fun W (k : RdO W x.B x.m x.d x.ps) => Tw.find_any x.B x.m x.d x.ps 61 W k hsm)
    have HCL : Hid ((findL (osP x.ps) 61).getD [] = clientL x.mm) := rfl
    have HOK := Lib.hid (h.alloc (.cells x.cells 29))
    have hcl6 : (clientL x.mm).length ≤ 1000 := by
      show ((findL (osP x.ps) 61).getD []).length ≤ 1000
      cases hf : findL (osP x.ps) 61 with
      | none => exact Nat.zero_le _
      | some d =>
        obtain ⟨o, ho, rfl⟩ := find_mem hf
        obtain ⟨p, hp, rfl⟩ := List.mem_map.1 ho
        exact hsm p hp
    clear hr h hsm hR hch
    generalize hcl : clientL x.mm = cl at HCL hcl6
    by_cases q1 : 255 < cl.length
    · have H : Hid (ofK x.mm = ([], 3)) := of_full HR.out (by rw [hcl]; exact q1)
      clear hcl
      go_enter Tryz.func78, Tryz.ntmps78
      go_wp2_with fail
      refine HG.out.mono ?_
      rintro e w1 ⟨rfl, hb1⟩
      have hb01 := hb0.trans (hb1.mono hb0.size)
      have hcel := Mw.box_at (x := x) (by simp) hb1
      have hc12 : w1.cell? ⟨w.heap.size, 12, none⟩ = some (.slice x.B x.m x.d) := by rw [hcel.cell]; rfl
      go_wp2_with fail
      refine (HF.out _ (HOK.out.below hb1).os).mono ?_
      rintro e w2 ⟨A2, m2, c2, rfl, hbs2, hb2⟩
      rw [HCL.out] at hbs2
      have hl2 : 255 < m2 := by have := hbs2.len; omega
      have hl3 := hbs2.cap
      have hl4 := hbs2.max
      clear hbs2
      go_wp2
      go_ret2
      exact OfR.err H.out (hb01.trans (hb2.mono hb01.size))
    by_cases q2 : 1 < cl.length
    · have H : Hid (ofK x.mm = (105 :: cl, 0)) := by show _ = _; rw [of_client HR.out (by rw [hcl]; exact q1) (by rw [hcl]; exact q2), hcl]
      clear hcl
      go_enter Tryz.func78, Tryz.ntmps78
      go_wp2_with fail
      refine HG.out.mono ?_
      rintro e w1 ⟨rfl, hb1⟩
      have hb01 := hb0.trans (hb1.mono hb0.size)
      have hcel := Mw.box_at (x := x) (by simp) hb1
      have hc12 : w1.cell? ⟨w.heap.size, 12, none⟩ = some (.slice x.B x.m x.d) := by rw [hcel.cell]; rfl
      go_wp2_with fail
      refine (HF.out _ (HOK.out.below hb1).os).mono ?_
      rintro e w2 ⟨A2, m2, c2, rfl, hbs2, hb2⟩
      rw [HCL.out] at hbs2
      have hb02 := hb01.trans (hb2.mono hb01.size)
      have hl2 : ¬ (255 : Int) < (m2 : Int) := by have := hbs2.len; omega
      have hl3 : (2 : Int) ≤ (m2 : Int) := by have := hbs2.len; omega
      have hl4 : m2 ≤ 1000000 := by omega
      go_wp2_with fail
      refine (withLetter_any 105 A2 m2 c2 cl _ hbs2 hl4).mono ?_
      rintro e w3 ⟨rfl, hb3⟩
      go_wp2
      go_ret2
      exact OfR.good H.out (hb02.trans (hb3.mono hb02.size))
    by_cases q3 : x.hlen = 0
    · have H : Hid (ofK x.mm = ([], 5)) := of_none HR.out (by rw [hcl]; exact q2) q3
      have Q3 := Lib.hid q3
      clear hcl q3
      go_enter Tryz.func78, Tryz.ntmps78
      go_wp2_with fail
      refine HG.out.mono ?_
      rintro e w1 ⟨rfl, hb1⟩
      have hb01 := hb0.trans (hb1.mono hb0.size)
      have hcel := Mw.box_at (x := x) (by simp) hb1
      have hc12 : w1.cell? ⟨w.heap.size, 12, none⟩ = some (.slice x.B x.m x.d) := by rw [hcel.cell]; rfl
      go_wp2_with fail
      refine (HF.out _ (HOK.out.below hb1).os).mono ?_
      rintro e w2 ⟨A2, m2, c2, rfl, hbs2, hb2⟩
      rw [HCL.out] at hbs2
      have hl2 : ¬ (255 : Int) < (m2 : Int) := by have := hbs2.len; omega
      have hl3 : ¬ (2 : Int) ≤ (m2 : Int) := by have := hbs2.len; omega
      have hcel2 := hcel.below hb2 hcel.lt
      have hd2 : w2.cell? ⟨w.heap.size, 2, none⟩ = some (.int .i64 0) := by rw [hcel2.cell, ← Q3.out]; rfl
      clear hbs2
      go_wp2
      go_ret2
      exact OfR.err H.out (hb01.trans (hb2.mono hb01.size))
    have H : Hid (ofK x.mm = (104 :: byteI x.htype :: x.ch.take x.hlen.toNat, 0)) := of_head HR.out (by rw [hcl]; exact q2) q3
    have hpos : 0 < x.hlen := by omega
    obtain ⟨N, hN⟩ : ∃ N : Nat, x.hlen = (N : Int) := ⟨x.hlen.toNat, by omega⟩
    have hN16 : N ≤ 16 := by omega
    have HNN := Lib.hid hN
    have hN1 : (0 : Int) < (N : Int) := by omega
    have hwb := wrap_byteI hh1.1 hh1.2
    generalize byteI x.htype = y at H hwb
    have HWB := Lib.hid hwb
    clear hcl hwb q3 hpos hh2 hN
    go_enter Tryz.func78, Tryz.ntmps78
    go_wp2_with fail
    refine HG.out.mono ?_
    rintro e w1 ⟨rfl, hb1⟩
    have hb01 := hb0.trans (hb1.mono hb0.size)
    have hcel := Mw.box_at (x := x) (by simp) hb1
    have hc12 : w1.cell? ⟨w.heap.size, 12, none⟩ = some (.slice x.B x.m x.d) := by rw [hcel.cell]; rfl
    go_wp2_with fail
    refine (HF.out _ (HOK.out.below hb1).os).mono ?_
    rintro e w2 ⟨A2, m2, c2, rfl, hbs2, hb2⟩
    rw [HCL.out] at hbs2
    have hl2 : ¬ (255 : Int) < (m2 : Int) := by have := hbs2.len; omega
    have hl3 : ¬ (2 : Int) ≤ (m2 : Int) := by have := hbs2.len; omega
    have hcel2 := hcel.below hb2 hcel.lt
    have hd2 : w2.cell? ⟨w.heap.size, 2, none⟩ = some (.int .i64 (N : Int)) := by rw [hcel2.cell, ← HNN.out]; rfl
    have hd1 : w2.cell? ⟨w.heap.size, 1, none⟩ = some (.int .i64 x.htype) := by rw [hcel2.cell]; rfl
    have hd11 : w2.cell? ⟨w.heap.size, 11, none⟩ = some (.slice x.A x.n x.c) := by rw [hcel2.cell]; rfl
    have hg2 := hcel2.lt
    have he11 : (w2.alloc (Obj.cells #[.int .u8 (y.toNat : Int)] 5)).cell? ⟨w.heap.size, 11, none⟩ = some (.slice x.A x.n x.c) := (World.cell?_alloc_lt _ _ _ hg2).trans hd11
    have he2 : (w2.alloc (Obj.cells #[.int .u8 (y.toNat : Int)] 5)).cell? ⟨w.heap.size, 2, none⟩ = some (.int .i64 (N : Int)) := (World.cell?_alloc_lt _ _ _ hg2).trans hd2
    have he1 : (w2.alloc (Obj.cells #[.int .u8 (y.toNat : Int)] 5)).cell? ⟨w.heap.size, 1, none⟩ = some (.int .i64 x.htype) := (World.cell?_alloc_lt _ _ _ hg2).trans hd1
    have hb02 := hb01.trans (hb2.mono hb01.size)
    have hch2 := ((HOK.out.below hb1).below hb2).ch
    obtain ⟨A4, hbs4, hrun4⟩ := byP.cut_h hch2 N (N : Int) rfl (by have := HN16.out; omega)
    have HE : Hid (x.ch.take x.hlen.toNat = x.ch.take N) := by show _ = _; rw [HNN.out]; rfl
    have hba : Below w2.heap.size w2 (w2.alloc (Obj.cells #[.int .u8 (y.toNat : Int)] 5)).drew := ((Below.refl _ _).alloc (Nat.le_refl _) _).drew
    have howna : Own 5 w2.heap.size (w2.alloc (Obj.cells #[.int .u8 (y.toNat : Int)] 5)).drew (some ⟨w2.heap.size, 0, none⟩) 1 1 [y] := Own.lit1 5 w2 y
    have hbs5 := hbs4.below hba
    have hbn : 1 + N ≤ 140737488355328 := by omega
    have hszb := hba.size
    clear hbs2 hch2 hbs4 hcel hcel2 hc12
    go_wp2_with fail
    have hwb := HWB.out
    go_region_law (refine step_appK byP (by rfl) (.tmp 33) (.tmp 38) (by rfl) (by rfl) howna (by rfl) hbs5 hbn hszb ?_; intro A6 c6 w6 hown6 hb6 _ _)
    all_goals
      clear hwb
      have hb26 : Below w2.heap.size w2 w6 := hba.trans hb6
      have hb06 := hb02.trans (hb26.mono hb02.size)
      have HWL := Lib.hid (withLetter_any 104 A6 (1 + N) c6 _ w6 hown6.bs (by omega))
      go_wp2_with fail
      refine HWL.out.mono ?_
      rintro e w7 ⟨rfl, hb7⟩
      go_wp2
      go_ret2
      exact OfR.good (by rw [H.out, HE.out]) (hb06.trans (hb7.mono hb06.size))
end Go.Proofs.YtoldppbakapohaaGreatDoor.Kw
end
/- What the document's own Of comes to. For all messages. -/
section
set_option maxRecDepth 8000
namespace Go.Proofs.YtoldppbakapohaaGreatDoor.Kw
open Go.RowKit Tl Ms By Ky

set_option maxHeartbeats 2000000 in
theorem refOf_any (x : Mv) (w : World) (h : x.ok w) : Calls Tryz.prog 16 #[x.v] w (OfR w (ofK x.mm)) := by
  have hb0 : Below w.heap.size w (w.alloc (.cells x.cells 40)) := (Below.refl _ _).alloc (Nat.le_refl _) _
  have HG := Lib.hid (Mw.refRight_msg x _ (h.alloc (.cells x.cells 40)))
  cases hr : rightM x.mm with
  | false =>
    have H : Hid (ofK x.mm = ([], 1)) := of_wrong (fun k => by rw [(rightM_iff _).2 k] at hr; cases hr)
    rw [hr] at HG
    clear hr h
    go_enter Tryz.func16, Tryz.ntmps16
    go_wp2_with fail
    refine HG.out.mono ?_
    rintro e w1 ⟨rfl, hb1⟩
    go_wp2
    go_ret2
    exact OfR.err H.out (hb0.trans (hb1.mono hb0.size))
  | true =>
    have hR := (rightM_iff _).1 hr
    have HR := Lib.hid hR
    rw [hr] at HG
    have hsm := Mw.right_small (ps := x.ps) hR.2.2.1
    have hh1 : 0 ≤ x.htype ∧ x.htype ≤ 255 := hR.1.2.1
    have hh2 : 0 ≤ x.hlen ∧ x.hlen ≤ 16 := hR.1.2.2.1
    have hch : x.ch.length = 16 := hR.2.1
    have HN16 : Hid (x.n = 16) := h.ch.len.symm.trans hch
    have HF := Lib.hid (fun W (k : RdO W x.B x.m x.d x.ps) => Tw.refFind_any x.B x.m x.d x.ps 61 W k)
    have HCL : Hid ((findL (osP x.ps) 61).getD [] = clientL x.mm) := rfl
    have HOK := Lib.hid (h.alloc (.cells x.cells 40))
    have hcl6 : (clientL x.mm).length ≤ 1000 := by
      show ((findL (osP x.ps) 61).getD []).length ≤ 1000
      cases hf : findL (osP x.ps) 61 with
      | none => exact Nat.zero_le _
      | some d =>
        obtain ⟨o, ho, rfl⟩ := find_mem hf
        obtain ⟨p, hp, rfl⟩ := List.mem_map.1 ho
        exact hsm p hp
    clear hr h hsm hR hch
    generalize hcl : clientL x.mm = cl at HCL hcl6
    by_cases q1 : 255 < cl.length
    · have H : Hid (ofK x.mm = ([], 3)) := of_full HR.out (by rw [hcl]; exact q1)
      clear hcl
      go_enter Tryz.func16, Tryz.ntmps16
      go_wp2_with fail
      refine HG.out.mono ?_
      rintro e w1 ⟨rfl, hb1⟩
      have hb01 := hb0.trans (hb1.mono hb0.size)
      have hcel := Mw.box_at (x := x) (by simp) hb1
      have hc12 : w1.cell? ⟨w.heap.size, 12, none⟩ = some (.slice x.B x.m x.d) := by rw [hcel.cell]; rfl
      go_wp2_with fail
      refine (HF.out _ (HOK.out.below hb1).os).mono ?_
      rintro e w2 ⟨A2, m2, c2, rfl, hbs2, rfl⟩
      rw [HCL.out] at hbs2
      have hl2 : 255 < m2 := by have := hbs2.len; omega
      have hl3 := hbs2.cap
      have hl4 := hbs2.max
      clear hbs2
      go_wp2
      go_ret2
      exact OfR.err H.out hb01
    by_cases q2 : 1 < cl.length
    · have H : Hid (ofK x.mm = (105 :: cl, 0)) := by show _ = _; rw [of_client HR.out (by rw [hcl]; exact q1) (by rw [hcl]; exact q2), hcl]
      clear hcl
      go_enter Tryz.func16, Tryz.ntmps16
      go_wp2_with fail
      refine HG.out.mono ?_
      rintro e w1 ⟨rfl, hb1⟩
      have hb01 := hb0.trans (hb1.mono hb0.size)
      have hcel := Mw.box_at (x := x) (by simp) hb1
      have hc12 : w1.cell? ⟨w.heap.size, 12, none⟩ = some (.slice x.B x.m x.d) := by rw [hcel.cell]; rfl
      go_wp2_with fail
      refine (HF.out _ (HOK.out.below hb1).os).mono ?_
      rintro e w2 ⟨A2, m2, c2, rfl, hbs2, rfl⟩
      rw [HCL.out] at hbs2
      have hl2 : ¬ (255 : Int) < (m2 : Int) := by have := hbs2.len; omega
      have hl3 : (1 : Int) < (m2 : Int) := by have := hbs2.len; omega
      have hcv := byP.str hbs2
      have hcs : (⟨cl.toArray⟩ : ByteArray).size ≤ 255 := by show cl.toArray.size ≤ 255; simp; omega
      clear hbs2
      go_wp2
      go_ret2
      exact OfR.good H.out hb01
    by_cases q3 : x.hlen = 0
    · have H : Hid (ofK x.mm = ([], 5)) := of_none HR.out (by rw [hcl]; exact q2) q3
      have Q3 := Lib.hid q3
      clear hcl q3
      go_enter Tryz.func16, Tryz.ntmps16
      go_wp2_with fail
      refine HG.out.mono ?_
      rintro e w1 ⟨rfl, hb1⟩
      have hb01 := hb0.trans (hb1.mono hb0.size)
      have hcel := Mw.box_at (x := x) (by simp) hb1
      have hc12 : w1.cell? ⟨w.heap.size, 12, none⟩ = some (.slice x.B x.m x.d) := by rw [hcel.cell]; rfl
      go_wp2_with fail
      refine (HF.out _ (HOK.out.below hb1).os).mono ?_
      rintro e w2 ⟨A2, m2, c2, rfl, hbs2, rfl⟩
      rw [HCL.out] at hbs2
      have hl2 : ¬ (255 : Int) < (m2 : Int) := by have := hbs2.len; omega
      have hl3 : ¬ (1 : Int) < (m2 : Int) := by have := hbs2.len; omega
      have hd2 : w1.cell? ⟨w.heap.size, 2, none⟩ = some (.int .i64 0) := by rw [hcel.cell, ← Q3.out]; rfl
      clear hbs2
      go_wp2
      go_ret2
      exact OfR.err H.out hb01
    have H : Hid (ofK x.mm = (104 :: byteI x.htype :: x.ch.take x.hlen.toNat, 0)) := of_head HR.out (by rw [hcl]; exact q2) q3
    have hpos : 0 < x.hlen := by omega
    obtain ⟨N, hN⟩ : ∃ N : Nat, x.hlen = (N : Int) := ⟨x.hlen.toNat, by omega⟩
    have hN16 : N ≤ 16 := by omega
    have HNN := Lib.hid hN
    have hN1 : ((N : Int) == 0) = false := by simp; omega
    have hwb := wrap_byteI hh1.1 hh1.2
    generalize byteI x.htype = y at H hwb
    have HWB := Lib.hid hwb
    clear hcl q3 hpos hh2 hN hwb
    go_enter Tryz.func16, Tryz.ntmps16
    go_wp2_with fail
    refine HG.out.mono ?_
    rintro e w1 ⟨rfl, hb1⟩
    have hb01 := hb0.trans (hb1.mono hb0.size)
    have hcel := Mw.box_at (x := x) (by simp) hb1
    have hc12 : w1.cell? ⟨w.heap.size, 12, none⟩ = some (.slice x.B x.m x.d) := by rw [hcel.cell]; rfl
    go_wp2_with fail
    refine (HF.out _ (HOK.out.below hb1).os).mono ?_
    rintro e w2 ⟨A2, m2, c2, rfl, hbs2, rfl⟩
    rw [HCL.out] at hbs2
    have hl2 : ¬ (255 : Int) < (m2 : Int) := by have := hbs2.len; omega
    have hl3 : ¬ (1 : Int) < (m2 : Int) := by have := hbs2.len; omega
    have hd2 : w1.cell? ⟨w.heap.size, 2, none⟩ = some (.int .i64 (N : Int)) := by rw [hcel.cell, ← HNN.out]; rfl
    have hd1 : w1.cell? ⟨w.heap.size, 1, none⟩ = some (.int .i64 x.htype) := by rw [hcel.cell]; rfl
    have hch1 := (HOK.out.below hb1).ch
    have hglt := hcel.lt
    have HE : Hid (x.ch.take x.hlen.toNat = x.ch.take N) := by show _ = _; rw [HNN.out]; rfl
    have hb1a : Below w1.heap.size w1 (w1.alloc (.cells #[.int .u8 104, .int .u8 (y.toNat : Int)] 5)) := (Below.refl _ _).alloc (Nat.le_refl _) _
    have ho0 : Own 5 w1.heap.size (w1.alloc (.cells #[.int .u8 104, .int .u8 (y.toNat : Int)] 5)) (some ⟨w1.heap.size, 0, none⟩) 2 2 [104, y] := Own.lit2 5 w1 104 y
    have HO := Lib.hid ho0
    have hwb := HWB.out
    clear hbs2 hc12 ho0
    go_wp2
    clear hwb
    go_loopw [6, 7] (fun v i wr => ∃ k A n c, k ≤ N ∧ i = .int .i64 (k : Nat) ∧ v = .slice A n c ∧ n ≤ k + 2 ∧ Own 5 w1.heap.size wr A n c (104 :: y :: x.ch.take k) ∧ Below w1.heap.size w1 wr) (fun _ i _ => N - (intOf i).toNat)
    case atStart => exact ⟨0, _, 2, 2, by omega, rfl, rfl, by omega, HO.out, hb1a⟩
    case round =>
      clear HO hb1a hd1 hd2
      obtain ⟨k, A, n, c, hk, rfl, rfl, hn, hown, hb⟩ := hrel
      have hsz := hb.size
      have hcelr := hcel.below hb hglt
      have hd2 : wr.cell? ⟨w.heap.size, 2, none⟩ = some (.int .i64 (N : Int)) := by rw [hcelr.cell, ← HNN.out]; rfl
      by_cases hlt : k < N
      · have hd11 : wr.cell? ⟨w.heap.size, 11, none⟩ = some (.slice x.A x.n x.c) := by rw [hcelr.cell]; rfl
        have hkn : k < x.n := by have := HN16.out; omega
        have hkl : k < x.ch.length := by have := hch1.len; omega
        obtain ⟨bb, oo, hA, hcs⟩ := (hch1.below hb).at_ hkn
        have hck := hcs k hkl
        have HNX : Hid (104 :: y :: x.ch.take (k + 1) = (104 :: y :: x.ch.take k) ++ [x.ch[k]]) := by show _ = _; rw [List.take_succ_eq_append_getElem hkl]; rfl
        generalize x.ch[k]'hkl = z at hck HNX
        rw [hA] at hd11
        have hba : Below wr.heap.size wr (wr.alloc (Obj.cells #[.int .u8 (z.toNat : Int)] 5)) := (Below.refl _ _).alloc (Nat.le_refl _) _
        have hlit : Bs (wr.alloc (Obj.cells #[.int .u8 (z.toNat : Int)] 5)) (some ⟨wr.heap.size, 0, none⟩) 1 1 [z] := (Own.lit1 5 wr z).bs
        have howna := hown.below hba
        have hszb := Nat.le_trans hsz hba.size
        have hbn : n + 1 ≤ 140737488355328 := by omega
        clear hcs hown hA
        go_wp2_with (at_builtin; refine wpList_app byP rfl (.tmp 39) (.tmp 45) rfl rfl howna rfl hlit hbn hszb ?_; intro A3 c3 w3 hown3 hb3 _ _)
        have hb13 : Below w1.heap.size wr w3 := (hba.mono hsz).trans hb3
        go_roundw
        case rel => exact ⟨k + 1, A3, n + 1, c3, by omega, by go_num, rfl, by omega, by rw [HNX.out]; exact hown3, hb.trans hb13⟩
        case measure => simp [intOf]; omega
      · obtain rfl : k = N := by omega
        have hcv := byP.str hown.bs
        clear hown
        go_wp2
        go_ret2
        exact OfR.good (by rw [H.out, HE.out]) (hb01.trans (hb.mono hb01.size))
end Go.Proofs.YtoldppbakapohaaGreatDoor.Kw
end
