/- What class.Of and About, and the document's own, come to. Condition: the options' data are no longer than 1000 bytes (for the program's). -/
import Derived.Test.YtmefnlgoejbgfaaGwLeaf
set_option maxRecDepth 8000
namespace Go.Proofs.Ytmefnlgoejbgfaa.Gw
open Go.RowKit Tl Co Ms By Cl Ow
open Pw (boxM celM_all alloc_more)
theorem class_eq (m : M) : classL m = if kindE m.os ≠ 3 then 0 else if m.ci = 0 ∧ (numE m.os 50 4).isSome = true then (if (numE m.os 54 4).isSome = true then 1 else 2) else
    if m.ci ≠ 0 ∧ (numE m.os 50 4).isSome = false ∧ (numE m.os 54 4).isSome = false then 3 else 0 := rfl

set_option maxHeartbeats 4000000 in
theorem of_any (x : Mv) (w : World) (h : x.ok w) (hsm : ∀ p ∈ x.ps, p.l.length ≤ 1000) : Calls Try.prog 10 #[x.v] w (InR (classL x.mm) w) := by
  obtain ⟨w0, hw0, hc0, hb0, hz⟩ := boxM w x 25
  have HK := Lib.hid (kindOf_any x.B x.m x.d x.ps w0 (h.below hb0).os hsm)
  have HA := Lib.hid (fun c W (hW : Below w0.heap.size w0 W) => has_any x c W ((h.below hb0).below hW) hsm)
  have HA50 := Lib.hid (HA.out 50)
  have HA54 := Lib.hid (HA.out 54)
  have HR := Lib.hid (class_eq x.mm)
  rw [show kindE x.mm.os = kindL (osP x.ps) from rfl, show x.mm.ci = x.ci from rfl] at HR
  generalize kindL (osP x.ps) = kk at HK HR
  generalize (numE x.mm.os 50 4).isSome = b50 at HA50 HR
  generalize (numE x.mm.os 54 4).isSome = b54 at HA54 HR
  generalize classL x.mm = t at HR ⊢
  have HB := Lib.hid hb0
  have HM := Lib.hid hc0
  clear h hsm hb0 hc0 HA
  by_cases hk : kk = 3
  rotate_left
  · have hkb : (kk != 3) = true := by simpa using hk
    have HT : Hid (t = 0) := by have := HR.out; rw [if_pos hk] at this; exact this
    clear hk HR HA50 HA54
    go_enter Try.func10, Try.ntmps10
    go_wp2_with fail
    rw [← hw0]
    clear hw0
    refine HK.out.mono ?_
    rintro e w1 ⟨rfl, hb1⟩
    go_wp2
    go_ret
    exact ⟨ret_int HT.out.symm, HB.out.trans (hb1.mono HB.out.size)⟩
  subst hk
  have HS : Hid (∀ W, Below w0.heap.size w0 W → (W.cell? ⟨w.heap.size, 0, none⟩ = some (.int .i64 x.op) ∧ W.cell? ⟨w.heap.size, 1, none⟩ = some (.int .i64 x.htype) ∧ W.cell? ⟨w.heap.size, 2, none⟩ = some (.int .i64 x.hlen) ∧ W.cell? ⟨w.heap.size, 3, none⟩ = some (.int .i64 x.hops) ∧ W.cell? ⟨w.heap.size, 4, none⟩ = some (.int .i64 x.xid) ∧ W.cell? ⟨w.heap.size, 5, none⟩ = some (.int .i64 x.secs) ∧ W.cell? ⟨w.heap.size, 6, none⟩ = some (.int .i64 x.flags)) ∧ W.cell? ⟨w.heap.size, 7, none⟩ = some (.int .i64 x.ci) ∧ W.cell? ⟨w.heap.size, 8, none⟩ = some (.int .i64 x.yi) ∧ W.cell? ⟨w.heap.size, 9, none⟩ = some (.int .i64 x.si) ∧ W.cell? ⟨w.heap.size, 10, none⟩ = some (.int .i64 x.gi) ∧ W.cell? ⟨w.heap.size, 11, none⟩ = some (.slice x.A x.n x.c) ∧ W.cell? ⟨w.heap.size, 12, none⟩ = some (.slice x.B x.m x.d)) := fun W hW => celM_all (HM.out.below hW HM.out.lt)
  go_enter Try.func10, Try.ntmps10
  go_wp2_with fail
  rw [← hw0]
  clear hw0
  refine HK.out.mono ?_
  rintro e w1 ⟨rfl, hb1⟩
  have HB1 := Lib.hid hb1
  clear hb1
  obtain ⟨⟨m0, m1, m2, m3, m4, m5, m6⟩, m7, m8, m9, m10, m11, m12⟩ := HS.out w1 HB1.out
  go_wp2_with fail
  go_region_held3 (fun W => (W.cell? ⟨w.heap.size, 0, none⟩ = some (.int .i64 x.op) ∧ W.cell? ⟨w.heap.size, 1, none⟩ = some (.int .i64 x.htype) ∧ W.cell? ⟨w.heap.size, 2, none⟩ = some (.int .i64 x.hlen) ∧ W.cell? ⟨w.heap.size, 3, none⟩ = some (.int .i64 x.hops) ∧ W.cell? ⟨w.heap.size, 4, none⟩ = some (.int .i64 x.xid) ∧ W.cell? ⟨w.heap.size, 5, none⟩ = some (.int .i64 x.secs) ∧ W.cell? ⟨w.heap.size, 6, none⟩ = some (.int .i64 x.flags)) ∧ W.cell? ⟨w.heap.size, 7, none⟩ = some (.int .i64 x.ci) ∧ W.cell? ⟨w.heap.size, 8, none⟩ = some (.int .i64 x.yi) ∧ W.cell? ⟨w.heap.size, 9, none⟩ = some (.int .i64 x.si) ∧ W.cell? ⟨w.heap.size, 10, none⟩ = some (.int .i64 x.gi) ∧ W.cell? ⟨w.heap.size, 11, none⟩ = some (.slice x.A x.n x.c) ∧ W.cell? ⟨w.heap.size, 12, none⟩ = some (.slice x.B x.m x.d))
    (first
      | exact HS.out _ hbq2
      | exact HS.out _ hbq1
      | exact HS.out _ HB1.out
      | exact HS.out _ HB1.out.drew)
    (first
      | (go_simp; go_at_call 21; (with_reducible refine (HA50.out _ hbq1).mono ?_); rintro ee w3 ⟨rfl, hbv⟩; have hbq2 : Below w0.heap.size w0 w3 := hbq1.trans (hbv.mono hbq1.size))
      | (go_simp; go_at_call 21; (with_reducible refine (HA54.out _ hbq1).mono ?_); rintro ee w3 ⟨rfl, hbv⟩; have hbq2 : Below w0.heap.size w0 w3 := hbq1.trans (hbv.mono hbq1.size))
      | (go_simp; go_at_call 21; (with_reducible refine (HA50.out _ HB1.out.drew).mono ?_); rintro ee w2 ⟨rfl, hbv⟩; have hbq1 : Below w0.heap.size w0 w2 := HB1.out.drew.trans (hbv.mono HB1.out.drew.size))
      | (go_simp; go_at_call 21; (with_reducible refine (HA54.out _ HB1.out.drew).mono ?_); rintro ee w2 ⟨rfl, hbv⟩; have hbq1 : Below w0.heap.size w0 w2 := HB1.out.drew.trans (hbv.mono HB1.out.drew.size)))
  all_goals (
    have HB3 := Lib.hid (HB.out.trans (hbq2.mono HB.out.size))
    obtain ⟨⟨n0, n1, n2, n3, n4, n5, n6⟩, n7, n8, n9, n10, n11, n12⟩ := HS.out w3 hbq2
    have HM3 := Lib.hid n7
    clear n0 n1 n2 n3 n4 n5 n6 n7 n8 n9 n10 n11 n12 m0 m1 m2 m3 m4 m5 m6 m7 m8 m9 m10 m11 m12 hbv hbq1 hbq2 HS HA50 HA54 HK HM HB HB1
    have m7 := HM3.out
    by_cases hci : x.ci = 0
    · have hcb : (x.ci == 0) = true := by simpa using hci
      have hcn : (x.ci != 0) = false := by simpa using hci
      have HE : Hid (t = if b50 = true then (if b54 = true then 1 else 2) else 0) := by
        have := HR.out
        simp [hci] at this; exact this
      clear hci HR HM3
      cases b54 with
      | true =>
        cases b50 with
        | true =>
          go_wp2
          go_ret
          exact ⟨ret_int HE.out.symm, HB3.out⟩
        | false =>
          go_wp2
          go_ret
          exact ⟨ret_int HE.out.symm, HB3.out⟩
      | false =>
        cases b50 with
        | true =>
          go_wp2
          go_ret
          exact ⟨ret_int HE.out.symm, HB3.out⟩
        | false =>
          go_wp2
          go_ret
          exact ⟨ret_int HE.out.symm, HB3.out⟩
    · have hcb : (x.ci == 0) = false := by simpa using hci
      have hcn : (x.ci != 0) = true := by simpa using hci
      have HE : Hid (t = if b50 = false ∧ b54 = false then 3 else 0) := by
        have := HR.out
        simp [hci] at this; exact this
      clear hci HR HM3
      cases b54 with
      | true =>
        cases b50 with
        | true =>
          go_wp2
          go_ret
          exact ⟨ret_int HE.out.symm, HB3.out⟩
        | false =>
          go_wp2
          go_ret
          exact ⟨ret_int HE.out.symm, HB3.out⟩
      | false =>
        cases b50 with
        | true =>
          go_wp2
          go_ret
          exact ⟨ret_int HE.out.symm, HB3.out⟩
        | false =>
          go_wp2
          go_ret
          exact ⟨ret_int HE.out.symm, HB3.out⟩)

set_option maxHeartbeats 4000000 in
theorem refOf_any (x : Mv) (w : World) (h : x.ok w) : Calls Try.prog 11 #[x.v] w (InR (classL x.mm) w) := by
  obtain ⟨w0, hw0, hc0, hb0, hz⟩ := boxM w x 28
  have HK := Lib.hid (refKind_any x.B x.m x.d x.ps w0 (h.below hb0).os)
  have HA50 := Lib.hid (fun W (hW : Below w0.heap.size w0 W) => refNumber_any x.B x.m x.d x.ps 50 W ((h.below hb0).os.below hW))
  have HA54 := Lib.hid (fun W (hW : Below w0.heap.size w0 W) => refNumber_any x.B x.m x.d x.ps 54 W ((h.below hb0).os.below hW))
  have HR := Lib.hid (class_eq x.mm)
  rw [show kindE x.mm.os = kindL (osP x.ps) from rfl, show x.mm.ci = x.ci from rfl, show numE x.mm.os 50 4 = numL (osP x.ps) 50 4 from rfl, show numE x.mm.os 54 4 = numL (osP x.ps) 54 4 from rfl] at HR
  generalize kindL (osP x.ps) = kk at HK HR
  generalize numL (osP x.ps) 50 4 = r50 at HA50 HR
  generalize numL (osP x.ps) 54 4 = r54 at HA54 HR
  generalize classL x.mm = t at HR ⊢
  have HB := Lib.hid hb0
  have HM := Lib.hid hc0
  clear h hb0 hc0
  by_cases hk : kk = 3
  rotate_left
  · have hkb : (kk != 3) = true := by simpa using hk
    have HT : Hid (t = 0) := by have := HR.out; rw [if_pos hk] at this; exact this
    clear hk HR HA50 HA54
    go_enter Try.func11, Try.ntmps11
    go_wp2_with fail
    rw [← hw0]
    clear hw0
    refine HK.out.mono ?_
    rintro e w1 ⟨rfl, rfl⟩
    go_wp2
    go_ret
    exact ⟨ret_int HT.out.symm, HB.out⟩
  subst hk
  obtain ⟨⟨_, _, _, _, _, _, _⟩, m7, _, _, _, _, m12⟩ := celM_all HM.out
  go_enter Try.func11, Try.ntmps11
  go_wp2_with fail
  rw [← hw0]
  clear hw0
  refine HK.out.mono ?_
  rintro e w1 ⟨rfl, rfl⟩
  go_wp2_with fail
  refine (HA54.out _ (Below.refl _ _)).mono ?_
  rintro e w2 ⟨rfl, hb2⟩
  have HB2 := Lib.hid hb2
  clear hb2 m7 m12
  obtain ⟨⟨_, _, _, _, _, _, _⟩, m7, _, _, _, _, m12⟩ := celM_all (HM.out.below HB2.out HM.out.lt)
  go_wp2_with fail
  refine (HA50.out _ HB2.out).mono ?_
  rintro e w3 ⟨rfl, hb3⟩
  have HB3 := Lib.hid (HB2.out.trans (hb3.mono HB2.out.size))
  have HBE := Lib.hid (HB.out.trans (HB3.out.mono HB.out.size))
  clear hb3 m7 m12
  obtain ⟨⟨_, _, _, _, _, _, _⟩, m7, _, _, _, _, m12⟩ := celM_all (HM.out.below HB3.out HM.out.lt)
  generalize r50.isSome = b50 at HR ⊢
  generalize r54.isSome = b54 at HR ⊢
  clear HA50 HA54 HK HM HB HB2 HB3 m12
  by_cases hci : x.ci = 0
  · have hcb : (x.ci == 0) = true := by simpa using hci
    have hcn : (x.ci != 0) = false := by simpa using hci
    have HE : Hid (t = if b50 = true then (if b54 = true then 1 else 2) else 0) := by
      have := HR.out
      simp [hci] at this; exact this
    clear hci HR
    cases b54 with
    | true =>
      cases b50 with
      | true =>
        go_wp2
        go_ret
        exact ⟨ret_int HE.out.symm, HBE.out⟩
      | false =>
        go_wp2
        go_ret
        exact ⟨ret_int HE.out.symm, HBE.out⟩
    | false =>
      cases b50 with
      | true =>
        go_wp2
        go_ret
        exact ⟨ret_int HE.out.symm, HBE.out⟩
      | false =>
        go_wp2
        go_ret
        exact ⟨ret_int HE.out.symm, HBE.out⟩
  · have hcb : (x.ci == 0) = false := by simpa using hci
    have hcn : (x.ci != 0) = true := by simpa using hci
    have HE : Hid (t = if b50 = false ∧ b54 = false then 3 else 0) := by
      have := HR.out
      simp [hci] at this; exact this
    clear hci HR
    cases b54 with
    | true =>
      cases b50 with
      | true =>
        go_wp2
        go_ret
        exact ⟨ret_int HE.out.symm, HBE.out⟩
      | false =>
        go_wp2
        go_ret
        exact ⟨ret_int HE.out.symm, HBE.out⟩
    | false =>
      cases b50 with
      | true =>
        go_wp2
        go_ret
        exact ⟨ret_int HE.out.symm, HBE.out⟩
      | false =>
        go_wp2
        go_ret
        exact ⟨ret_int HE.out.symm, HBE.out⟩

set_option maxHeartbeats 4000000 in
theorem about_any (x : Mv) (w : World) (h : x.ok w) (hsm : ∀ p ∈ x.ps, p.l.length ≤ 1000) : Calls Try.prog 12 #[x.v] w (InR (aboutL x.mm) w) := by
  obtain ⟨w0, hw0, hc0, hb0, hz⟩ := boxM w x 25
  have HO := Lib.hid (of_any x w0 (h.below hb0) hsm)
  have HA := Lib.hid (fun W (hW : Below w0.heap.size w0 W) => number4_any x.B x.m x.d x.ps 50 W ((h.below hb0).os.below hW) hsm)
  have HB := Lib.hid hb0
  have HM := Lib.hid hc0
  have HS := Lib.hid (celM_all hc0)
  have hr := about_cases x.mm
  rw [show x.mm.ci = x.ci from rfl, show numE x.mm.os 50 4 = numL (osP x.ps) 50 4 from rfl] at hr
  generalize aboutL x.mm = t at hr ⊢
  generalize classL x.mm = kk at hr HO
  generalize numL (osP x.ps) 50 4 = r at HA hr
  clear h hsm hb0 hc0
  rcases hr with ⟨rfl, ht⟩ | ⟨rfl, ht⟩ | ⟨hk, ht⟩
  · have HT := Lib.hid ht
    clear ht
    obtain ⟨⟨m0, m1, m2, m3, m4, m5, m6⟩, m7, m8, m9, m10, m11, m12⟩ := HS.out
    go_enter Try.func12, Try.ntmps12
    go_wp2_with fail
    rw [← hw0]
    clear hw0
    refine HO.out.mono ?_
    rintro e w1 ⟨rfl, hb1⟩
    have HB1 := Lib.hid hb1
    have HBE := Lib.hid (HB.out.trans (hb1.mono HB.out.size))
    clear hb1 m0 m1 m2 m3 m4 m5 m6 m7 m8 m9 m10 m11 m12 HS
    obtain ⟨⟨_, _, _, _, _, _, _⟩, m7, _, _, _, _, m12⟩ := celM_all (HM.out.below HB1.out HM.out.lt)
    go_wp2
    go_ret
    exact ⟨ret_int HT.out.symm, HBE.out⟩
  · have HT := Lib.hid ht
    clear ht
    obtain ⟨⟨m0, m1, m2, m3, m4, m5, m6⟩, m7, m8, m9, m10, m11, m12⟩ := HS.out
    go_enter Try.func12, Try.ntmps12
    go_wp2_with fail
    rw [← hw0]
    clear hw0
    refine HO.out.mono ?_
    rintro e w1 ⟨rfl, hb1⟩
    have HB1 := Lib.hid hb1
    have HBE := Lib.hid (HB.out.trans (hb1.mono HB.out.size))
    clear hb1 m0 m1 m2 m3 m4 m5 m6 m7 m8 m9 m10 m11 m12 HS
    obtain ⟨⟨_, _, _, _, _, _, _⟩, m7, _, _, _, _, m12⟩ := celM_all (HM.out.below HB1.out HM.out.lt)
    go_wp2
    go_ret
    exact ⟨ret_int HT.out.symm, HBE.out⟩
  · have HT := Lib.hid ht
    clear ht
    rcases hk with rfl | rfl
    · obtain ⟨⟨m0, m1, m2, m3, m4, m5, m6⟩, m7, m8, m9, m10, m11, m12⟩ := HS.out
      go_enter Try.func12, Try.ntmps12
      go_wp2_with fail
      rw [← hw0]
      clear hw0
      refine HO.out.mono ?_
      rintro e w1 ⟨rfl, hb1⟩
      have HB1 := Lib.hid hb1
      have HBE := Lib.hid (HB.out.trans (hb1.mono HB.out.size))
      clear hb1 m0 m1 m2 m3 m4 m5 m6 m7 m8 m9 m10 m11 m12 HS
      obtain ⟨⟨_, _, _, _, _, _, _⟩, m7, _, _, _, _, m12⟩ := celM_all (HM.out.below HB1.out HM.out.lt)
      go_wp2_with fail
      refine (HA.out _ HB1.out).mono ?_
      rintro e w2 ⟨rfl, hb2⟩
      have HBF := Lib.hid (HBE.out.trans (hb2.mono HBE.out.size))
      clear hb2
      go_wp2
      go_ret
      exact ⟨ret_int HT.out.symm, HBF.out⟩
    · obtain ⟨⟨m0, m1, m2, m3, m4, m5, m6⟩, m7, m8, m9, m10, m11, m12⟩ := HS.out
      go_enter Try.func12, Try.ntmps12
      go_wp2_with fail
      rw [← hw0]
      clear hw0
      refine HO.out.mono ?_
      rintro e w1 ⟨rfl, hb1⟩
      have HB1 := Lib.hid hb1
      have HBE := Lib.hid (HB.out.trans (hb1.mono HB.out.size))
      clear hb1 m0 m1 m2 m3 m4 m5 m6 m7 m8 m9 m10 m11 m12 HS
      obtain ⟨⟨_, _, _, _, _, _, _⟩, m7, _, _, _, _, m12⟩ := celM_all (HM.out.below HB1.out HM.out.lt)
      go_wp2_with fail
      refine (HA.out _ HB1.out).mono ?_
      rintro e w2 ⟨rfl, hb2⟩
      have HBF := Lib.hid (HBE.out.trans (hb2.mono HBE.out.size))
      clear hb2
      go_wp2
      go_ret
      exact ⟨ret_int HT.out.symm, HBF.out⟩

set_option maxHeartbeats 4000000 in
theorem refAbout_any (x : Mv) (w : World) (h : x.ok w) : Calls Try.prog 13 #[x.v] w (InR (aboutL x.mm) w) := by
  obtain ⟨w0, hw0, hc0, hb0, hz⟩ := boxM w x 28
  have HO := Lib.hid (refOf_any x w0 (h.below hb0))
  have HA := Lib.hid (fun W (hW : Below w0.heap.size w0 W) => refNumber_any x.B x.m x.d x.ps 50 W ((h.below hb0).os.below hW))
  have HB := Lib.hid hb0
  have HM := Lib.hid hc0
  have HS := Lib.hid (celM_all hc0)
  have hr := about_cases x.mm
  rw [show x.mm.ci = x.ci from rfl, show numE x.mm.os 50 4 = numL (osP x.ps) 50 4 from rfl] at hr
  generalize aboutL x.mm = t at hr ⊢
  generalize classL x.mm = kk at hr HO
  generalize numL (osP x.ps) 50 4 = r at HA hr
  clear h hb0 hc0
  rcases hr with ⟨rfl, ht⟩ | ⟨rfl, ht⟩ | ⟨hk, ht⟩
  · have HT := Lib.hid ht
    clear ht
    obtain ⟨⟨m0, m1, m2, m3, m4, m5, m6⟩, m7, m8, m9, m10, m11, m12⟩ := HS.out
    go_enter Try.func13, Try.ntmps13
    go_wp2_with fail
    rw [← hw0]
    clear hw0
    refine HO.out.mono ?_
    rintro e w1 ⟨rfl, hb1⟩
    have HB1 := Lib.hid hb1
    have HBE := Lib.hid (HB.out.trans (hb1.mono HB.out.size))
    clear hb1 m0 m1 m2 m3 m4 m5 m6 m7 m8 m9 m10 m11 m12 HS
    obtain ⟨⟨_, _, _, _, _, _, _⟩, m7, _, _, _, _, m12⟩ := celM_all (HM.out.below HB1.out HM.out.lt)
    go_wp2
    go_ret
    exact ⟨ret_int HT.out.symm, HBE.out⟩
  · have HT := Lib.hid ht
    clear ht
    obtain ⟨⟨m0, m1, m2, m3, m4, m5, m6⟩, m7, m8, m9, m10, m11, m12⟩ := HS.out
    go_enter Try.func13, Try.ntmps13
    go_wp2_with fail
    rw [← hw0]
    clear hw0
    refine HO.out.mono ?_
    rintro e w1 ⟨rfl, hb1⟩
    have HB1 := Lib.hid hb1
    have HBE := Lib.hid (HB.out.trans (hb1.mono HB.out.size))
    clear hb1 m0 m1 m2 m3 m4 m5 m6 m7 m8 m9 m10 m11 m12 HS
    obtain ⟨⟨_, _, _, _, _, _, _⟩, m7, _, _, _, _, m12⟩ := celM_all (HM.out.below HB1.out HM.out.lt)
    go_wp2
    go_ret
    exact ⟨ret_int HT.out.symm, HBE.out⟩
  · have HT := Lib.hid ht
    clear ht
    rcases hk with rfl | rfl
    · obtain ⟨⟨m0, m1, m2, m3, m4, m5, m6⟩, m7, m8, m9, m10, m11, m12⟩ := HS.out
      go_enter Try.func13, Try.ntmps13
      go_wp2_with fail
      rw [← hw0]
      clear hw0
      refine HO.out.mono ?_
      rintro e w1 ⟨rfl, hb1⟩
      have HB1 := Lib.hid hb1
      have HBE := Lib.hid (HB.out.trans (hb1.mono HB.out.size))
      clear hb1 m0 m1 m2 m3 m4 m5 m6 m7 m8 m9 m10 m11 m12 HS
      obtain ⟨⟨_, _, _, _, _, _, _⟩, m7, _, _, _, _, m12⟩ := celM_all (HM.out.below HB1.out HM.out.lt)
      go_wp2_with fail
      refine (HA.out _ HB1.out).mono ?_
      rintro e w2 ⟨rfl, hb2⟩
      have HBF := Lib.hid (HBE.out.trans (hb2.mono HBE.out.size))
      clear hb2
      go_wp2
      go_ret
      exact ⟨ret_int HT.out.symm, HBF.out⟩
    · obtain ⟨⟨m0, m1, m2, m3, m4, m5, m6⟩, m7, m8, m9, m10, m11, m12⟩ := HS.out
      go_enter Try.func13, Try.ntmps13
      go_wp2_with fail
      rw [← hw0]
      clear hw0
      refine HO.out.mono ?_
      rintro e w1 ⟨rfl, hb1⟩
      have HB1 := Lib.hid hb1
      have HBE := Lib.hid (HB.out.trans (hb1.mono HB.out.size))
      clear hb1 m0 m1 m2 m3 m4 m5 m6 m7 m8 m9 m10 m11 m12 HS
      obtain ⟨⟨_, _, _, _, _, _, _⟩, m7, _, _, _, _, m12⟩ := celM_all (HM.out.below HB1.out HM.out.lt)
      go_wp2_with fail
      refine (HA.out _ HB1.out).mono ?_
      rintro e w2 ⟨rfl, hb2⟩
      have HBF := Lib.hid (HBE.out.trans (hb2.mono HBE.out.size))
      clear hb2
      go_wp2
      go_ret
      exact ⟨ret_int HT.out.symm, HBF.out⟩
end Go.Proofs.Ytmefnlgoejbgfaa.Gw
