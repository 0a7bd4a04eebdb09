/- What class.Of, About and Foreign, and the document's own, come to. Condition: the options' data are no longer than 1000 bytes (for the program's). -/
import Derived.Test.YtoldppbakapohaaGreatDoorMathA
import Derived.Test.YtoldppbakapohaaGreatDoorOwA
import Derived.Test.YtoldppbakapohaaGreatDoorMwA
import Derived.Deep.RegionHeld3
import Derived.Deep.Cut
section
set_option maxRecDepth 8000
namespace Go.Proofs.YtoldppbakapohaaGreatDoor.Gw
open Go.RowKit Tl Co Ms By Cl Ow
open Pw (boxM celM_all alloc_more)
def BoR (t : Bool) (w : World) (e : Ending) (w' : World) : Prop := e = .returned (.bool t) ∧ Below w.heap.size w w'
def InR (t : Int) (w : World) (e : Ending) (w' : World) : Prop := e = .returned (.int .i64 t) ∧ Below w.heap.size w w'
theorem about_cases (m : M) : (classL m = 3 ∧ aboutL m = m.ci) ∨ (classL m = 0 ∧ aboutL m = 0) ∨ ((classL m = 1 ∨ classL m = 2) ∧ aboutL m = (((numE m.os 50 4).getD 0 : Nat) : Int)) := by
  rcases class_cases m with h | ⟨h, _, ⟨a, ha, e⟩, _⟩ | ⟨h, _, ⟨a, ha, e⟩, _⟩ | ⟨h, _, e, _⟩
  · exact .inr (.inl ⟨h, class_wrong h⟩)
  · exact .inr (.inr ⟨.inl h, by rw [e, ha]; rfl⟩)
  · exact .inr (.inr ⟨.inr h, by rw [e, ha]; rfl⟩)
  · exact .inl ⟨h, e⟩
theorem foreign_none {m : M} {s : Int} (h : numE m.os 54 4 = none) : foreignL m s = false := by unfold foreignL; rw [h]
theorem foreign_some {m : M} {s : Int} {a : Nat} (h : numE m.os 54 4 = some a) : foreignL m s = ((a : Int) != s) := by
  unfold foreignL
  rw [h]
  by_cases q : (a : Int) = s <;> simp [q]

set_option maxHeartbeats 1000000 in
theorem has_any (x : Mv) (code : Int) (w : World) (h : x.ok w) (hsm : ∀ p ∈ x.ps, p.l.length ≤ 1000) : Calls Tryz.prog 205 #[x.v, .int .i64 code] w (BoR (numE x.mm.os code 4).isSome w) := by
  have HC := Lib.hid (fun W (hW : Below w.heap.size w W) => number4_any x.B x.m x.d x.ps code W (h.os.below hW) hsm)
  have HR : Hid (numE x.mm.os code 4 = numL (osP x.ps) code 4) := rfl
  generalize numE x.mm.os code 4 = t at HR ⊢
  clear h hsm
  go_enter Tryz.func205, Tryz.ntmps205
  go_wp2_with fail
  refine (HC.out _ (alloc_more _ _)).mono ?_
  generalize numL (osP x.ps) code 4 = r at HR ⊢
  rintro e w1 ⟨rfl, hb1⟩
  go_wp2
  go_ret
  rw [HR.out]
  exact ⟨rfl, (alloc_more w (.cells x.cells 29)).trans (hb1.mono (alloc_more w (.cells x.cells 29)).size)⟩

set_option maxHeartbeats 1000000 in
theorem foreign_any (x : Mv) (s : Int) (w : World) (h : x.ok w) (hsm : ∀ p ∈ x.ps, p.l.length ≤ 1000) : Calls Tryz.prog 80 #[x.v, .int .i64 s] w (BoR (foreignL x.mm s) w) := by
  have HC := Lib.hid (fun W (hW : Below w.heap.size w W) => number4_any x.B x.m x.d x.ps 54 W (h.os.below hW) hsm)
  have HB := Lib.hid (alloc_more w (.cells x.cells 29))
  obtain ⟨r, hr⟩ : ∃ r, numE x.mm.os 54 4 = r := ⟨_, rfl⟩
  have HN : Hid (numL (osP x.ps) 54 4 = r) := hr
  cases r with
  | none =>
    have HR := Lib.hid (foreign_none (s := s) hr)
    clear h hsm hr
    go_enter Tryz.func80, Tryz.ntmps80
    go_wp2_with fail
    refine (HC.out _ (alloc_more _ _)).mono ?_
    rw [HN.out]
    rintro e w1 ⟨rfl, hb1⟩
    go_wp2
    go_ret
    exact ⟨ret_bool HR.out.symm, HB.out.trans (hb1.mono HB.out.size)⟩
  | some a =>
    have HR := Lib.hid (foreign_some (s := s) hr)
    clear h hsm hr
    go_enter Tryz.func80, Tryz.ntmps80
    go_wp2_with fail
    refine (HC.out _ (alloc_more _ _)).mono ?_
    rw [HN.out]
    rintro e w1 ⟨rfl, hb1⟩
    go_wp2
    go_ret
    exact ⟨ret_bool HR.out.symm, HB.out.trans (hb1.mono HB.out.size)⟩

set_option maxHeartbeats 1000000 in
theorem refForeign_any (x : Mv) (s : Int) (w : World) (h : x.ok w) : Calls Tryz.prog 25 #[x.v, .int .i64 s] w (BoR (foreignL x.mm s) w) := by
  have HC := Lib.hid (fun W (hW : Below w.heap.size w W) => refNumber_any x.B x.m x.d x.ps 54 W (h.os.below hW))
  have HB := Lib.hid (alloc_more w (.cells x.cells 40))
  obtain ⟨r, hr⟩ : ∃ r, numE x.mm.os 54 4 = r := ⟨_, rfl⟩
  have HN : Hid (numL (osP x.ps) 54 4 = r) := hr
  cases r with
  | none =>
    have HR := Lib.hid (foreign_none (s := s) hr)
    clear h hr
    go_enter Tryz.func25, Tryz.ntmps25
    go_wp2_with fail
    refine (HC.out _ (alloc_more _ _)).mono ?_
    rw [HN.out]
    rintro e w1 ⟨rfl, hb1⟩
    go_wp2
    go_ret
    exact ⟨ret_bool HR.out.symm, HB.out.trans (hb1.mono HB.out.size)⟩
  | some a =>
    have HR := Lib.hid (foreign_some (s := s) hr)
    clear h hr
    go_enter Tryz.func25, Tryz.ntmps25
    go_wp2_with fail
    refine (HC.out _ (alloc_more _ _)).mono ?_
    rw [HN.out]
    rintro e w1 ⟨rfl, hb1⟩
    go_wp2
    go_ret
    exact ⟨ret_bool HR.out.symm, HB.out.trans (hb1.mono HB.out.size)⟩
end Go.Proofs.YtoldppbakapohaaGreatDoor.Gw
end
/- What class.Of and About, and the document's own, come to. Condition: the options' data are no longer than 1000 bytes (for the program's). -/
section
set_option maxRecDepth 8000
namespace Go.Proofs.YtoldppbakapohaaGreatDoor.Gw
open Go.RowKit Tl Co Ms By Cl Ow
open Pw (boxM celM_all alloc_more)
theorem class_eq (m : M) : classL m = if kindE m.os ≠ 3 then 0 else if m.ci = 0 ∧ (numE m.os 50 4).isSome = true then (if (numE m.os 54 4).isSome = true then 1 else 2) else
    if m.ci ≠ 0 ∧ (numE m.os 50 4).isSome = false ∧ (numE m.os 54 4).isSome = false then 3 else 0 := rfl

set_option maxHeartbeats 4000000 in
theorem of_any (x : Mv) (w : World) (h : x.ok w) (hsm : ∀ p ∈ x.ps, p.l.length ≤ 1000) : Calls Tryz.prog 143 #[x.v] w (InR (classL x.mm) w) := by
  obtain ⟨w0, hw0, hc0, hb0, hz⟩ := boxM w x 29
  have HK := Lib.hid (kindOf_any x.B x.m x.d x.ps w0 (h.below hb0).os hsm)
  have HA := Lib.hid (fun c W (hW : Below w0.heap.size w0 W) => has_any x c W ((h.below hb0).below hW) hsm)
  have HA50 := Lib.hid (HA.out 50)
  have HA54 := Lib.hid (HA.out 54)
  have HR := Lib.hid (class_eq x.mm)
  rw [show kindE x.mm.os = kindL (osP x.ps) from rfl, show x.mm.ci = x.ci from rfl] at HR
  generalize kindL (osP x.ps) = kk at HK HR
  generalize (numE x.mm.os 50 4).isSome = b50 at HA50 HR
  generalize (numE x.mm.os 54 4).isSome = b54 at HA54 HR
  generalize classL x.mm = t at HR ⊢
  have HB := Lib.hid hb0
  have HM := Lib.hid hc0
  clear h hsm hb0 hc0 HA
  by_cases hk : kk = 3
  rotate_left
  · have hkb : (kk != 3) = true := by simpa using hk
    have HT : Hid (t = 0) := by have := HR.out; rw [if_pos hk] at this; exact this
    clear hk HR HA50 HA54
    go_enter Tryz.func143, Tryz.ntmps143
    go_wp2_with fail
    rw [← hw0]
    clear hw0
    refine HK.out.mono ?_
    rintro e w1 ⟨rfl, hb1⟩
    go_wp2
    go_ret
    exact ⟨ret_int HT.out.symm, HB.out.trans (hb1.mono HB.out.size)⟩
  subst hk
  have HS : Hid (∀ W, Below w0.heap.size w0 W → (W.cell? ⟨w.heap.size, 0, none⟩ = some (.int .i64 x.op) ∧ W.cell? ⟨w.heap.size, 1, none⟩ = some (.int .i64 x.htype) ∧ W.cell? ⟨w.heap.size, 2, none⟩ = some (.int .i64 x.hlen) ∧ W.cell? ⟨w.heap.size, 3, none⟩ = some (.int .i64 x.hops) ∧ W.cell? ⟨w.heap.size, 4, none⟩ = some (.int .i64 x.xid) ∧ W.cell? ⟨w.heap.size, 5, none⟩ = some (.int .i64 x.secs) ∧ W.cell? ⟨w.heap.size, 6, none⟩ = some (.int .i64 x.flags)) ∧ W.cell? ⟨w.heap.size, 7, none⟩ = some (.int .i64 x.ci) ∧ W.cell? ⟨w.heap.size, 8, none⟩ = some (.int .i64 x.yi) ∧ W.cell? ⟨w.heap.size, 9, none⟩ = some (.int .i64 x.si) ∧ W.cell? ⟨w.heap.size, 10, none⟩ = some (.int .i64 x.gi) ∧ W.cell? ⟨w.heap.size, 11, none⟩ = some (.slice x.A x.n x.c) ∧ W.cell? ⟨w.heap.size, 12, none⟩ = some (.slice x.B x.m x.d)) := fun W hW => celM_all (HM.out.below hW HM.out.lt)
  go_enter Tryz.func143, Tryz.ntmps143
  go_wp2_with fail
  rw [← hw0]
  clear hw0
  refine HK.out.mono ?_
  rintro e w1 ⟨rfl, hb1⟩
  have HB1 := Lib.hid hb1
  clear hb1
  obtain ⟨⟨m0, m1, m2, m3, m4, m5, m6⟩, m7, m8, m9, m10, m11, m12⟩ := HS.out w1 HB1.out
  go_wp2_with fail
  go_region_held3 (fun W => (W.cell? ⟨w.heap.size, 0, none⟩ = some (.int .i64 x.op) ∧ W.cell? ⟨w.heap.size, 1, none⟩ = some (.int .i64 x.htype) ∧ W.cell? ⟨w.heap.size, 2, none⟩ = some (.int .i64 x.hlen) ∧ W.cell? ⟨w.heap.size, 3, none⟩ = some (.int .i64 x.hops) ∧ W.cell? ⟨w.heap.size, 4, none⟩ = some (.int .i64 x.xid) ∧ W.cell? ⟨w.heap.size, 5, none⟩ = some (.int .i64 x.secs) ∧ W.cell? ⟨w.heap.size, 6, none⟩ = some (.int .i64 x.flags)) ∧ W.cell? ⟨w.heap.size, 7, none⟩ = some (.int .i64 x.ci) ∧ W.cell? ⟨w.heap.size, 8, none⟩ = some (.int .i64 x.yi) ∧ W.cell? ⟨w.heap.size, 9, none⟩ = some (.int .i64 x.si) ∧ W.cell? ⟨w.heap.size, 10, none⟩ = some (.int .i64 x.gi) ∧ W.cell? ⟨w.heap.size, 11, none⟩ = some (.slice x.A x.n x.c) ∧ W.cell? ⟨w.heap.size, 12, none⟩ = some (.slice x.B x.m x.d))
    (first
      | exact HS.out _ hbq2
      | exact HS.out _ hbq1
      | exact HS.out _ HB1.out
      | exact HS.out _ HB1.out.drew)
    (first
      | (go_simp; go_at_call 205; (with_reducible refine (HA50.out _ hbq1).mono ?_); rintro ee w3 ⟨rfl, hbv⟩; have hbq2 : Below w0.heap.size w0 w3 := hbq1.trans (hbv.mono hbq1.size))
      | (go_simp; go_at_call 205; (with_reducible refine (HA54.out _ hbq1).mono ?_); rintro ee w3 ⟨rfl, hbv⟩; have hbq2 : Below w0.heap.size w0 w3 := hbq1.trans (hbv.mono hbq1.size))
      | (go_simp; go_at_call 205; (with_reducible refine (HA50.out _ HB1.out.drew).mono ?_); rintro ee w2 ⟨rfl, hbv⟩; have hbq1 : Below w0.heap.size w0 w2 := HB1.out.drew.trans (hbv.mono HB1.out.drew.size))
      | (go_simp; go_at_call 205; (with_reducible refine (HA54.out _ HB1.out.drew).mono ?_); rintro ee w2 ⟨rfl, hbv⟩; have hbq1 : Below w0.heap.size w0 w2 := HB1.out.drew.trans (hbv.mono HB1.out.drew.size)))
  all_goals (
    have HB3 := Lib.hid (HB.out.trans (hbq2.mono HB.out.size))
    obtain ⟨⟨n0, n1, n2, n3, n4, n5, n6⟩, n7, n8, n9, n10, n11, n12⟩ := HS.out w3 hbq2
    have HM3 := Lib.hid n7
    clear n0 n1 n2 n3 n4 n5 n6 n7 n8 n9 n10 n11 n12 m0 m1 m2 m3 m4 m5 m6 m7 m8 m9 m10 m11 m12 hbv hbq1 hbq2 HS HA50 HA54 HK HM HB HB1
    have m7 := HM3.out
    by_cases hci : x.ci = 0
    · have hcb : (x.ci == 0) = true := by simpa using hci
      have hcn : (x.ci != 0) = false := by simpa using hci
      have HE : Hid (t = if b50 = true then (if b54 = true then 1 else 2) else 0) := by
        have := HR.out
        simp [hci] at this; exact this
      clear hci HR HM3
      cases b54 with
      | true =>
        cases b50 with
        | true =>
          go_wp2
          go_ret
          exact ⟨ret_int HE.out.symm, HB3.out⟩
        | false =>
          go_wp2
          go_ret
          exact ⟨ret_int HE.out.symm, HB3.out⟩
      | false =>
        cases b50 with
        | true =>
          go_wp2
          go_ret
          exact ⟨ret_int HE.out.symm, HB3.out⟩
        | false =>
          go_wp2
          go_ret
          exact ⟨ret_int HE.out.symm, HB3.out⟩
    · have hcb : (x.ci == 0) = false := by simpa using hci
      have hcn : (x.ci != 0) = true := by simpa using hci
      have HE : Hid (t = if b50 = false ∧ b54 = false then 3 else 0) := by
        have := HR.out
        simp [hci] at this; exact this
      clear hci HR HM3
      cases b54 with
      | true =>
        cases b50 with
        | true =>
          go_wp2
          go_ret
          exact ⟨ret_int HE.out.symm, HB3.out⟩
        | false =>
          go_wp2
          go_ret
          exact ⟨ret_int HE.out.symm, HB3.out⟩
      | false =>
        cases b50 with
        | true =>
          go_wp2
          go_ret
          exact ⟨ret_int HE.out.symm, HB3.out⟩
        | false =>
          go_wp2
          go_ret
          exact ⟨ret_int HE.out.symm, HB3.out⟩)

set_option maxHeartbeats 4000000 in
theorem refOf_any (x : Mv) (w : World) (h : x.ok w) : Calls Tryz.prog 26 #[x.v] w (InR (classL x.mm) w) := by
  obtain ⟨w0, hw0, hc0, hb0, hz⟩ := boxM w x 40
  have HK := Lib.hid (refKind_any x.B x.m x.d x.ps w0 (h.below hb0).os)
  have HA50 := Lib.hid (fun W (hW : Below w0.heap.size w0 W) => refNumber_any x.B x.m x.d x.ps 50 W ((h.below hb0).os.below hW))
  have HA54 := Lib.hid (fun W (hW : Below w0.heap.size w0 W) => refNumber_any x.B x.m x.d x.ps 54 W ((h.below hb0).os.below hW))
  have HR := Lib.hid (class_eq x.mm)
  rw [show kindE x.mm.os = kindL (osP x.ps) from rfl, show x.mm.ci = x.ci from rfl, show numE x.mm.os 50 4 = numL (osP x.ps) 50 4 from rfl, show numE x.mm.os 54 4 = numL (osP x.ps) 54 4 from rfl] at HR
  generalize kindL (osP x.ps) = kk at HK HR
  generalize numL (osP x.ps) 50 4 = r50 at HA50 HR
  generalize numL (osP x.ps) 54 4 = r54 at HA54 HR
  generalize classL x.mm = t at HR ⊢
  have HB := Lib.hid hb0
  have HM := Lib.hid hc0
  clear h hb0 hc0
  by_cases hk : kk = 3
  rotate_left
  · have hkb : (kk != 3) = true := by simpa using hk
    have HT : Hid (t = 0) := by have := HR.out; rw [if_pos hk] at this; exact this
    clear hk HR HA50 HA54
    go_enter Tryz.func26, Tryz.ntmps26
    go_wp2_with fail
    rw [← hw0]
    clear hw0
    refine HK.out.mono ?_
    rintro e w1 ⟨rfl, rfl⟩
    go_wp2
    go_ret
    exact ⟨ret_int HT.out.symm, HB.out⟩
  subst hk
  obtain ⟨⟨_, _, _, _, _, _, _⟩, m7, _, _, _, _, m12⟩ := celM_all HM.out
  go_enter Tryz.func26, Tryz.ntmps26
  go_wp2_with fail
  rw [← hw0]
  clear hw0
  refine HK.out.mono ?_
  rintro e w1 ⟨rfl, rfl⟩
  go_wp2_with fail
  refine (HA54.out _ (Below.refl _ _)).mono ?_
  rintro e w2 ⟨rfl, hb2⟩
  have HB2 := Lib.hid hb2
  clear hb2 m7 m12
  obtain ⟨⟨_, _, _, _, _, _, _⟩, m7, _, _, _, _, m12⟩ := celM_all (HM.out.below HB2.out HM.out.lt)
  go_wp2_with fail
  refine (HA50.out _ HB2.out).mono ?_
  rintro e w3 ⟨rfl, hb3⟩
  have HB3 := Lib.hid (HB2.out.trans (hb3.mono HB2.out.size))
  have HBE := Lib.hid (HB.out.trans (HB3.out.mono HB.out.size))
  clear hb3 m7 m12
  obtain ⟨⟨_, _, _, _, _, _, _⟩, m7, _, _, _, _, m12⟩ := celM_all (HM.out.below HB3.out HM.out.lt)
  generalize r50.isSome = b50 at HR ⊢
  generalize r54.isSome = b54 at HR ⊢
  clear HA50 HA54 HK HM HB HB2 HB3 m12
  by_cases hci : x.ci = 0
  · have hcb : (x.ci == 0) = true := by simpa using hci
    have hcn : (x.ci != 0) = false := by simpa using hci
    have HE : Hid (t = if b50 = true then (if b54 = true then 1 else 2) else 0) := by
      have := HR.out
      simp [hci] at this; exact this
    clear hci HR
    cases b54 with
    | true =>
      cases b50 with
      | true =>
        go_wp2
        go_ret
        exact ⟨ret_int HE.out.symm, HBE.out⟩
      | false =>
        go_wp2
        go_ret
        exact ⟨ret_int HE.out.symm, HBE.out⟩
    | false =>
      cases b50 with
      | true =>
        go_wp2
        go_ret
        exact ⟨ret_int HE.out.symm, HBE.out⟩
      | false =>
        go_wp2
        go_ret
        exact ⟨ret_int HE.out.symm, HBE.out⟩
  · have hcb : (x.ci == 0) = false := by simpa using hci
    have hcn : (x.ci != 0) = true := by simpa using hci
    have HE : Hid (t = if b50 = false ∧ b54 = false then 3 else 0) := by
      have := HR.out
      simp [hci] at this; exact this
    clear hci HR
    cases b54 with
    | true =>
      cases b50 with
      | true =>
        go_wp2
        go_ret
        exact ⟨ret_int HE.out.symm, HBE.out⟩
      | false =>
        go_wp2
        go_ret
        exact ⟨ret_int HE.out.symm, HBE.out⟩
    | false =>
      cases b50 with
      | true =>
        go_wp2
        go_ret
        exact ⟨ret_int HE.out.symm, HBE.out⟩
      | false =>
        go_wp2
        go_ret
        exact ⟨ret_int HE.out.symm, HBE.out⟩

set_option maxHeartbeats 4000000 in
theorem about_any (x : Mv) (w : World) (h : x.ok w) (hsm : ∀ p ∈ x.ps, p.l.length ≤ 1000) : Calls Tryz.prog 142 #[x.v] w (InR (aboutL x.mm) w) := by
  obtain ⟨w0, hw0, hc0, hb0, hz⟩ := boxM w x 29
  have HO := Lib.hid (of_any x w0 (h.below hb0) hsm)
  have HA := Lib.hid (fun W (hW : Below w0.heap.size w0 W) => number4_any x.B x.m x.d x.ps 50 W ((h.below hb0).os.below hW) hsm)
  have HB := Lib.hid hb0
  have HM := Lib.hid hc0
  have HS := Lib.hid (celM_all hc0)
  have hr := about_cases x.mm
  rw [show x.mm.ci = x.ci from rfl, show numE x.mm.os 50 4 = numL (osP x.ps) 50 4 from rfl] at hr
  generalize aboutL x.mm = t at hr ⊢
  generalize classL x.mm = kk at hr HO
  generalize numL (osP x.ps) 50 4 = r at HA hr
  clear h hsm hb0 hc0
  rcases hr with ⟨rfl, ht⟩ | ⟨rfl, ht⟩ | ⟨hk, ht⟩
  · have HT := Lib.hid ht
    clear ht
    obtain ⟨⟨m0, m1, m2, m3, m4, m5, m6⟩, m7, m8, m9, m10, m11, m12⟩ := HS.out
    go_enter Tryz.func142, Tryz.ntmps142
    go_wp2_with fail
    rw [← hw0]
    clear hw0
    refine HO.out.mono ?_
    rintro e w1 ⟨rfl, hb1⟩
    have HB1 := Lib.hid hb1
    have HBE := Lib.hid (HB.out.trans (hb1.mono HB.out.size))
    clear hb1 m0 m1 m2 m3 m4 m5 m6 m7 m8 m9 m10 m11 m12 HS
    obtain ⟨⟨_, _, _, _, _, _, _⟩, m7, _, _, _, _, m12⟩ := celM_all (HM.out.below HB1.out HM.out.lt)
    go_wp2
    go_ret
    exact ⟨ret_int HT.out.symm, HBE.out⟩
  · have HT := Lib.hid ht
    clear ht
    obtain ⟨⟨m0, m1, m2, m3, m4, m5, m6⟩, m7, m8, m9, m10, m11, m12⟩ := HS.out
    go_enter Tryz.func142, Tryz.ntmps142
    go_wp2_with fail
    rw [← hw0]
    clear hw0
    refine HO.out.mono ?_
    rintro e w1 ⟨rfl, hb1⟩
    have HB1 := Lib.hid hb1
    have HBE := Lib.hid (HB.out.trans (hb1.mono HB.out.size))
    clear hb1 m0 m1 m2 m3 m4 m5 m6 m7 m8 m9 m10 m11 m12 HS
    obtain ⟨⟨_, _, _, _, _, _, _⟩, m7, _, _, _, _, m12⟩ := celM_all (HM.out.below HB1.out HM.out.lt)
    go_wp2
    go_ret
    exact ⟨ret_int HT.out.symm, HBE.out⟩
  · have HT := Lib.hid ht
    clear ht
    rcases hk with rfl | rfl
    · obtain ⟨⟨m0, m1, m2, m3, m4, m5, m6⟩, m7, m8, m9, m10, m11, m12⟩ := HS.out
      go_enter Tryz.func142, Tryz.ntmps142
      go_wp2_with fail
      rw [← hw0]
      clear hw0
      refine HO.out.mono ?_
      rintro e w1 ⟨rfl, hb1⟩
      have HB1 := Lib.hid hb1
      have HBE := Lib.hid (HB.out.trans (hb1.mono HB.out.size))
      clear hb1 m0 m1 m2 m3 m4 m5 m6 m7 m8 m9 m10 m11 m12 HS
      obtain ⟨⟨_, _, _, _, _, _, _⟩, m7, _, _, _, _, m12⟩ := celM_all (HM.out.below HB1.out HM.out.lt)
      go_wp2_with fail
      refine (HA.out _ HB1.out).mono ?_
      rintro e w2 ⟨rfl, hb2⟩
      have HBF := Lib.hid (HBE.out.trans (hb2.mono HBE.out.size))
      clear hb2
      go_wp2
      go_ret
      exact ⟨ret_int HT.out.symm, HBF.out⟩
    · obtain ⟨⟨m0, m1, m2, m3, m4, m5, m6⟩, m7, m8, m9, m10, m11, m12⟩ := HS.out
      go_enter Tryz.func142, Tryz.ntmps142
      go_wp2_with fail
      rw [← hw0]
      clear hw0
      refine HO.out.mono ?_
      rintro e w1 ⟨rfl, hb1⟩
      have HB1 := Lib.hid hb1
      have HBE := Lib.hid (HB.out.trans (hb1.mono HB.out.size))
      clear hb1 m0 m1 m2 m3 m4 m5 m6 m7 m8 m9 m10 m11 m12 HS
      obtain ⟨⟨_, _, _, _, _, _, _⟩, m7, _, _, _, _, m12⟩ := celM_all (HM.out.below HB1.out HM.out.lt)
      go_wp2_with fail
      refine (HA.out _ HB1.out).mono ?_
      rintro e w2 ⟨rfl, hb2⟩
      have HBF := Lib.hid (HBE.out.trans (hb2.mono HBE.out.size))
      clear hb2
      go_wp2
      go_ret
      exact ⟨ret_int HT.out.symm, HBF.out⟩

set_option maxHeartbeats 4000000 in
theorem refAbout_any (x : Mv) (w : World) (h : x.ok w) : Calls Tryz.prog 27 #[x.v] w (InR (aboutL x.mm) w) := by
  obtain ⟨w0, hw0, hc0, hb0, hz⟩ := boxM w x 40
  have HO := Lib.hid (refOf_any x w0 (h.below hb0))
  have HA := Lib.hid (fun W (hW : Below w0.heap.size w0 W) => refNumber_any x.B x.m x.d x.ps 50 W ((h.below hb0).os.below hW))
  have HB := Lib.hid hb0
  have HM := Lib.hid hc0
  have HS := Lib.hid (celM_all hc0)
  have hr := about_cases x.mm
  rw [show x.mm.ci = x.ci from rfl, show numE x.mm.os 50 4 = numL (osP x.ps) 50 4 from rfl] at hr
  generalize aboutL x.mm = t at hr ⊢
  generalize classL x.mm = kk at hr HO
  generalize numL (osP x.ps) 50 4 = r at HA hr
  clear h hb0 hc0
  rcases hr with ⟨rfl, ht⟩ | ⟨rfl, ht⟩ | ⟨hk, ht⟩
  · have HT := Lib.hid ht
    clear ht
    obtain ⟨⟨m0, m1, m2, m3, m4, m5, m6⟩, m7, m8, m9, m10, m11, m12⟩ := HS.out
    go_enter Tryz.func27, Tryz.ntmps27
    go_wp2_with fail
    rw [← hw0]
    clear hw0
    refine HO.out.mono ?_
    rintro e w1 ⟨rfl, hb1⟩
    have HB1 := Lib.hid hb1
    have HBE := Lib.hid (HB.out.trans (hb1.mono HB.out.size))
    clear hb1 m0 m1 m2 m3 m4 m5 m6 m7 m8 m9 m10 m11 m12 HS
    obtain ⟨⟨_, _, _, _, _, _, _⟩, m7, _, _, _, _, m12⟩ := celM_all (HM.out.below HB1.out HM.out.lt)
    go_wp2
    go_ret
    exact ⟨ret_int HT.out.symm, HBE.out⟩
  · have HT := Lib.hid ht
    clear ht
    obtain ⟨⟨m0, m1, m2, m3, m4, m5, m6⟩, m7, m8, m9, m10, m11, m12⟩ := HS.out
    go_enter Tryz.func27, Tryz.ntmps27
    go_wp2_with fail
    rw [← hw0]
    clear hw0
    refine HO.out.mono ?_
    rintro e w1 ⟨rfl, hb1⟩
    have HB1 := Lib.hid hb1
    have HBE := Lib.hid (HB.out.trans (hb1.mono HB.out.size))
    clear hb1 m0 m1 m2 m3 m4 m5 m6 m7 m8 m9 m10 m11 m12 HS
    obtain ⟨⟨_, _, _, _, _, _, _⟩, m7, _, _, _, _, m12⟩ := celM_all (HM.out.below HB1.out HM.out.lt)
    go_wp2
    go_ret
    exact ⟨ret_int HT.out.symm, HBE.out⟩
  · have HT := Lib.hid ht
    clear ht
    rcases hk with rfl | rfl
    · obtain ⟨⟨m0, m1, m2, m3, m4, m5, m6⟩, m7, m8, m9, m10, m11, m12⟩ := HS.out
      go_enter Tryz.func27, Tryz.ntmps27
      go_wp2_with fail
      rw [← hw0]
      clear hw0
      refine HO.out.mono ?_
      rintro e w1 ⟨rfl, hb1⟩
      have HB1 := Lib.hid hb1
      have HBE := Lib.hid (HB.out.trans (hb1.mono HB.out.size))
      clear hb1 m0 m1 m2 m3 m4 m5 m6 m7 m8 m9 m10 m11 m12 HS
      obtain ⟨⟨_, _, _, _, _, _, _⟩, m7, _, _, _, _, m12⟩ := celM_all (HM.out.below HB1.out HM.out.lt)
      go_wp2_with fail
      refine (HA.out _ HB1.out).mono ?_
      rintro e w2 ⟨rfl, hb2⟩
      have HBF := Lib.hid (HBE.out.trans (hb2.mono HBE.out.size))
      clear hb2
      go_wp2
      go_ret
      exact ⟨ret_int HT.out.symm, HBF.out⟩
    · obtain ⟨⟨m0, m1, m2, m3, m4, m5, m6⟩, m7, m8, m9, m10, m11, m12⟩ := HS.out
      go_enter Tryz.func27, Tryz.ntmps27
      go_wp2_with fail
      rw [← hw0]
      clear hw0
      refine HO.out.mono ?_
      rintro e w1 ⟨rfl, hb1⟩
      have HB1 := Lib.hid hb1
      have HBE := Lib.hid (HB.out.trans (hb1.mono HB.out.size))
      clear hb1 m0 m1 m2 m3 m4 m5 m6 m7 m8 m9 m10 m11 m12 HS
      obtain ⟨⟨_, _, _, _, _, _, _⟩, m7, _, _, _, _, m12⟩ := celM_all (HM.out.below HB1.out HM.out.lt)
      go_wp2_with fail
      refine (HA.out _ HB1.out).mono ?_
      rintro e w2 ⟨rfl, hb2⟩
      have HBF := Lib.hid (HBE.out.trans (hb2.mono HBE.out.size))
      clear hb2
      go_wp2
      go_ret
      exact ⟨ret_int HT.out.symm, HBF.out⟩
end Go.Proofs.YtoldppbakapohaaGreatDoor.Gw
end
/- What dest.Of, and the document's own, come to. No conditions. -/
section
set_option maxRecDepth 8000
namespace Go.Proofs.YtoldppbakapohaaGreatDoor.Hw
open Go.RowKit Go.ChangeMaps Tl Co Ms By Cl
open Pw (boxM celM_all alloc_more)
open Mw (Cel.set Cel.frozen)

section
variable {w v : World} {g B : Nat} {t : TypeId} {a b c a' b' c' : Value}
theorem celK3 (h : Cel w g t #[a, b, c]) : w.cell? ⟨g, 0, none⟩ = some a ∧ w.cell? ⟨g, 1, none⟩ = some b ∧ w.cell? ⟨g, 2, none⟩ = some c := ⟨by rw [h.cell]; rfl, by rw [h.cell]; rfl, by rw [h.cell]; rfl⟩
theorem celFr3 (h : Cel w g t #[a, b, c]) : w.frozen? ⟨g, 0, none⟩ = false ∧ w.frozen? ⟨g, 1, none⟩ = false ∧ w.frozen? ⟨g, 2, none⟩ = false := ⟨Cel.frozen h 0, Cel.frozen h 1, Cel.frozen h 2⟩
theorem celPut3 (h : Cel w g t #[a', b', c']) : Cel (((w.setCell ⟨g, 0, none⟩ a).setCell ⟨g, 1, none⟩ b).setCell ⟨g, 2, none⟩ c) g t #[a, b, c] := Cel.set (Cel.set (Cel.set h 0 a) 1 b) 2 c
theorem belowPut3 (h : Below B v w) (hg : B ≤ g) (a b c : Value) : Below B v (((w.setCell ⟨g, 0, none⟩ a).setCell ⟨g, 1, none⟩ b).setCell ⟨g, 2, none⟩ c) :=
  ((h.setCell (p := ⟨g, 0, none⟩) hg _).setCell (p := ⟨g, 1, none⟩) hg _).setCell (p := ⟨g, 2, none⟩) hg _
end
/-- A destination by value. -/
def dsC (d : Int × Int × Bool) : Array Value := #[.int .i64 d.1, .int .i64 d.2.1, .bool d.2.2]
def DsR (d : Int × Int × Bool) (w : World) (e : Ending) (w' : World) : Prop := e = .returned (.agg (dsC d)) ∧ Below w.heap.size w w'
theorem two (w : World) (x : Mv) (t u : TypeId) : ∃ w0, w0 = (w.alloc (.cells x.cells t)).alloc (.cells #[.int .i64 0, .int .i64 0, .bool false] u) ∧ Cel w0 w.heap.size t x.cells ∧ Cel w0 (w.heap.size + 1) u #[.int .i64 0, .int .i64 0, .bool false] ∧ Below w.heap.size w w0 := by
  have c0 := Cel.born w t x.cells
  have c1 := Cel.born (w.alloc (.cells x.cells t)) u #[.int .i64 0, .int .i64 0, .bool false]
  have b1 := alloc_more (w.alloc (.cells x.cells t)) (.cells #[.int .i64 0, .int .i64 0, .bool false] u)
  have hz : (w.alloc (.cells x.cells t)).heap.size = w.heap.size + 1 := by simp
  refine ⟨_, rfl, c0.below b1 c0.lt, ?_, (alloc_more w _).trans (b1.mono (by omega))⟩
  rw [hz] at c1
  exact c1
theorem ret_dest {fn : Func} {p : Tmp} (hres : fn.results = #[.cell p 33]) (tmps : Array Value) (w : World) (g : Nat) (cs : Array Value) (hp : tmps.getD p undef = .pointer (some ⟨g, 0, none⟩)) (hc : Cel w g 33 cs) (hs : cs.size = 3) :
    (results fn tmps).run Tryz.prog w = .ok (.agg cs) w := results_cell_row hres tmps w g _ cs (0, 0) _ hp hc Tryz.underlying33 rfl (by rw [hs]; kernel_rfl)
def bcast (f : Int) : Bool := decide (32768 ≤ f) && decide (f ≤ 65535)
theorem bcast_iff (f : Int) : bcast f = true ↔ 32768 ≤ f ∧ f ≤ 65535 := by unfold bcast; simp
theorem bcast_cases (f : Int) : (bcast f = true ∧ decide (32768 ≤ f) = true ∧ decide (f ≤ 65535) = true) ∨ (bcast f = false ∧ decide (32768 ≤ f) = false) ∨ (bcast f = false ∧ decide (32768 ≤ f) = true ∧ decide (f ≤ 65535) = false) := by
  unfold bcast
  cases decide (32768 ≤ f) <;> cases decide (f ≤ 65535) <;> simp
theorem dest_eq (m : M) (kd yi : Int) : destL m kd yi = if (m.gi != 0) = true then (m.gi, 67, false) else if (kd == 6) = true then (4294967295, 68, false) else if (m.ci != 0) = true then (m.ci, 68, false) else
    if bcast m.flags = true then (4294967295, 68, false) else (yi, 68, true) := by
  unfold destL
  simp only [bne_iff_ne, beq_iff_eq, bcast_iff]

set_option maxHeartbeats 1000000 in
theorem broadcast_any (x : Mv) (w : World) : Calls Tryz.prog 232 #[x.v] w fun e w' => e = .returned (.bool (bcast x.flags)) ∧ Below w.heap.size w w' := by
  obtain ⟨w0, hw0, hc0, hb0, hz⟩ := boxM w x 29
  have HB := Lib.hid hb0
  obtain ⟨⟨m0, m1, m2, m3, m4, m5, m6⟩, m7, m8, m9, m10, m11, m12⟩ := celM_all hc0
  clear hb0 hc0 hz
  rcases bcast_cases x.flags with ⟨hf, h1, h2⟩ | ⟨hf, h1⟩ | ⟨hf, h1, h2⟩
  all_goals (
    rw [hf]
    clear hf
    go_enter Tryz.func232, Tryz.ntmps232
    go_upto_region 1 with fail
    rw [← hw0]
    clear hw0
    go_wp2
    go_ret
    exact ⟨rfl, HB.out⟩)

set_option maxHeartbeats 4000000 in
theorem of_any (x : Mv) (kd yi : Int) (w : World) : Calls Tryz.prog 204 #[x.v, .int .i64 kd, .int .i64 yi] w (DsR (destL x.mm kd yi) w) := by
  obtain ⟨w0, hw0, hc0, hd0, hb0⟩ := two w x 29 33
  have HR := Lib.hid (dest_eq x.mm kd yi)
  rw [show x.mm.gi = x.gi from rfl, show x.mm.ci = x.ci from rfl, show x.mm.flags = x.flags from rfl] at HR
  generalize destL x.mm kd yi = t at HR ⊢
  have HB := Lib.hid hb0
  have HM := Lib.hid hc0
  have HD := Lib.hid hd0
  have HX := Lib.hid (fun W (hW : Below w0.heap.size w0 W) => hb0.trans (hW.mono hb0.size))
  clear hb0 hc0 hd0
  cases h1 : (x.gi != 0) with
  | true =>
    have HT : Hid (t = (x.gi, 67, false)) := by have := HR.out; rw [if_pos h1] at this; exact this
    clear HR
    obtain ⟨⟨m0, m1, m2, m3, m4, m5, m6⟩, m7, m8, m9, m10, m11, m12⟩ := celM_all HM.out
    obtain ⟨d0, d1, d2⟩ := celK3 HD.out
    obtain ⟨f0, f1, f2⟩ := celFr3 HD.out
    go_enter Tryz.func204, Tryz.ntmps204
    go_upto_region 1 with fail
    rw [← hw0]
    clear hw0
    go_wp2
    (try simp only [Exit.inBlock, Exit.then])
    refine bodyPost_ret (ret_dest rfl _ _ (w.heap.size + 1) _ rfl (celPut3 HD.out) rfl) rfl ?_
    exact ⟨by rw [HT.out]; rfl, belowPut3 HB.out (by omega) _ _ _⟩
  | false =>
  cases h2 : (kd == 6) with
  | true =>
    have HT : Hid (t = (4294967295, 68, false)) := by have := HR.out; rw [if_neg (by rw [h1]; exact Bool.false_ne_true), if_pos h2] at this; exact this
    clear HR
    obtain ⟨⟨m0, m1, m2, m3, m4, m5, m6⟩, m7, m8, m9, m10, m11, m12⟩ := celM_all HM.out
    obtain ⟨d0, d1, d2⟩ := celK3 HD.out
    obtain ⟨f0, f1, f2⟩ := celFr3 HD.out
    go_enter Tryz.func204, Tryz.ntmps204
    go_upto_region 1 with fail
    rw [← hw0]
    clear hw0
    go_wp2
    (try simp only [Exit.inBlock, Exit.then])
    refine bodyPost_ret (ret_dest rfl _ _ (w.heap.size + 1) _ rfl (celPut3 HD.out) rfl) rfl ?_
    exact ⟨by rw [HT.out]; rfl, belowPut3 HB.out (by omega) _ _ _⟩
  | false =>
  cases h3 : (x.ci != 0) with
  | true =>
    have HT : Hid (t = (x.ci, 68, false)) := by have := HR.out; rw [if_neg (by rw [h1]; exact Bool.false_ne_true), if_neg (by rw [h2]; exact Bool.false_ne_true), if_pos h3] at this; exact this
    clear HR
    have h4 : (x.ci == 0) = false := by simpa using h3
    obtain ⟨⟨m0, m1, m2, m3, m4, m5, m6⟩, m7, m8, m9, m10, m11, m12⟩ := celM_all HM.out
    obtain ⟨d0, d1, d2⟩ := celK3 HD.out
    obtain ⟨f0, f1, f2⟩ := celFr3 HD.out
    go_enter Tryz.func204, Tryz.ntmps204
    go_upto_region 1 with fail
    rw [← hw0]
    clear hw0
    go_wp2
    (try simp only [Exit.inBlock, Exit.then])
    refine bodyPost_ret (ret_dest rfl _ _ (w.heap.size + 1) _ rfl (celPut3 HD.out) rfl) rfl ?_
    exact ⟨by rw [HT.out]; rfl, belowPut3 HB.out (by omega) _ _ _⟩
  | false =>
  have h4 : (x.ci == 0) = true := by simpa using h3
  have HC := Lib.hid (broadcast_any x)
  cases hf : bcast x.flags with
  | true =>
    have HT : Hid (t = (4294967295, 68, false)) := by have := HR.out; rw [if_neg (by rw [h1]; exact Bool.false_ne_true), if_neg (by rw [h2]; exact Bool.false_ne_true), if_neg (by rw [h3]; exact Bool.false_ne_true), if_pos hf] at this; exact this
    clear HR
    rw [hf] at HC
    clear hf
    obtain ⟨⟨m0, m1, m2, m3, m4, m5, m6⟩, m7, m8, m9, m10, m11, m12⟩ := celM_all HM.out
    obtain ⟨d0, d1, d2⟩ := celK3 HD.out
    obtain ⟨f0, f1, f2⟩ := celFr3 HD.out
    go_enter Tryz.func204, Tryz.ntmps204
    go_upto_region 1 with fail
    rw [← hw0]
    clear hw0
    go_wp2_with fail
    refine (HC.out _).mono ?_
    rintro e w1 ⟨rfl, hb1⟩
    have hbk : Below w0.heap.size w0 w1 := by first | exact hb1 | exact (Below.refl _ _).drew.trans (hb1.mono (Below.refl _ _).drew.size)
    have HD1 := Lib.hid (HD.out.below hbk HD.out.lt)
    have HB1 := Lib.hid (HX.out _ hbk)
    have HM1 := Lib.hid (HM.out.below hbk HM.out.lt)
    clear hb1 hbk m0 m1 m2 m3 m4 m5 m6 m7 m8 m9 m10 m11 m12 d0 d1 d2 f0 f1 f2
    obtain ⟨⟨m0, m1, m2, m3, m4, m5, m6⟩, m7, m8, m9, m10, m11, m12⟩ := celM_all HM1.out
    obtain ⟨d0, d1, d2⟩ := celK3 HD1.out
    obtain ⟨f0, f1, f2⟩ := celFr3 HD1.out
    go_wp2
    (try simp only [Exit.inBlock, Exit.then])
    refine bodyPost_ret (ret_dest rfl _ _ (w.heap.size + 1) _ rfl (celPut3 HD1.out) rfl) rfl ?_
    exact ⟨by rw [HT.out]; rfl, belowPut3 HB1.out (by omega) _ _ _⟩
  | false =>
    have HT : Hid (t = (yi, 68, true)) := by have := HR.out; rw [if_neg (by rw [h1]; exact Bool.false_ne_true), if_neg (by rw [h2]; exact Bool.false_ne_true), if_neg (by rw [h3]; exact Bool.false_ne_true), if_neg (by rw [hf]; exact Bool.false_ne_true)] at this; exact this
    clear HR
    rw [hf] at HC
    clear hf
    obtain ⟨⟨m0, m1, m2, m3, m4, m5, m6⟩, m7, m8, m9, m10, m11, m12⟩ := celM_all HM.out
    obtain ⟨d0, d1, d2⟩ := celK3 HD.out
    obtain ⟨f0, f1, f2⟩ := celFr3 HD.out
    go_enter Tryz.func204, Tryz.ntmps204
    go_upto_region 1 with fail
    rw [← hw0]
    clear hw0
    go_wp2_with fail
    refine (HC.out _).mono ?_
    rintro e w1 ⟨rfl, hb1⟩
    have hbk : Below w0.heap.size w0 w1 := by first | exact hb1 | exact (Below.refl _ _).drew.trans (hb1.mono (Below.refl _ _).drew.size)
    have HD1 := Lib.hid (HD.out.below hbk HD.out.lt)
    have HB1 := Lib.hid (HX.out _ hbk)
    have HM1 := Lib.hid (HM.out.below hbk HM.out.lt)
    clear hb1 hbk m0 m1 m2 m3 m4 m5 m6 m7 m8 m9 m10 m11 m12 d0 d1 d2 f0 f1 f2
    obtain ⟨⟨m0, m1, m2, m3, m4, m5, m6⟩, m7, m8, m9, m10, m11, m12⟩ := celM_all HM1.out
    obtain ⟨d0, d1, d2⟩ := celK3 HD1.out
    obtain ⟨f0, f1, f2⟩ := celFr3 HD1.out
    go_wp2
    (try simp only [Exit.inBlock, Exit.then])
    refine bodyPost_ret (ret_dest rfl _ _ (w.heap.size + 1) _ rfl (celPut3 HD1.out) rfl) rfl ?_
    exact ⟨by rw [HT.out]; rfl, belowPut3 HB1.out (by omega) _ _ _⟩

end Go.Proofs.YtoldppbakapohaaGreatDoor.Hw
end
