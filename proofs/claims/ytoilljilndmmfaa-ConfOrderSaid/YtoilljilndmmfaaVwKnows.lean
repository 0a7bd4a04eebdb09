/- What boarderlaw13's knows comes to: the document's examples come out. No conditions. -/
import Derived.Test.YtoilljilndmmfaaVwGrt
import Derived.Deep.RegionLaw
set_option maxRecDepth 8000
namespace Go.Proofs.Ytoilljilndmmfaa.Vw
open Go.RowKit By Cf Ad Ky
open Dw (ba ba_size ba_data ba_list alloc_more)

theorem chain3 (w : World) (a b c : Array Value) (ta tb tc : TypeId) : ∃ w3, w3 = (((w.alloc (.cells a ta)).alloc (.cells b tb)).alloc (.cells c tc)) ∧
    Cel w3 w.heap.size ta a ∧ Cel w3 (w.heap.size + 1) tb b ∧ Cel w3 (w.heap.size + 2) tc c ∧ Below w.heap.size w w3 ∧ w3.heap.size = w.heap.size + 3 := by
  have ca := Cel.born w ta a
  have ba := alloc_more w (.cells a ta)
  have sa : (w.alloc (.cells a ta)).heap.size = w.heap.size + 1 := by simp
  refine ⟨_, rfl, ?_⟩
  generalize w.alloc (.cells a ta) = wa at ca ba sa
  have cb := Cel.born wa tb b
  have bb := alloc_more wa (.cells b tb)
  have sb : (wa.alloc (.cells b tb)).heap.size = w.heap.size + 2 := by simp; omega
  generalize wa.alloc (.cells b tb) = wb at cb bb sb
  have cc := Cel.born wb tc c
  have bc := alloc_more wb (.cells c tc)
  have sc : (wb.alloc (.cells c tc)).heap.size = w.heap.size + 3 := by simp; omega
  generalize wb.alloc (.cells c tc) = wc at cc bc sc
  rw [sa] at cb bb
  rw [sb] at cc bc
  exact ⟨(ca.below bb (by omega)).below bc (by omega), cb.below bc (by omega), cc, (ba.trans (bb.mono (by omega))).trans (bc.mono (by omega)), sc⟩
theorem grownSet (w : World) (g j : Nat) (v : Value) : w.grownBy (w.setCell ⟨g, j, none⟩ v) (some g) :=
  ⟨rfl, rfl, rfl, by simp, fun k _ hne => Below.heap_setCell w ⟨g, j, none⟩ v k (fun e => hne (by rw [e]))⟩
theorem celOwnS {W : World} {b B : Nat} {f : Int} (h : PlA W b f) (hB : B ≤ b + 4) : OwnG layS 45 B W (some ⟨b + 4, 0, none⟩) 1 1 [plSx b f] :=
  ⟨⟨rfl, .inr ⟨b + 4, 1, plSs b, rfl, hB, h.s, Nat.le_refl _, by unfold maxLen; omega, rfl, rfl⟩⟩, rfl⟩
@[reducible] def cf3 (b : Nat) : Value := .agg #[.int .i64 167772161, .int .i64 300, .slice (some ⟨b + 5, 0, none⟩) 1 1]
section
variable {W : World} {b U : Nat} {f : Int}
theorem cfP_is (b : Nat) (f : Int) : (plCx b f).cf = cfP f := rfl
theorem plX_ok (h : (plCx b f).ok U W) (hU : U ≤ W.heap.size) {z : Int} (hz : checkC (cfP f) = z) : Calls Try.prog 10 #[cf3 b] W (isI z W) := by
  have := check_any (plCx b f) U W h hU (by rw [cfP_is]; exact ex_small f)
  rw [cfP_is, hz] at this
  exact this
theorem plX_find (h : (plCx b 167772170).ok U W) (hU : U ≤ W.heap.size) : Calls Try.prog 12 #[cf3 b, .int .i64 167772259] W (fun e w' => e = .returned (.tuple #[.int .i64 0, .int .i64 0, .bool true]) ∧ Below W.heap.size W w') := by
  have := findX_any (plCx b 167772170) 167772259 U W h hU (by rw [cfP_is]; exact ex_small _)
  rw [find_doc, cfP_is, ex_find] at this
  exact this
theorem plX_keeper (h : (plCx b 167772170).ok U W) (hU : U ≤ W.heap.size) : Calls Try.prog 18 #[cf3 b, .int .i64 167772165] W (fun e w' => e = .returned (.tuple #[.string ⟨#[105, 48, 49]⟩, .bool true]) ∧ Below W.heap.size W w') := by
  have := keeperX_any (plCx b 167772170) 167772165 U W h hU (by rw [cfP_is]; exact ex_small _)
  rw [keeper_doc, cfP_is, ex_keeper] at this
  exact this
theorem plX_kept (h : (plCx b 167772170).ok U W) (hU : U ≤ W.heap.size) : Calls Try.prog 16 #[cf3 b, .int .i64 0, .string ⟨#[105, 48, 49]⟩] W (fun e w' => e = .returned (.tuple #[.int .i64 167772165, .bool true]) ∧ Below W.heap.size W w') := by
  have := keptX_any (plCx b 167772170) 0 i01 U W h hU (by rw [cfP_is]; exact ex_small _)
  rw [kept_doc, cfP_is, ex_kept] at this
  exact this
theorem plX_in (h : (plCx b 167772170).ok U W) (hU : U ≤ W.heap.size) {a : Int} {z : Bool} (hz : inPoolC (cfP 167772170) 0 a = z) : Calls Try.prog 20 #[cf3 b, .int .i64 0, .int .i64 a] W (isB z W) := by
  have := inPoolX_any (plCx b 167772170) 0 a U W h hU (by rw [cfP_is]; exact ex_small _)
  rw [pool_doc, cfP_is, hz] at this
  exact this
end
def exCx (b : Nat) (A : Option Addr) (c : Nat) : Cx := ⟨167772161, 300, some ⟨b + 5, 0, none⟩, 1, 1, [⟨A, c, [plSx b 167772170, exSx]⟩]⟩
theorem exX_ok {W : World} {b U : Nat} {A : Option Addr} {c : Nat} (h : (exCx b A c).ok U W) (hU : U ≤ W.heap.size) : Calls Try.prog 10 #[cf3 b] W (isI 8 W) := by
  have e : (exCx b A c).cf = cfE := rfl
  have := check_any (exCx b A c) U W h hU (by rw [e]; exact ex_smallE)
  rw [e, ex_twice] at this
  exact this
/-- All that the examples need, in one. -/
structure KnW (W : World) (bC bD bE g : Nat) (A : Option Addr) (c : Nat) : Prop where
  pc : PlA W bC 167772170
  pd : PlA W bD 167772161
  pe : (exCx bE A c).ok W.heap.size W
  cc : Cel W g 24 (plCs bC)
  cd : Cel W (g + 1) 24 (plCs bD)
  ce : Cel W (g + 1 + 1) 24 (plCs bE)
  lc : bC + 5 < W.heap.size
  ld : bD + 5 < W.heap.size
theorem KnW.below {W W' : World} {bC bD bE g : Nat} {A : Option Addr} {c : Nat} (h : KnW W bC bD bE g A c) (hb : Below W.heap.size W W') : KnW W' bC bD bE g A c :=
  ⟨h.pc.below hb h.lc, h.pd.below hb h.ld, (h.pe.below hb).mono hb.size, h.cc.below hb h.cc.lt, h.cd.below hb h.cd.lt, h.ce.below hb h.ce.lt, Nat.lt_of_lt_of_le h.lc hb.size, Nat.lt_of_lt_of_le h.ld hb.size⟩
/-- The world behind the changes of d and e. -/
theorem kn_made {w5 w6 : World} {bC bD bE g : Nat} {A6 : Option Addr} {c6 : Nat} (h1 : bD = bC + 6) (h2 : bE = bD + 6) (h3 : g = bE + 6) (h5 : w5.heap.size = g + 3)
    (hpc : PlA w5 bC 167772170) (hpd : PlA w5 bD 167772161) (hpe : PlA w5 bE 167772170) (hcc : Cel w5 g 24 (plCs bC)) (hcd : Cel w5 (g + 1) 24 (plCs bD)) (hce : Cel w5 (g + 1 + 1) 24 (plCs bE))
    (hal : Below w5.heap.size w5 (w5.drew.alloc (.cells (exSx.cs 0 0) 45))) (ho : OwnG layS 45 (bE + 4) (w5.drew.alloc (.cells (exSx.cs 0 0) 45)) (some ⟨bE + 4, 0, none⟩) 1 1 [plSx bE 167772170])
    (happ : AppG layS 45 (bE + 4) (w5.drew.alloc (.cells (exSx.cs 0 0) 45)) (some ⟨bE + 4, 0, none⟩) 1 1 1 ([plSx bE 167772170] ++ [exSx]) A6 c6 w6) :
    KnW (w6.setCell ⟨bE + 5, 0, none⟩ (.slice A6 2 c6)) bC bD bE g A6 c6 ∧ Below (bE + 4) w5 (w6.setCell ⟨bE + 5, 0, none⟩ (.slice A6 2 c6)) := by
  have hlow : Below (bE + 4) w5 w6 := (hal.mono (by omega)).trans happ.2.1
  have hgr := happ.2.2.1
  have hz : (w5.drew.alloc (.cells (exSx.cs 0 0) 45)).heap.size = w5.heap.size + 1 := by simp
  have hs6 : w5.heap.size + 1 ≤ w6.heap.size := by rw [← hz]; exact happ.2.1.size
  have hn6 := (hpe.n.below hal (by omega)).grown hgr ((hpe.n.below hal (by omega)).not_row ho.1 (by decide))
  have hcc6 := (hcc.below hal (by omega)).grown hgr ((hcc.below hal (by omega)).not_row ho.1 (by decide))
  have hcd6 := (hcd.below hal (by omega)).grown hgr ((hcd.below hal (by omega)).not_row ho.1 (by decide))
  have hce6 := (hce.below hal (by omega)).grown hgr ((hce.below hal (by omega)).not_row ho.1 (by decide))
  have hrow : OwnG layS 45 (bE + 4) (w6.setCell ⟨bE + 5, 0, none⟩ (.slice A6 2 c6)) A6 2 c6 ([plSx bE 167772170] ++ [exSx]) := by
    refine ⟨World.ownsRow.kept happ.1.1 (grownSet w6 (bE + 5) 0 _) ?_, happ.1.2⟩
    rcases happ.2.2.2 with e | e
    · rw [e]
      refine .inr fun k => ?_
      simp [Value.ownBlock] at k
    · rw [e, hz]
      refine .inr fun k => ?_
      injection k with k
      omega
  have hz7 : (w6.setCell ⟨bE + 5, 0, none⟩ (.slice A6 2 c6)).heap.size = w6.heap.size := by simp
  have hp7 := celFar1 (hpe.p.below hlow (by omega)) 0 (.slice A6 2 c6) (show bE + 1 ≠ bE + 5 by omega)
  have hr7 := celFar1 (hpe.r.below hlow (by omega)) 0 (.slice A6 2 c6) (show bE + 2 ≠ bE + 5 by omega)
  refine ⟨⟨(hpc.below hlow (by omega)).far 0 _ (by omega), (hpd.below hlow (by omega)).far 0 _ (by omega), ?_, celFar1 hcc6 0 _ (by omega), celFar1 hcd6 0 _ (by omega), celFar1 hce6 0 _ (by omega), by rw [hz7]; omega, by rw [hz7]; omega⟩, hlow.setCell (p := ⟨bE + 5, 0, none⟩) (show bE + 4 ≤ bE + 5 by omega) _⟩
  refine ⟨cel_row (Y := layN) [⟨A6, c6, [plSx bE 167772170, exSx]⟩] (celPut1 hn6 0 (.slice A6 2 c6)) (by rw [hz7]; omega) (show 1 ≤ 1 from Nat.le_refl _) (show 1 ≤ 1000000 by omega), fun y hy => ?_⟩
  simp only [exCx, List.mem_cons, List.not_mem_nil, or_false] at hy
  subst hy
  refine ⟨hrow.rd, fun x hx => ?_⟩
  simp only [List.mem_cons, List.not_mem_nil, or_false] at hx
  rcases hx with rfl | rfl
  · refine ⟨cel_row (Y := layP) [⟨167772170, 167772180⟩] hp7 (by rw [hz7]; omega) (show 1 ≤ 1 from Nat.le_refl _) (show 1 ≤ 1000000 by omega), cel_row (Y := layR) [⟨i01, 167772165⟩] hr7 (by rw [hz7]; omega) (show 1 ≤ 1 from Nat.le_refl _) (show 1 ≤ 1000000 by omega), fun r hr => ?_⟩
    simp only [plSx, List.mem_cons, List.not_mem_nil, or_false] at hr
    subst hr
    show (3 : Nat) ≤ 9223372036854775807
    omega
  · exact ⟨RdG.nil _ _, RdG.nil _ _, fun r hr => by cases hr⟩
theorem kn_cells {W : World} {bC bD bE g : Nat} {A : Option Addr} {c : Nat} (h : KnW W bC bD bE g A c) :
    (W.cell? ⟨g, 0, none⟩ = some (.int .i64 167772161) ∧ W.cell? ⟨g, 1, none⟩ = some (.int .i64 300) ∧ W.cell? ⟨g, 2, none⟩ = some (.slice (some ⟨bC + 5, 0, none⟩) 1 1)) ∧
    (W.cell? ⟨g + 1, 0, none⟩ = some (.int .i64 167772161) ∧ W.cell? ⟨g + 1, 1, none⟩ = some (.int .i64 300) ∧ W.cell? ⟨g + 1, 2, none⟩ = some (.slice (some ⟨bD + 5, 0, none⟩) 1 1)) ∧
    (W.cell? ⟨g + 1 + 1, 0, none⟩ = some (.int .i64 167772161) ∧ W.cell? ⟨g + 1 + 1, 1, none⟩ = some (.int .i64 300) ∧ W.cell? ⟨g + 1 + 1, 2, none⟩ = some (.slice (some ⟨bE + 5, 0, none⟩) 1 1)) := ⟨celC h.cc, celC h.cd, celC h.ce⟩
set_option maxHeartbeats 16000000 in
theorem knows_yes (w : World) : Calls Try.prog 9 #[] w (isTrue w) := by
  have HP := Lib.hid plain_any
  go_enter Try.func9, Try.ntmps9
  go_wp2_with fail
  refine (HP.out w).mono ?_
  rintro e w1 ⟨rfl, hp1, hb1, hs1⟩
  have HP1 := Lib.hid hp1
  have HB1 := Lib.hid hb1
  have HS1 := Lib.hid hs1
  clear hp1 hb1 hs1
  go_wp2_with fail
  refine (HP.out w1).mono ?_
  rintro e w2 ⟨rfl, hp2, hb2, hs2⟩
  have HP2 := Lib.hid hp2
  have HB2 := Lib.hid hb2
  have HS2 := Lib.hid hs2
  clear hp2 hb2 hs2
  go_wp2_with fail
  refine (HP.out w2).mono ?_
  rintro e w3 ⟨rfl, hp3, hb3, hs3⟩
  obtain ⟨w4, hw4, hcc, hcd, hce, hb4, hs4⟩ := chain3 w3 (plCs w.heap.size) (plCs w1.heap.size) (plCs w2.heap.size) 24 24 24
  have es1 := HS1.out
  have es2 := HS2.out
  have hPC := (((HP1.out.below HB2.out (by omega)).below hb3 (by omega)).below hb4 (by omega))
  have hPD := ((HP2.out.below hb3 (by omega)).below hb4 (by omega))
  have hPE := hp3.below hb4 (by omega)
  have HBB := Lib.hid (((HB1.out.trans (HB2.out.mono (by omega))).trans (hb3.mono (by omega))).trans (hb4.mono (by omega)))
  have HS3 := Lib.hid hs3
  have HS4 := Lib.hid hs4
  have HPC := Lib.hid hPC
  have HPD := Lib.hid hPD
  have HPE := Lib.hid hPE
  have HCC := Lib.hid hcc
  have HCD := Lib.hid hcd
  have HCE := Lib.hid hce
  clear hp3 hb3 hs3 hb4 hs4 hPC hPD hPE hcc hcd hce HP1 HP2 HB1 HB2 es1 es2
  go_upto_region 2 with fail
  rw [← hw4]
  clear hw4
  obtain ⟨x0, x1, x2⟩ := celC HCD.out
  have y0 : w4.cell? ⟨w1.heap.size + 5, 0, none⟩ = some (.slice (some ⟨w1.heap.size + 4, 0, none⟩) 1 1) := by rw [HPD.out.n.cell]; rfl
  have y1 : w4.cell? ⟨w1.heap.size + 4, 2, none⟩ = some (.slice (some ⟨w1.heap.size + 1, 0, none⟩) 1 1) := by rw [HPD.out.s.cell]; rfl
  have y2 : w4.cell? ⟨w1.heap.size + 1, 0, none⟩ = some (.int .i64 167772170) := by rw [HPD.out.p.cell]; rfl
  have y3 := celFr1 HPD.out.p 0
  obtain ⟨w5, hw5⟩ : ∃ w5, w5 = w4.setCell ⟨w1.heap.size + 1, 0, none⟩ (.int .i64 167772161) := ⟨_, rfl⟩
  have es1 := HS1.out
  have es2 := HS2.out
  have es3 := HS3.out
  have es4 := HS4.out
  have es5 : w5.heap.size = w3.heap.size + 3 := by rw [hw5, ← es4]; simp
  have HB5 : Hid (Below w.heap.size w w5) := by rw [hw5]; exact HBB.out.setCell (p := ⟨w1.heap.size + 1, 0, none⟩) (show w.heap.size ≤ w1.heap.size + 1 by omega) _
  have HPC5 : Hid (PlA w5 w.heap.size 167772170) := by rw [hw5]; exact HPC.out.far 0 _ (by omega)
  have HPD5 : Hid (PlA w5 w1.heap.size 167772161) := by rw [hw5]; exact HPD.out.put _
  have HPE5 : Hid (PlA w5 w2.heap.size 167772170) := by rw [hw5]; exact HPE.out.far 0 _ (by omega)
  have HCC5 : Hid (Cel w5 w3.heap.size 24 (plCs w.heap.size)) := by rw [hw5]; exact celFar1 HCC.out 0 _ (by omega)
  have HCD5 : Hid (Cel w5 (w3.heap.size + 1) 24 (plCs w1.heap.size)) := by rw [hw5]; exact celFar1 HCD.out 0 _ (by omega)
  have HCE5 : Hid (Cel w5 (w3.heap.size + 1 + 1) 24 (plCs w2.heap.size)) := by rw [hw5]; exact celFar1 HCE.out 0 _ (by omega)
  have HS5 := Lib.hid es5
  clear HPC HPD HPE HCC HCD HCE HBB es1 es2 es3 es4 es5
  go_upto_region 3 with fail
  rw [← hw5]
  clear hw5 x0 x1 x2 y0 y1 y2 y3
  have es1 := HS1.out
  have es2 := HS2.out
  have es3 := HS3.out
  have es5 := HS5.out
  have HO1 := Lib.hid (celOwnS (B := w2.heap.size + 4) HPE5.out (Nat.le_refl _))
  have hal : Below w5.heap.size w5 (w5.drew.alloc (.cells (exSx.cs 0 0) 45)) := (Below.refl _ _).drew.alloc (Nat.le_refl _) _
  have HO2 := Lib.hid (HO1.out.below hal)
  have hlit := litSx w5.drew exSx (pn := 0) (rn := 0) rfl rfl
  have HE2 := Lib.hid (HCE5.out.below hal (by omega))
  have HN2 := Lib.hid (HPE5.out.n.below hal (by omega))
  have HAL := Lib.hid hal
  obtain ⟨x0, x1, x2⟩ := celC HCE5.out
  have n0 : w5.cell? ⟨w2.heap.size + 5, 0, none⟩ = some (.slice (some ⟨w2.heap.size + 4, 0, none⟩) 1 1) := by rw [HPE5.out.n.cell]; rfl
  have fo := celFr1 HPE5.out.n 0
  have xa : (w5.alloc (.cells #[.int .i64 167772288, .int .i64 25, .slice none 0 0, .slice none 0 0, .int .i64 0, .int .i64 0, .int .i64 1] 45)).cell? ⟨w3.heap.size + 1 + 1, 2, none⟩ = some (.slice (some ⟨w2.heap.size + 5, 0, none⟩) 1 1) := ((alloc_more w5 _).cell (p := ⟨w3.heap.size + 1 + 1, 2, none⟩) (by rw [HS5.out]; exact Nat.lt_succ_self _)).trans x2
  have na : (w5.alloc (.cells #[.int .i64 167772288, .int .i64 25, .slice none 0 0, .slice none 0 0, .int .i64 0, .int .i64 0, .int .i64 1] 45)).cell? ⟨w2.heap.size + 5, 0, none⟩ = some (.slice (some ⟨w2.heap.size + 4, 0, none⟩) 1 1) := ((alloc_more w5 _).cell (p := ⟨w2.heap.size + 5, 0, none⟩) (show w2.heap.size + 5 < w5.heap.size by omega)).trans n0
  clear hal es1 es2 es3 es5
  go_region_law (first
      | (refine step_appG snP (by decide) (by decide) (by kernel_rfl) (by rfl) (.tmp 30) (.tmp 32) (by rfl) (by rfl) HO2.out (by rfl) hlit (by omega) (by have := HS2.out; have := HS3.out; have := HS5.out; simp; omega) ?_; intro A6 c6 w6 happ; have hcw := HE2.out.grown happ.2.2.1 (HE2.out.not_row HO2.out.1 (by decide)); have hnw := HN2.out.grown happ.2.2.1 (HN2.out.not_row HO2.out.1 (by decide)); obtain ⟨u0, u1, u2⟩ := celC hcw; have v0 : w6.cell? ⟨w2.heap.size + 5, 0, none⟩ = some (.slice (some ⟨w2.heap.size + 4, 0, none⟩) 1 1) := (by rw [hnw.cell]; rfl); have fe := celFr1 hnw 0))
  all_goals (
    have hkn := kn_made HS1.out HS2.out HS3.out HS5.out HPC5.out HPD5.out HPE5.out HCC5.out HCD5.out HCE5.out HAL.out HO2.out happ
    obtain ⟨w7, hw7⟩ : ∃ w7, w7 = w6.setCell ⟨w2.heap.size + 5, 0, none⟩ (.slice A6 2 c6) := ⟨_, rfl⟩
    rw [← hw7] at hkn
    have K0 := Lib.hid hkn.1
    have BB0 := Lib.hid (HB5.out.trans (hkn.2.mono (by have := HS1.out; have := HS2.out; omega)))
    clear hkn
    go_upto_region 4 with fail
    rw [← hw7]
    clear hw7 happ hcw hnw u0 u1 u2 v0 fe x0 x1 x2 n0 fo xa na hlit HO1 HO2 HE2 HN2 HAL HPC5 HPD5 HPE5 HCC5 HCD5 HCE5 HB5 HS1 HS2 HS3 HS4 HS5
    obtain ⟨⟨x0, x1, x2⟩, ⟨y0, y1, y2⟩, ⟨z0, z1, z2⟩⟩ := kn_cells K0.out
    go_wp2_with fail
    refine (plX_find (K0.out.pc.ok K0.out.lc) (Nat.le_refl _)).mono ?_
    rintro e wz ⟨rfl, hbz⟩
    have BB1 := Lib.hid (BB0.out.trans (hbz.mono BB0.out.size))
    have K1 := Lib.hid (K0.out.below hbz)
    clear x0 x1 x2 y0 y1 y2 z0 z1 z2 hbz
    obtain ⟨⟨x0, x1, x2⟩, ⟨y0, y1, y2⟩, ⟨z0, z1, z2⟩⟩ := kn_cells K1.out
    go_wp2_with fail
    refine (plX_keeper (K1.out.pc.ok K1.out.lc) (Nat.le_refl _)).mono ?_
    rintro e wz ⟨rfl, hbz⟩
    have BB2 := Lib.hid (BB1.out.trans (hbz.mono BB1.out.size))
    have K2 := Lib.hid (K1.out.below hbz)
    clear x0 x1 x2 y0 y1 y2 z0 z1 z2 hbz
    obtain ⟨⟨x0, x1, x2⟩, ⟨y0, y1, y2⟩, ⟨z0, z1, z2⟩⟩ := kn_cells K2.out
    go_wp2_with fail
    refine (plX_kept (K2.out.pc.ok K2.out.lc) (Nat.le_refl _)).mono ?_
    rintro e wz ⟨rfl, hbz⟩
    have BB3 := Lib.hid (BB2.out.trans (hbz.mono BB2.out.size))
    have K3 := Lib.hid (K2.out.below hbz)
    clear x0 x1 x2 y0 y1 y2 z0 z1 z2 hbz
    obtain ⟨⟨x0, x1, x2⟩, ⟨y0, y1, y2⟩, ⟨z0, z1, z2⟩⟩ := kn_cells K3.out
    go_wp2_with fail
    refine (plX_ok (K3.out.pc.ok K3.out.lc) (Nat.le_refl _) ex_ok).mono ?_
    rintro e wz ⟨rfl, hbz⟩
    have BB4 := Lib.hid (BB3.out.trans (hbz.mono BB3.out.size))
    have K4 := Lib.hid (K3.out.below hbz)
    clear x0 x1 x2 y0 y1 y2 z0 z1 z2 hbz
    obtain ⟨⟨x0, x1, x2⟩, ⟨y0, y1, y2⟩, ⟨z0, z1, z2⟩⟩ := kn_cells K4.out
    go_wp2_with fail
    refine (plX_ok (K4.out.pd.ok K4.out.ld) (Nat.le_refl _) ex_out).mono ?_
    rintro e wz ⟨rfl, hbz⟩
    have BB5 := Lib.hid (BB4.out.trans (hbz.mono BB4.out.size))
    have K5 := Lib.hid (K4.out.below hbz)
    clear x0 x1 x2 y0 y1 y2 z0 z1 z2 hbz
    obtain ⟨⟨x0, x1, x2⟩, ⟨y0, y1, y2⟩, ⟨z0, z1, z2⟩⟩ := kn_cells K5.out
    go_wp2_with fail
    refine (exX_ok K5.out.pe (Nat.le_refl _)).mono ?_
    rintro e wz ⟨rfl, hbz⟩
    have BB6 := Lib.hid (BB5.out.trans (hbz.mono BB5.out.size))
    have K6 := Lib.hid (K5.out.below hbz)
    clear x0 x1 x2 y0 y1 y2 z0 z1 z2 hbz
    obtain ⟨⟨x0, x1, x2⟩, ⟨y0, y1, y2⟩, ⟨z0, z1, z2⟩⟩ := kn_cells K6.out
    go_wp2_with fail
    refine (plX_in (K6.out.pc.ok K6.out.lc) (Nat.le_refl _) ex_in).mono ?_
    rintro e wz ⟨rfl, hbz⟩
    have BB7 := Lib.hid (BB6.out.trans (hbz.mono BB6.out.size))
    have K7 := Lib.hid (K6.out.below hbz)
    clear x0 x1 x2 y0 y1 y2 z0 z1 z2 hbz
    obtain ⟨⟨x0, x1, x2⟩, ⟨y0, y1, y2⟩, ⟨z0, z1, z2⟩⟩ := kn_cells K7.out
    go_wp2_with fail
    refine (plX_in (K7.out.pc.ok K7.out.lc) (Nat.le_refl _) ex_no).mono ?_
    rintro e wz ⟨rfl, hbz⟩
    have BB8 := Lib.hid (BB7.out.trans (hbz.mono BB7.out.size))
    have K8 := Lib.hid (K7.out.below hbz)
    clear x0 x1 x2 y0 y1 y2 z0 z1 z2 hbz
    obtain ⟨⟨x0, x1, x2⟩, ⟨y0, y1, y2⟩, ⟨z0, z1, z2⟩⟩ := kn_cells K8.out
    go_wp2
    go_ret
    exact ⟨rfl, BB8.out⟩)
end Go.Proofs.Ytoilljilndmmfaa.Vw
