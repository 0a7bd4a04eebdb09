/- What reply's Make comes to. Conditions: the configuration and the message read and are small. -/
import Derived.Test.YtoldppbakapohaaGreatDoorRpA
set_option maxRecDepth 8000
namespace Go.Proofs.YtoldppbakapohaaGreatDoor.Rpw
open Go.RowKit Tl Co Ms Cf Ad By Ow Rp
open Pw (alloc_more celM_all boxM)
open Vw (Cx Sx isI cel3C cel7)
open Mw (set13 cels13)

/-- The cells v0 to v12 stored to the block g. -/
@[reducible] def P13 (w : World) (g : Nat) (v0 v1 v2 v3 v4 v5 v6 v7 v8 v9 v10 v11 v12 : Value) : World := ((((((((((((w.setCell ⟨g, 0, none⟩ v0).setCell ⟨g, 1, none⟩ v1).setCell ⟨g, 2, none⟩ v2).setCell ⟨g, 3, none⟩ v3).setCell ⟨g, 4, none⟩ v4).setCell ⟨g, 5, none⟩ v5).setCell ⟨g, 6, none⟩ v6).setCell ⟨g, 7, none⟩ v7).setCell ⟨g, 8, none⟩ v8).setCell ⟨g, 9, none⟩ v9).setCell ⟨g, 10, none⟩ v10).setCell ⟨g, 11, none⟩ v11).setCell ⟨g, 12, none⟩ v12
@[reducible] def zc13 : Array Value := #[.int .i64 0, .int .i64 0, .int .i64 0, .int .i64 0, .int .i64 0, .int .i64 0, .int .i64 0, .int .i64 0, .int .i64 0, .int .i64 0, .int .i64 0, .slice none 0 0, .slice none 0 0]
theorem below13 {B : Nat} {v w : World} (h : Below B v w) {g : Nat} (hg : B ≤ g) (v0 v1 v2 v3 v4 v5 v6 v7 v8 v9 v10 v11 v12 : Value) : Below B v (P13 w g v0 v1 v2 v3 v4 v5 v6 v7 v8 v9 v10 v11 v12) :=
  ((((((((((((h.setCell (p := ⟨g, 0, none⟩) hg _).setCell (p := ⟨g, 1, none⟩) hg _).setCell (p := ⟨g, 2, none⟩) hg _).setCell (p := ⟨g, 3, none⟩) hg _).setCell (p := ⟨g, 4, none⟩) hg _).setCell (p := ⟨g, 5, none⟩) hg _).setCell (p := ⟨g, 6, none⟩) hg _).setCell (p := ⟨g, 7, none⟩) hg _).setCell (p := ⟨g, 8, none⟩) hg _).setCell (p := ⟨g, 9, none⟩) hg _).setCell (p := ⟨g, 10, none⟩) hg _).setCell (p := ⟨g, 11, none⟩) hg _).setCell (p := ⟨g, 12, none⟩) hg _
theorem row_off {e t g B k n : Nat} {w w' : World} {v : Value} {xs : List Value} {cs : Array Value} (hc : Cel w g t cs) (hne : e ≠ t) (h : w.ownsRow B e k v n xs) (hg : w.grownBy w' (some g)) : w'.ownsRow B e k v n xs := by
  refine World.ownsRow.kept h hg ?_
  rcases h.2 with ⟨e1, _⟩ | ⟨g', cap, cur, e1, _, hg', _⟩
  · rw [e1]; exact .inl rfl
  · rw [e1]
    refine .inr fun k2 => ?_
    simp only [Value.ownBlock, Option.some.injEq] at k2
    subst k2
    unfold Cel at hc
    rw [hc] at hg'
    injection hg' with hg'
    injection hg' with _ ht
    exact hne ht.symm
theorem own_off {e t g B n c : Nat} {w w' : World} {A : Option Addr} {l : List UInt8} {cs : Array Value} (hc : Cel w g t cs) (hne : e ≠ t) (h : Own e B w A n c l) (hg : w.grownBy w' (some g)) : Own e B w' A n c l := row_off hc hne h hg
theorem ownF_off {t g B n c : Nat} {w w' : World} {A : Option Addr} {ps : List Po} {cs : Array Value} (hc : Cel w g t cs) (h1 : 74 ≠ t) (h2 : 5 ≠ t) (h : OwnF B w A n c ps) (hg : w.grownBy w' (some g)) : OwnF B w' A n c ps := ⟨row_off hc h1 h.1 hg, fun p hp => own_off hc h2 (h.2 p hp) hg⟩
theorem grown13 (w : World) (g : Nat) (v0 v1 v2 v3 v4 v5 v6 v7 v8 v9 v10 v11 v12 : Value) : w.grownBy (P13 w g v0 v1 v2 v3 v4 v5 v6 v7 v8 v9 v10 v11 v12) (some g) :=
  Ow.grown_trans (Ow.grown_trans (Ow.grown_trans (Ow.grown_trans (Ow.grown_trans (Ow.grown_trans (Ow.grown_trans (Ow.grown_trans (Ow.grown_trans (Ow.grown_trans (Ow.grown_trans (Ow.grown_trans (Ow.grown_set w g 0 v0) (Ow.grown_set _ g 1 _)) (Ow.grown_set _ g 2 _)) (Ow.grown_set _ g 3 _)) (Ow.grown_set _ g 4 _)) (Ow.grown_set _ g 5 _)) (Ow.grown_set _ g 6 _)) (Ow.grown_set _ g 7 _)) (Ow.grown_set _ g 8 _)) (Ow.grown_set _ g 9 _)) (Ow.grown_set _ g 10 _)) (Ow.grown_set _ g 11 _)) (Ow.grown_set _ g 12 _)
theorem celZ13 {w : World} {g : Nat} {t : TypeId} (h : Cel w g t zc13) (v0 v1 v2 v3 v4 v5 v6 v7 v8 v9 v10 v11 v12 : Value) : Cel (P13 w g v0 v1 v2 v3 v4 v5 v6 v7 v8 v9 v10 v11 v12) g t #[v0, v1, v2, v3, v4, v5, v6, v7, v8, v9, v10, v11, v12] :=
  set13 _ _ _ _ _ _ _ _ _ _ _ _ _ v0 v1 v2 v3 v4 v5 v6 v7 v8 v9 v10 v11 v12 h
theorem ret_msg2 {fn : Func} {p u : Tmp} (hres : fn.results = #[.cell p 29, .tmp u]) (tmps : Array Value) (w : World) (g : Nat) (cs : Array Value) (hp : tmps.getD p undef = .pointer (some ⟨g, 0, none⟩)) (hc : Cel w g 29 cs) (hs : cs.size = 13) :
    (results fn tmps).run Tryz.prog w = .ok (.tuple #[.agg cs, tmps.getD u undef]) w := by
  rw [results_cell_tmp hres, hp]
  have := run_loadVar_row (P := Tryz.prog) w g 29 29 cs (0, 0) _ hc Tryz.underlying29 rfl (by rw [hs]; kernel_rfl)
  simp [asAddr, this]
/-- The reply as it lies in memory. -/
@[reducible] def rV (x : Mv) (kind ci yi : Int) (A : Option Addr) (c : Nat) (B : Option Addr) (m d : Nat) (qs : List Po) : Mv := ⟨2, x.htype, x.hlen, 0, x.xid, 0, flagsR x.mm kind, ci, yi, 0, x.gi, A, x.n, c, x.ch, B, m, d, qs⟩
/-- The message's bytes and options lie in memory from B on. -/
def Mo (B : Nat) (w : World) (y : Mv) : Prop := Own 5 B w y.A y.n y.c y.ch ∧ OwnF B w y.B y.m y.d y.ps
theorem Mo.ok {B : Nat} {w : World} {y : Mv} (h : Mo B w y) : y.ok w := ⟨h.1.bs, h.2.rd⟩
theorem Mo.mono {B B' : Nat} {w : World} {y : Mv} (h : Mo B w y) (hB : B' ≤ B) : Mo B' w y := ⟨h.1.mono hB, h.2.mono hB⟩
theorem Mo.below {B : Nat} {w w' : World} {y : Mv} (h : Mo B w y) (hb : Below w.heap.size w w') : Mo B w' y := ⟨h.1.below hb, h.2.below hb⟩
def MkR (c : Cf) (net sub : Int) (x : Mv) (kind yi : Int) (w : World) (e : Ending) (w' : World) : Prop := Below w.heap.size w w' ∧
  ((fairR c net sub x.mm kind yi = true ∧ ∃ y : Mv, e = .returned (.tuple #[y.v, .int .i64 0]) ∧ Mo w.heap.size w' y ∧ y.mm = makeR c.server (subAt c net sub) x.mm kind yi) ∨
    (fairR c net sub x.mm kind yi = false ∧ e = .returned (.tuple #[zeroV.v, .int .i64 1])))
theorem rp_S {W : World} {gc gm gs : Nat} {c : Cx} {x : Mv} {s : Sx} {pn rn : Nat} (h1 : Cel W gc 24 c.cs) (h2 : Cel W gm 29 x.cells) (h3 : Cel W gs 115 (s.cs pn rn)) : (W.cell? ⟨gc, 0, none⟩ = some (.int .i64 c.server) ∧ W.cell? ⟨gc, 1, none⟩ = some (.int .i64 c.prob) ∧ W.cell? ⟨gc, 2, none⟩ = some (.slice c.A c.n c.c)) ∧ ((W.cell? ⟨gm, 0, none⟩ = some (.int .i64 x.op) ∧ W.cell? ⟨gm, 1, none⟩ = some (.int .i64 x.htype) ∧ W.cell? ⟨gm, 2, none⟩ = some (.int .i64 x.hlen) ∧ W.cell? ⟨gm, 3, none⟩ = some (.int .i64 x.hops) ∧ W.cell? ⟨gm, 4, none⟩ = some (.int .i64 x.xid) ∧ W.cell? ⟨gm, 5, none⟩ = some (.int .i64 x.secs) ∧ W.cell? ⟨gm, 6, none⟩ = some (.int .i64 x.flags)) ∧ W.cell? ⟨gm, 7, none⟩ = some (.int .i64 x.ci) ∧ W.cell? ⟨gm, 8, none⟩ = some (.int .i64 x.yi) ∧ W.cell? ⟨gm, 9, none⟩ = some (.int .i64 x.si) ∧ W.cell? ⟨gm, 10, none⟩ = some (.int .i64 x.gi) ∧ W.cell? ⟨gm, 11, none⟩ = some (.slice x.A x.n x.c) ∧ W.cell? ⟨gm, 12, none⟩ = some (.slice x.B x.m x.d)) ∧ (W.cell? ⟨gs, 0, none⟩ = some (.int .i64 s.base) ∧ W.cell? ⟨gs, 1, none⟩ = some (.int .i64 s.bits) ∧ W.cell? ⟨gs, 2, none⟩ = some (.slice s.pA pn s.pc) ∧ W.cell? ⟨gs, 3, none⟩ = some (.slice s.rA rn s.rc) ∧ W.cell? ⟨gs, 4, none⟩ = some (.int .i64 s.iface) ∧ W.cell? ⟨gs, 5, none⟩ = some (.int .i64 s.router) ∧ W.cell? ⟨gs, 6, none⟩ = some (.int .i64 s.time)) := ⟨cel3C h1, celM_all h2, cel7 h3⟩
theorem boxK3 (w : World) (c : Cx) (x : Mv) : ∃ w3, w3 = ((w.alloc (.cells c.cs 24)).alloc (.cells x.cells 29)).alloc (.cells zc13 29) ∧
    Cel w3 w.heap.size 24 c.cs ∧ Cel w3 (w.heap.size + 1) 29 x.cells ∧ Cel w3 (w.heap.size + 2) 29 zc13 ∧ Below w.heap.size w w3 ∧ w3.heap.size = w.heap.size + 3 := by
  have ca := Cel.born w 24 c.cs
  have ba := alloc_more w (.cells c.cs 24)
  have sa : (w.alloc (.cells c.cs 24)).heap.size = w.heap.size + 1 := by simp
  refine ⟨_, rfl, ?_⟩
  generalize w.alloc (.cells c.cs 24) = wa at ca ba sa
  have cb := Cel.born wa 29 x.cells
  have bb := alloc_more wa (.cells x.cells 29)
  have sb : (wa.alloc (.cells x.cells 29)).heap.size = w.heap.size + 2 := by simp; omega
  generalize wa.alloc (.cells x.cells 29) = wb at cb bb sb
  have cc := Cel.born wb 29 zc13
  have bc := alloc_more wb (.cells zc13 29)
  have sc : (wb.alloc (.cells zc13 29)).heap.size = w.heap.size + 3 := by simp; omega
  rw [sa] at cb
  rw [sb] at cc
  exact ⟨(ca.below bb ca.lt).below bc (by omega), cb.below bc cb.lt, cc, (ba.trans (bb.mono ba.size)).trans (bc.mono (by omega)), sc⟩

set_option maxHeartbeats 16000000 in
theorem make_any (c : Cx) (net sub : Int) (x : Mv) (kind yi : Int) (U : Nat) (w : World) (hc : c.ok U w) (hU : U ≤ w.heap.size) (hS : Small c.cf) (hx : x.ok w) (hsm : ∀ p ∈ x.ps, p.l.length ≤ 1000) :
    Calls Tryz.prog 202 #[c.v, .int .i64 net, .int .i64 sub, x.v, .int .i64 kind, .int .i64 yi] w (MkR c.cf net sub x kind yi w) := by
  obtain ⟨w0, hw0, hc0, hm0, hz0, hb0, hs0⟩ := boxK3 w c x
  have HSB := Lib.hid (subnet_any c net sub U w0 (hc.below (hb0.mono hU)) (Nat.le_trans hU hb0.size) hS)
  have HX := Lib.hid (fun W (hW : Below w.heap.size w W) => hx.below hW)
  have HRI := Lib.hid (fun W (hW : Below w.heap.size w W) => Mw.right_any x W (hx.below hW))
  have HRE := Lib.hid (replies_any kind)
  have HAR := Lib.hid (Aw.right_any yi)
  have HSM := Lib.hid hsm
  have HFA := Lib.hid (fair_sub c.cf net sub x.mm kind yi)
  have HC0 := Lib.hid hc0
  have HM0 := Lib.hid hm0
  have HZ0 := Lib.hid hz0
  have HB0 := Lib.hid hb0
  have HS0 := Lib.hid hs0
  have HSR := Lib.hid (fun h : subB c.cf net sub = true => sub_mem h)
  have HCK := Lib.hid (fun h : subB c.cf net sub = true => (subB_iff.1 h).1)
  obtain ⟨⟨m0, m1, m2, m3, m4, m5, m6⟩, m7, m8, m9, m10, m11, m12⟩ := celM_all hm0
  obtain ⟨c0, c1, c2⟩ := cel3C hc0
  clear hc hU hS hx hsm hc0 hm0 hz0 hb0 hs0
  go_enter Tryz.func202, Tryz.ntmps202
  go_upto_region 1 with fail
  rw [← hw0]
  clear hw0
  go_wp2_with fail
  refine HSB.out.mono ?_
  rintro e w1 ⟨hb1, hJ⟩
  have HB1 := Lib.hid (HB0.out.trans (hb1.mono HB0.out.size))
  have HC1 := Lib.hid (HC0.out.below hb1 HC0.out.lt)
  have HM1 := Lib.hid (HM0.out.below hb1 HM0.out.lt)
  have HZ1 := Lib.hid (HZ0.out.below hb1 HZ0.out.lt)
  have HS1 : Hid (w.heap.size + 3 ≤ w1.heap.size) := by have e1 := hb1.size; have e2 := HS0.out; show _ ≤ _; omega
  clear hb1 m0 m1 m2 m3 m4 m5 m6 m7 m8 m9 m10 m11 m12 c0 c1 c2 HSB HC0 HM0 HZ0
  rcases hJ with ⟨hsub, s, pn, rn, rfl, hss⟩ | ⟨hsub, rfl⟩
  rotate_left
  · have HSU := Lib.hid hsub
    clear hsub
    obtain ⟨w2, hw2⟩ : ∃ w2, w2 = w1.alloc (.cells zcs 115) := ⟨_, rfl⟩
    have HB2 : Hid (Below w.heap.size w w2) := by show Below _ _ _; rw [hw2]; exact HB1.out.alloc HB1.out.size _
    have HC2 := Lib.hid (show Cel w2 w.heap.size 24 c.cs by rw [hw2]; exact HC1.out.below (alloc_more _ _) HC1.out.lt)
    have HM2 := Lib.hid (show Cel w2 (w.heap.size + 1) 29 x.cells by rw [hw2]; exact HM1.out.below (alloc_more _ _) HM1.out.lt)
    have HZ2 := Lib.hid (show Cel w2 (w.heap.size + 2) 29 zc13 by rw [hw2]; exact HZ1.out.below (alloc_more _ _) HZ1.out.lt)
    have HG2 := Lib.hid (show Cel w2 w1.heap.size 115 zcs by rw [hw2]; exact Cel.born _ _ _)
    go_upto_region 2 with fail
    rw [← hw2]
    clear hw2
    obtain ⟨z0, z1, z2, z3, z4, z5, z6, z7, z8, z9, z10, z11, z12, zf⟩ := cels13 (HZ2.out)
    go_wp2
    (try simp only [Exit.inBlock, Exit.then])
    refine bodyPost_ret (ret_msg2 rfl _ _ (w.heap.size + 2) zc13 rfl (celZ13 (HZ2.out) _ _ _ _ _ _ _ _ _ _ _ _ _) rfl) rfl ?_
    exact ⟨below13 HB2.out (by omega) _ _ _ _ _ _ _ _ _ _ _ _ _, .inr ⟨by rw [HFA.out, HSU.out]; simp, rfl⟩⟩
  · have HSU := Lib.hid hsub
    have HSS := Lib.hid hss
    clear hsub hss
    obtain ⟨w2, hw2⟩ : ∃ w2, w2 = w1.alloc (.cells (s.cs pn rn) 115) := ⟨_, rfl⟩
    have HB2 : Hid (Below w.heap.size w w2) := by show Below _ _ _; rw [hw2]; exact HB1.out.alloc HB1.out.size _
    have HC2 := Lib.hid (show Cel w2 w.heap.size 24 c.cs by rw [hw2]; exact HC1.out.below (alloc_more _ _) HC1.out.lt)
    have HM2 := Lib.hid (show Cel w2 (w.heap.size + 1) 29 x.cells by rw [hw2]; exact HM1.out.below (alloc_more _ _) HM1.out.lt)
    have HZ2 := Lib.hid (show Cel w2 (w.heap.size + 2) 29 zc13 by rw [hw2]; exact HZ1.out.below (alloc_more _ _) HZ1.out.lt)
    have HG2 := Lib.hid (show Cel w2 w1.heap.size 115 (s.cs pn rn) by rw [hw2]; exact Cel.born _ _ _)
    go_upto_region 2 with fail
    rw [← hw2]
    clear hw2
    obtain ⟨nn, hnn, hsn⟩ := HSR.out HSU.out
    obtain ⟨q1, q2, q3⟩ := sub_of (HCK.out HSU.out) hnn hsn
    rw [← HSS.out] at q2 q3
    have t1 : rightB c.server = true := q1
    have t2 : rightB s.time = true := time_of q2
    have t3 : rightB (4294967296 - sz s.bits) = true := mask_of q2
    have t4 : bitsB s.bits = true := by
      simp only [snF, Bool.and_eq_true, decide_eq_true_eq] at q2
      exact bitsB_iff.2 ⟨by have := q2.1.1.1.1.1.1.2; show (0 : Int) ≤ s.bits; have e : s.s.bits = s.bits := rfl; omega, by have := q2.1.1.1.1.1.1.2; show s.bits ≤ 32; have e : s.s.bits = s.bits := rfl; omega⟩
    have t5 : rightB s.router = true := router_of q3
    have T1 := Lib.hid t1
    have T2 := Lib.hid t2
    have T3 := Lib.hid t3
    have T4 := Lib.hid t4
    have T5 := Lib.hid t5
    clear q1 q2 q3 hnn hsn t1 t2 t3 t4 t5
    obtain ⟨kb, hkb⟩ : ∃ kb, decide (kind = 2 ∨ kind = 5 ∨ kind = 6) = kb := ⟨_, rfl⟩
    obtain ⟨yb, hyb⟩ : ∃ yb, rightB yi = yb := ⟨_, rfl⟩
    obtain ⟨rb, hrb⟩ : ∃ rb, rightM x.mm = rb := ⟨_, rfl⟩
    rw [hkb] at HRE HFA
    rw [hyb] at HAR HFA
    rw [hrb] at HRI HFA
    have HKB := Lib.hid hkb
    have HYB := Lib.hid hyb
    have HRB := Lib.hid hrb
    clear hkb hyb hrb
    obtain ⟨⟨m0, m1, m2, m3, m4, m5, m6⟩, m7, m8, m9, m10, m11, m12⟩ := celM_all HM2.out
    go_wp2_with fail
    refine (HRI.out w2 HB2.out).mono ?_
    rintro e w3 ⟨rfl, hb3⟩
    have HB3 := Lib.hid hb3
    clear hb3 m0 m1 m2 m3 m4 m5 m6 m7 m8 m9 m10 m11 m12
    cases rb with
    | false =>
      obtain ⟨z0, z1, z2, z3, z4, z5, z6, z7, z8, z9, z10, z11, z12, zf⟩ := cels13 (HZ2.out.below (HB3.out) (by have := HS1.out; have := HG2.out.lt; omega))
      go_wp2
      (try simp only [Exit.inBlock, Exit.then])
      refine bodyPost_ret (ret_msg2 rfl _ _ (w.heap.size + 2) zc13 rfl (celZ13 (HZ2.out.below (HB3.out) (by have := HS1.out; have := HG2.out.lt; omega)) _ _ _ _ _ _ _ _ _ _ _ _ _) rfl) rfl ?_
      exact ⟨below13 (HB2.out.trans (HB3.out.mono HB2.out.size)) (by omega) _ _ _ _ _ _ _ _ _ _ _ _ _, .inr ⟨by rw [HFA.out, HSU.out]; simp, rfl⟩⟩
    | true =>
    go_wp2_with fail
    refine (HRE.out w3).mono ?_
    rintro e w4 ⟨rfl, rfl⟩
    cases kb with
    | false =>
      obtain ⟨z0, z1, z2, z3, z4, z5, z6, z7, z8, z9, z10, z11, z12, zf⟩ := cels13 (HZ2.out.below (HB3.out) (by have := HS1.out; have := HG2.out.lt; omega))
      go_wp2
      (try simp only [Exit.inBlock, Exit.then])
      refine bodyPost_ret (ret_msg2 rfl _ _ (w.heap.size + 2) zc13 rfl (celZ13 (HZ2.out.below (HB3.out) (by have := HS1.out; have := HG2.out.lt; omega)) _ _ _ _ _ _ _ _ _ _ _ _ _) rfl) rfl ?_
      exact ⟨below13 (HB2.out.trans (HB3.out.mono HB2.out.size)) (by omega) _ _ _ _ _ _ _ _ _ _ _ _ _, .inr ⟨by rw [HFA.out, HSU.out]; simp, rfl⟩⟩
    | true =>
    go_wp2_with fail
    refine (HAR.out w3).mono ?_
    rintro e w4 ⟨rfl, rfl⟩
    cases yb with
    | false =>
      obtain ⟨z0, z1, z2, z3, z4, z5, z6, z7, z8, z9, z10, z11, z12, zf⟩ := cels13 (HZ2.out.below (HB3.out) (by have := HS1.out; have := HG2.out.lt; omega))
      go_wp2
      (try simp only [Exit.inBlock, Exit.then])
      refine bodyPost_ret (ret_msg2 rfl _ _ (w.heap.size + 2) zc13 rfl (celZ13 (HZ2.out.below (HB3.out) (by have := HS1.out; have := HG2.out.lt; omega)) _ _ _ _ _ _ _ _ _ _ _ _ _) rfl) rfl ?_
      exact ⟨below13 (HB2.out.trans (HB3.out.mono HB2.out.size)) (by omega) _ _ _ _ _ _ _ _ _ _ _ _ _, .inr ⟨by rw [HFA.out, HSU.out]; simp, rfl⟩⟩
    | true =>
    have hrm := (rightM_iff x.mm).1 HRB.out
    have HFL := Lib.hid (fun W (_ : Below w3.heap.size w3 W) => flags_any x kind W hrm.1.2.2.2.2.2.2.1.1 hrm.1.2.2.2.2.2.2.1.2)
    have HCL := Lib.hid (fun W (hW : Below w.heap.size w W) => Tw.clone_any x.A x.n x.c x.ch W (HX.out W hW).ch (by have e1 := (HX.out w (Below.refl _ _)).ch.len; have e2 : x.ch.length = 16 := hrm.2.1; omega))
    have HOP := Lib.hid (fun W (hW : Below w.heap.size w W) => options_any c.server s pn rn x kind yi W (HX.out W hW) hrm.2.2.1 HSM.out T1.out T2.out T3.out T4.out T5.out HYB.out (of_decide_eq_true HKB.out))
    have HCC := Lib.hid (HC2.out.below HB3.out HC2.out.lt)
    have HMM := Lib.hid (HM2.out.below HB3.out HM2.out.lt)
    have HZZ := Lib.hid (HZ2.out.below HB3.out HZ2.out.lt)
    have HGG := Lib.hid (HG2.out.below HB3.out HG2.out.lt)
    have HW3 := Lib.hid (HB2.out.trans (HB3.out.mono HB2.out.size))
    have HL3 : Hid (w.heap.size + 3 ≤ w3.heap.size) := by show _ ≤ _; have e1 := HS1.out; have e2 := HG2.out.lt; have e3 := HB3.out.size; omega
    have HSC := Lib.hid (fun W (hW : Below w3.heap.size w3 W) => rp_S (HCC.out.below hW HCC.out.lt) (HMM.out.below hW HMM.out.lt) (HGG.out.below hW HGG.out.lt))
    clear hrm HC2 HM2 HZ2 HG2 HC1 HM1 HZ1
    go_upto_region 4 with fail
    have HBW : Hid (∀ W, Below w3.heap.size w3 W → Below w.heap.size w W) := fun W hW => HW3.out.trans (hW.mono HW3.out.size)
    go_cut [16] from 42 to 63 (fun v wx => ∃ (g : Nat) (A' : Option Addr) (c' : Nat) (B' : Option Addr) (m' d' : Nat) (qs : List Po), v = .pointer (some ⟨g, 0, none⟩) ∧ Hid (Cel wx g 29 (rV x kind 0 0 A' c' B' m' d' qs).cells) ∧ Hid (osP qs = optsR c.server s.s (osP x.ps) kind yi) ∧ Hid (w3.heap.size ≤ g) ∧ Hid (Below w3.heap.size w3 wx) ∧ Hid (Own 5 w3.heap.size wx A' x.n c' x.ch) ∧ Hid (OwnF w3.heap.size wx B' m' d' qs))
    case first =>
      obtain ⟨⟨k0, k1, k2⟩, ⟨⟨m0, m1, m2, m3, m4, m5, m6⟩, m7, m8, m9, m10, m11, m12⟩, s0, s1, s2, s3, s4, s5, s6⟩ := HSC.out w3 (Below.refl _ _)
      have hzr : Cel (w3.alloc (.cells zc13 29)) w3.heap.size 29 zc13 := Cel.born _ _ _
      have HZR := Lib.hid hzr
      have HAL := Lib.hid (alloc_more w3 (.cells zc13 29))
      clear hzr
      go_region_held3 (fun W => (W.cell? ⟨w.heap.size, 0, none⟩ = some (.int .i64 c.server) ∧ W.cell? ⟨w.heap.size, 1, none⟩ = some (.int .i64 c.prob) ∧ W.cell? ⟨w.heap.size, 2, none⟩ = some (.slice c.A c.n c.c)) ∧ ((W.cell? ⟨w.heap.size + 1, 0, none⟩ = some (.int .i64 x.op) ∧ W.cell? ⟨w.heap.size + 1, 1, none⟩ = some (.int .i64 x.htype) ∧ W.cell? ⟨w.heap.size + 1, 2, none⟩ = some (.int .i64 x.hlen) ∧ W.cell? ⟨w.heap.size + 1, 3, none⟩ = some (.int .i64 x.hops) ∧ W.cell? ⟨w.heap.size + 1, 4, none⟩ = some (.int .i64 x.xid) ∧ W.cell? ⟨w.heap.size + 1, 5, none⟩ = some (.int .i64 x.secs) ∧ W.cell? ⟨w.heap.size + 1, 6, none⟩ = some (.int .i64 x.flags)) ∧ W.cell? ⟨w.heap.size + 1, 7, none⟩ = some (.int .i64 x.ci) ∧ W.cell? ⟨w.heap.size + 1, 8, none⟩ = some (.int .i64 x.yi) ∧ W.cell? ⟨w.heap.size + 1, 9, none⟩ = some (.int .i64 x.si) ∧ W.cell? ⟨w.heap.size + 1, 10, none⟩ = some (.int .i64 x.gi) ∧ W.cell? ⟨w.heap.size + 1, 11, none⟩ = some (.slice x.A x.n x.c) ∧ W.cell? ⟨w.heap.size + 1, 12, none⟩ = some (.slice x.B x.m x.d)) ∧ (W.cell? ⟨w1.heap.size, 0, none⟩ = some (.int .i64 s.base) ∧ W.cell? ⟨w1.heap.size, 1, none⟩ = some (.int .i64 s.bits) ∧ W.cell? ⟨w1.heap.size, 2, none⟩ = some (.slice s.pA pn s.pc) ∧ W.cell? ⟨w1.heap.size, 3, none⟩ = some (.slice s.rA rn s.rc) ∧ W.cell? ⟨w1.heap.size, 4, none⟩ = some (.int .i64 s.iface) ∧ W.cell? ⟨w1.heap.size, 5, none⟩ = some (.int .i64 s.router) ∧ W.cell? ⟨w1.heap.size, 6, none⟩ = some (.int .i64 s.time)))
        (((refine HSC.out _ ?_); first
          | (with_reducible exact (Below.refl _ _))
          | (with_reducible exact (Below.refl _ _).drew)
          | (with_reducible exact hbq3)
          | (with_reducible exact hbq2)
          | (with_reducible exact hbq1)
          | (with_reducible exact (hbq3.alloc hbq3.size _))
          | (with_reducible exact (hbq2.alloc hbq2.size _))
          | (with_reducible exact (hbq1.alloc hbq1.size _))
          | (with_reducible exact ((Below.refl _ _).alloc (Nat.le_refl _) _))
          | (with_reducible exact ((Below.refl _ _).alloc (Nat.le_refl _) _).drew)
          | (with_reducible exact (below13 hbq3 hle _ _ _ _ _ _ _ _ _ _ _ _ _))))
        (first
          | (go_simp; go_at_call 228; (with_reducible refine (HFL.out _ ((Below.refl _ _).drew)).mono ?_); rintro ee wq1 ⟨rfl, hbu⟩; have hbq1 : Below w3.heap.size w3 wq1 := below_undrew hbu)
          | (go_simp; go_at_call 228; (with_reducible refine (HFL.out _ (((Below.refl _ _).alloc (Nat.le_refl _) _).drew)).mono ?_); rintro ee wq1 ⟨rfl, hbu⟩; have hbu2 := below_undrew hbu; have hbq1 : Below w3.heap.size w3 wq1 := HAL.out.trans (hbu2.mono HAL.out.size); have hcg1 : Cel wq1 w3.heap.size 29 zc13 := HZR.out.below hbu2 HZR.out.lt)
          | (go_simp; go_at_call 162; have hq := hcg1; (with_reducible refine (HCL.out _ (HBW.out _ hbq1)).mono ?_); rintro ee wq2 ⟨A', c', rfl, hown2, hbu⟩; have hbq2 : Below w3.heap.size w3 wq2 := hbq1.trans (hbu.mono hbq1.size); have HO2 := Lib.hid (hown2.mono hbq1.size); have hcg2 : Cel wq2 w3.heap.size 29 zc13 := hcg1.below hbu hcg1.lt; clear hq hcg1 hown2)
          | (go_simp; go_at_call 162; (with_reducible refine (HCL.out _ (HBW.out _ hbq1)).mono ?_); rintro ee wq2 ⟨A', c', rfl, hown2, hbu⟩; have hbq2 : Below w3.heap.size w3 wq2 := hbq1.trans (hbu.mono hbq1.size); have HO2 := Lib.hid (hown2.mono hbq1.size); clear hown2)
          | (go_simp; go_at_call 162; (with_reducible refine (HCL.out _ (HBW.out _ (hbq1.alloc hbq1.size _))).mono ?_); rintro ee wq2 ⟨A', c', rfl, hown2, hbu⟩; have hbqa := hbq1.alloc hbq1.size (.cells zc13 29); have hbq2 : Below w3.heap.size w3 wq2 := hbqa.trans (hbu.mono hbqa.size); have HO2 := Lib.hid (hown2.mono hbqa.size); have hcgn : Cel wq2 wq1.heap.size 29 zc13 := (Cel.born wq1 29 zc13).below hbu (Cel.born wq1 29 zc13).lt; clear hown2)
          | (go_simp; go_at_call 229; have hq := hcg2; (with_reducible refine (HOP.out _ (HBW.out _ hbq2)).mono ?_); rintro ee wq3 ⟨B', m', d', qs, rfl, hqs, hown3, hbu⟩; have hbq3 : Below w3.heap.size w3 wq3 := hbq2.trans (hbu.mono hbq2.size); have HO3 := Lib.hid (hown3.mono hbq2.size); have HO2b := Lib.hid (HO2.out.below hbu); have hcg3 : Cel wq3 w3.heap.size 29 zc13 := hcg2.below hbu hcg2.lt; have hle : w3.heap.size ≤ w3.heap.size := Nat.le_refl _; have HCG := Lib.hid hcg3; obtain ⟨j0, j1, j2, j3, j4, j5, j6, j7, j8, j9, j10, j11, j12, jf⟩ := cels13 hcg3; have HQS := Lib.hid hqs; clear hqs hown3 hq hcg2 hcg3)
          | (go_simp; go_at_call 229; have hq := hcgn; (with_reducible refine (HOP.out _ (HBW.out _ hbq2)).mono ?_); rintro ee wq3 ⟨B', m', d', qs, rfl, hqs, hown3, hbu⟩; have hbq3 : Below w3.heap.size w3 wq3 := hbq2.trans (hbu.mono hbq2.size); have HO3 := Lib.hid (hown3.mono hbq2.size); have HO2b := Lib.hid (HO2.out.below hbu); have hcg3 : Cel wq3 wq1.heap.size 29 zc13 := hcgn.below hbu hcgn.lt; have hle : w3.heap.size ≤ wq1.heap.size := hbq1.size; have HCG := Lib.hid hcg3; obtain ⟨j0, j1, j2, j3, j4, j5, j6, j7, j8, j9, j10, j11, j12, jf⟩ := cels13 hcg3; have HQS := Lib.hid hqs; clear hqs hown3 hq hcgn hcg3)
          | (go_simp; go_at_call 229; (with_reducible refine (HOP.out _ (HBW.out _ hbq2)).mono ?_); rintro ee wq3 ⟨B', m', d', qs, rfl, hqs, hown3, hbu⟩; have hbq3 : Below w3.heap.size w3 wq3 := hbq2.trans (hbu.mono hbq2.size); have HO3 := Lib.hid (hown3.mono hbq2.size); have HO2b := Lib.hid (HO2.out.below hbu); have HQS := Lib.hid hqs; clear hqs hown3)
          | (go_simp; go_at_call 229; (with_reducible refine (HOP.out _ (HBW.out _ (hbq2.alloc hbq2.size _))).mono ?_); rintro ee wq3 ⟨B', m', d', qs, rfl, hqs, hown3, hbu⟩; have hbqa := hbq2.alloc hbq2.size (.cells zc13 29); have hbq3 : Below w3.heap.size w3 wq3 := hbqa.trans (hbu.mono hbqa.size); have HO3 := Lib.hid (hown3.mono hbqa.size); have HO2b := Lib.hid ((HO2.out.below (alloc_more _ _)).below hbu); have hcg3 : Cel wq3 wq2.heap.size 29 zc13 := (Cel.born wq2 29 zc13).below hbu (Cel.born wq2 29 zc13).lt; have hle : w3.heap.size ≤ wq2.heap.size := hbq2.size; have HCG := Lib.hid hcg3; obtain ⟨j0, j1, j2, j3, j4, j5, j6, j7, j8, j9, j10, j11, j12, jf⟩ := cels13 hcg3; have HQS := Lib.hid hqs; clear hqs hown3 hcg3))
      all_goals (
        clear k0 k1 k2 m0 m1 m2 m3 m4 m5 m6 m7 m8 m9 m10 m11 m12 s0 s1 s2 s3 s4 s5 s6
        go_wp2_with fail
        go_meet
        first
          | (have hq := HCG.out; exact ⟨_, A', c', B', m', d', qs, rfl, Lib.hid (celZ13 HCG.out _ _ _ _ _ _ _ _ _ _ _ _ _), HQS, Lib.hid hle, Lib.hid (below13 hbq3 hle _ _ _ _ _ _ _ _ _ _ _ _ _), Lib.hid (own_off HCG.out (by decide) HO2b.out (grown13 _ _ _ _ _ _ _ _ _ _ _ _ _ _ _)), Lib.hid (ownF_off HCG.out (by decide) (by decide) HO3.out (grown13 _ _ _ _ _ _ _ _ _ _ _ _ _ _ _))⟩)
          | exact ⟨wq3.heap.size, A', c', B', m', d', qs, rfl, Lib.hid (Cel.born _ _ _), HQS, Lib.hid hbq3.size, Lib.hid (hbq3.alloc hbq3.size _), Lib.hid (HO2b.out.below (alloc_more _ _)), Lib.hid (HO3.out.below (alloc_more _ _))⟩)
    case rest =>
    obtain ⟨g, A', c', B', m', d', qs, rfl, HC4, HQ4, HGE, HB4, HOA, HOF⟩ := hcut
    have hge := HGE.out
    have hl3 := HL3.out
    have HZ4 := Lib.hid (HZZ.out.below HB4.out HZZ.out.lt)
    have HM4 := Lib.hid (HMM.out.below HB4.out HMM.out.lt)
    have HBW4 := Lib.hid (HBW.out _ HB4.out)
    have hg4 : g < wc.heap.size := HC4.out.lt
    have hne : w.heap.size + 2 ≠ g := by omega
    have hne1 : w.heap.size + 1 ≠ g := by omega
    rcases of_decide_eq_true HKB.out with hk | hk | hk
    · subst hk
      have m8 := HC4.out
      obtain ⟨g0, g1, g2, g3, g4, g5, g6, g7, g8, g9, g10, g11, g12, gf⟩ := cels13 HC4.out
      obtain ⟨w5, hw5⟩ : ∃ w5, w5 = wc.setCell ⟨g, 8, none⟩ (.int .i64 yi) := ⟨_, rfl⟩
      have HC5 := Lib.hid (show Cel w5 g 29 (rV x 2 0 yi A' c' B' m' d' qs).cells by rw [hw5]; exact celP HC4.out 8 _)
      have HZ5 := Lib.hid (show Cel w5 (w.heap.size + 2) 29 zc13 by rw [hw5]; exact Mw.Cel.far HZ4.out hne 8 _)
      have HB5 : Hid (Below w.heap.size w w5) := by show Below _ _ _; rw [hw5]; exact HBW4.out.setCell (p := ⟨g, 8, none⟩) (by show w.heap.size ≤ g; omega) _
      have HA5 : Hid (Own 5 w3.heap.size w5 A' x.n c' x.ch) := by show Own _ _ _ _ _ _ _; rw [hw5]; exact own_off HC4.out (by decide) HOA.out (Ow.grown_set _ _ _ _)
      have HF5 : Hid (OwnF w3.heap.size w5 B' m' d' qs) := by show OwnF _ _ _ _ _ _; rw [hw5]; exact ownF_off HC4.out (by decide) (by decide) HOF.out (Ow.grown_set _ _ _ _)
      clear m8
      go_upto_region 7 with fail
      rw [← hw5]
      clear hw5 g0 g1 g2 g3 g4 g5 g6 g7 g8 g9 g10 g11 g12 gf
      obtain ⟨z0, z1, z2, z3, z4, z5, z6, z7, z8, z9, z10, z11, z12, zf⟩ := cels13 HZ5.out
      obtain ⟨g0, g1, g2, g3, g4, g5, g6, g7, g8, g9, g10, g11, g12, gf⟩ := cels13 HC5.out
      go_wp2
      (try simp only [Exit.inBlock, Exit.then])
      refine bodyPost_ret (ret_msg2 rfl _ _ (w.heap.size + 2) (rV x 2 0 yi A' c' B' m' d' qs).cells rfl (celZ13 HZ5.out _ _ _ _ _ _ _ _ _ _ _ _ _) rfl) rfl ?_
      refine ⟨below13 HB5.out (by omega) _ _ _ _ _ _ _ _ _ _ _ _ _, .inl ⟨by rw [HFA.out, HSU.out]; rfl, rV x 2 0 yi A' c' B' m' d' qs, rfl, Mo.mono (B := w3.heap.size) ⟨own_off HZ5.out (by decide) HA5.out (grown13 _ _ _ _ _ _ _ _ _ _ _ _ _ _ _), ownF_off HZ5.out (by decide) (by decide) HF5.out (grown13 _ _ _ _ _ _ _ _ _ _ _ _ _ _ _)⟩ HW3.out.size, ?_⟩⟩
      show (⟨2, x.htype, x.hlen, 0, x.xid, 0, flagsR x.mm 2, 0, yi, 0, x.gi, x.ch, osP qs⟩ : M) = _
      rw [HQ4.out, ← HSS.out]
      rfl
    · subst hk
      obtain ⟨g0, g1, g2, g3, g4, g5, g6, g7, g8, g9, g10, g11, g12, gf⟩ := cels13 HC4.out
      obtain ⟨w5, hw5⟩ : ∃ w5, w5 = wc.setCell ⟨g, 8, none⟩ (.int .i64 yi) := ⟨_, rfl⟩
      have HC5 := Lib.hid (show Cel w5 g 29 (rV x 5 0 yi A' c' B' m' d' qs).cells by rw [hw5]; exact celP HC4.out 8 _)
      have HZ5 := Lib.hid (show Cel w5 (w.heap.size + 2) 29 zc13 by rw [hw5]; exact Mw.Cel.far HZ4.out hne 8 _)
      have HM5 := Lib.hid (show Cel w5 (w.heap.size + 1) 29 x.cells by rw [hw5]; exact Mw.Cel.far HM4.out hne1 8 _)
      have HB5 : Hid (Below w.heap.size w w5) := by show Below _ _ _; rw [hw5]; exact HBW4.out.setCell (p := ⟨g, 8, none⟩) (by show w.heap.size ≤ g; omega) _
      have HA5 : Hid (Own 5 w3.heap.size w5 A' x.n c' x.ch) := by show Own _ _ _ _ _ _ _; rw [hw5]; exact own_off HC4.out (by decide) HOA.out (Ow.grown_set _ _ _ _)
      have HF5 : Hid (OwnF w3.heap.size w5 B' m' d' qs) := by show OwnF _ _ _ _ _ _; rw [hw5]; exact ownF_off HC4.out (by decide) (by decide) HOF.out (Ow.grown_set _ _ _ _)
      go_upto_region 7 with fail
      rw [← hw5]
      clear hw5 g0 g1 g2 g3 g4 g5 g6 g7 g8 g9 g10 g11 g12 gf
      obtain ⟨⟨m0, m1, m2, m3, m4, m5, m6⟩, m7, m8, m9, m10, m11, m12⟩ := celM_all HM5.out
      obtain ⟨g0, g1, g2, g3, g4, g5, g6, g7, g8, g9, g10, g11, g12, gf⟩ := cels13 HC5.out
      obtain ⟨w6, hw6⟩ : ∃ w6, w6 = w5.setCell ⟨g, 7, none⟩ (.int .i64 x.ci) := ⟨_, rfl⟩
      have HC6 := Lib.hid (show Cel w6 g 29 (rV x 5 x.ci yi A' c' B' m' d' qs).cells by rw [hw6]; exact celP HC5.out 7 _)
      have HZ6 := Lib.hid (show Cel w6 (w.heap.size + 2) 29 zc13 by rw [hw6]; exact Mw.Cel.far HZ5.out hne 7 _)
      have HB6 : Hid (Below w.heap.size w w6) := by show Below _ _ _; rw [hw6]; exact HB5.out.setCell (p := ⟨g, 7, none⟩) (by show w.heap.size ≤ g; omega) _
      have HA6 : Hid (Own 5 w3.heap.size w6 A' x.n c' x.ch) := by show Own _ _ _ _ _ _ _; rw [hw6]; exact own_off HC5.out (by decide) HA5.out (Ow.grown_set _ _ _ _)
      have HF6 : Hid (OwnF w3.heap.size w6 B' m' d' qs) := by show OwnF _ _ _ _ _ _; rw [hw6]; exact ownF_off HC5.out (by decide) (by decide) HF5.out (Ow.grown_set _ _ _ _)
      go_upto_region 9 with fail
      rw [← hw6]
      clear hw6 g0 g1 g2 g3 g4 g5 g6 g7 g8 g9 g10 g11 g12 gf m0 m1 m2 m3 m4 m5 m6 m7 m8 m9 m10 m11 m12
      obtain ⟨z0, z1, z2, z3, z4, z5, z6, z7, z8, z9, z10, z11, z12, zf⟩ := cels13 HZ6.out
      obtain ⟨g0, g1, g2, g3, g4, g5, g6, g7, g8, g9, g10, g11, g12, gf⟩ := cels13 HC6.out
      go_wp2
      (try simp only [Exit.inBlock, Exit.then])
      refine bodyPost_ret (ret_msg2 rfl _ _ (w.heap.size + 2) (rV x 5 x.ci yi A' c' B' m' d' qs).cells rfl (celZ13 HZ6.out _ _ _ _ _ _ _ _ _ _ _ _ _) rfl) rfl ?_
      refine ⟨below13 HB6.out (by omega) _ _ _ _ _ _ _ _ _ _ _ _ _, .inl ⟨by rw [HFA.out, HSU.out]; rfl, rV x 5 x.ci yi A' c' B' m' d' qs, rfl, Mo.mono (B := w3.heap.size) ⟨own_off HZ6.out (by decide) HA6.out (grown13 _ _ _ _ _ _ _ _ _ _ _ _ _ _ _), ownF_off HZ6.out (by decide) (by decide) HF6.out (grown13 _ _ _ _ _ _ _ _ _ _ _ _ _ _ _)⟩ HW3.out.size, ?_⟩⟩
      show (⟨2, x.htype, x.hlen, 0, x.xid, 0, flagsR x.mm 5, x.ci, yi, 0, x.gi, x.ch, osP qs⟩ : M) = _
      rw [HQ4.out, ← HSS.out]
      rfl
    · subst hk
      obtain ⟨z0, z1, z2, z3, z4, z5, z6, z7, z8, z9, z10, z11, z12, zf⟩ := cels13 HZ4.out
      obtain ⟨g0, g1, g2, g3, g4, g5, g6, g7, g8, g9, g10, g11, g12, gf⟩ := cels13 HC4.out
      go_wp2
      (try simp only [Exit.inBlock, Exit.then])
      refine bodyPost_ret (ret_msg2 rfl _ _ (w.heap.size + 2) (rV x 6 0 0 A' c' B' m' d' qs).cells rfl (celZ13 HZ4.out _ _ _ _ _ _ _ _ _ _ _ _ _) rfl) rfl ?_
      refine ⟨below13 HBW4.out (by omega) _ _ _ _ _ _ _ _ _ _ _ _ _, .inl ⟨by rw [HFA.out, HSU.out]; rfl, rV x 6 0 0 A' c' B' m' d' qs, rfl, Mo.mono (B := w3.heap.size) ⟨own_off HZ4.out (by decide) HOA.out (grown13 _ _ _ _ _ _ _ _ _ _ _ _ _ _ _), ownF_off HZ4.out (by decide) (by decide) HOF.out (grown13 _ _ _ _ _ _ _ _ _ _ _ _ _ _ _)⟩ HW3.out.size, ?_⟩⟩
      show (⟨2, x.htype, x.hlen, 0, x.xid, 0, flagsR x.mm 6, 0, 0, 0, x.gi, x.ch, osP qs⟩ : M) = _
      rw [HQ4.out, ← HSS.out]
      rfl
end Go.Proofs.YtoldppbakapohaaGreatDoor.Rpw
