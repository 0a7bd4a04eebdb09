/- What boarderref18's Make comes to. Conditions: there may be such a reply, the configuration and the message read. -/
import Derived.Test.YtabjcgchcnnjjaaGreatRpRef1
set_option maxRecDepth 8000
namespace Go.Proofs.YtabjcgchcnnjjaaGreat.Rpw
open Go.RowKit Tl Co Ms Cf Ad By Ow Rp
open Pw (alloc_more celM_all boxM)
open Vw (Cx Sx isI cel3C cel7 atN atS Seven snsOf sns_len sns_get nets_len nets_get)
open Mw (set13 cels13)

/-- The list under way, the reply's box, and what stays. -/
structure St (x : Mv) (w5 : World) (g : Nat) (W : World) (A : Option Addr) (n c : Nat) (ps : List Po) (oc : Array Value) : Prop where
  row : OwnC 45 w5.heap.size W A n c ps
  own : ∀ p ∈ ps, Own 5 w5.heap.size W p.A p.l.length p.c p.l ∨ p ∈ x.ps
  out : Cel W g 31 oc
  b : Below g w5 W
  lt : g < w5.heap.size
section
variable {x : Mv} {w5 W W' : World} {g n c : Nat} {A : Option Addr} {ps : List Po} {oc : Array Value}
theorem St.below (h : St x w5 g W A n c ps oc) (hb : Below W.heap.size W W') : St x w5 g W' A n c ps oc :=
  ⟨h.row.below hb, fun p hp => (h.own p hp).imp (fun k => k.below hb) id, h.out.below hb h.out.lt, h.b.trans (hb.mono (Nat.le_trans (Nat.le_of_lt h.lt) h.b.size)), h.lt⟩
theorem St.put (h : St x w5 g W A n c ps oc) (i : Nat) (v : Value) : St x w5 g (W.setCell ⟨g, i, none⟩ v) A n c ps (oc.setIfInBounds i v) :=
  ⟨ownC_put h.row h.lt i v, fun p hp => (h.own p hp).imp (fun k => own_keep k h.lt i v) id, celP h.out i v, h.b.setCell (p := ⟨g, i, none⟩) (Nat.le_refl _) v, h.lt⟩
theorem St.app (h : St x w5 g W A n c ps oc) {m c' : Nat} {A' : Option Addr} {qs : List Po} (h2 : OwnC 45 w5.heap.size W' A' (n + m) c' (ps ++ qs)) (hb : Below w5.heap.size W W') (hg : W.grownBy W' (Value.slice A n c).ownBlock)
    (hq : ∀ q ∈ qs, Own 5 w5.heap.size W q.A q.l.length q.c q.l ∨ q ∈ x.ps) : St x w5 g W' A' (n + m) c' (ps ++ qs) oc := by
  have hk : ∀ p : Po, Own 5 w5.heap.size W p.A p.l.length p.c p.l → Own 5 w5.heap.size W' p.A p.l.length p.c p.l := fun p ho => World.ownsRow.kept ho hg (rows_apart2 (by decide) ho h.row)
  refine ⟨h2, fun p hp => ?_, h.out.below hb h.lt, h.b.trans (hb.mono (Nat.le_of_lt h.lt)), h.lt⟩
  rcases List.mem_append.1 hp with hp | hp
  · exact (h.own p hp).imp (hk p) id
  · exact (hq p hp).imp (hk p) id
theorem St.size (h : St x w5 g W A n c ps oc) : w5.heap.size ≤ W.heap.size := h.b.size
theorem St.len (h : St x w5 g W A n c ps oc) {cs : List Int} {L : List O} (he : osP ps = L) (hs : Sm cs L) : n ≤ cs.length := by
  have e1 := h.row.len
  have e2 := hs.1
  rw [← he, os_len] at e2
  omega
end
theorem row_low {e B k n g : Nat} {w w' : World} {v : Value} {xs : List Value} (h : w.ownsRow B e k v n xs) (hlt : g < B) (hg : w.grownBy w' (some g)) : w'.ownsRow B e k v n xs := by
  refine World.ownsRow.kept h hg ?_
  by_cases q : v.ownBlock = none
  · exact .inl q
  · refine .inr fun q2 => ?_
    have := (World.ownsRow.lt h g q2).1
    omega
theorem ret_rmsg {fn : Func} {p : Tmp} (hres : fn.results = #[.cell p 31]) (tmps : Array Value) (w : World) (g : Nat) (cs : Array Value) (hp : tmps.getD p undef = .pointer (some ⟨g, 0, none⟩)) (hc : Cel w g 31 cs) (hs : cs.size = 13) :
    (results fn tmps).run Tryz.prog w = .ok (.agg cs) w := results_cell_row hres tmps w g _ cs (0, 0) _ hp hc Tryz.underlying31 rfl (by rw [hs]; kernel_rfl)
/-- The reply's box. -/
@[reducible] def oC (x : Mv) (fl ci yi : Int) (B : Value) : Array Value := #[.int .i64 2, .int .i64 x.htype, .int .i64 x.hlen, .int .i64 0, .int .i64 x.xid, .int .i64 0, .int .i64 fl, .int .i64 ci, .int .i64 yi, .int .i64 0, .int .i64 x.gi, .slice x.A x.n x.c, B]
def RmR (w : World) (m : M) (e : Ending) (w' : World) : Prop := ∃ y : Mv, e = .returned y.v ∧ y.ok w' ∧ y.mm = m ∧ Below w.heap.size w w'
theorem boxG3 (w : World) (c : Cx) (x : Mv) : ∃ w3, w3 = ((w.alloc (.cells c.cs 24)).alloc (.cells x.cells 31)).alloc (.cells zc13 31) ∧
    Cel w3 w.heap.size 24 c.cs ∧ Cel w3 (w.heap.size + 1) 31 x.cells ∧ Cel w3 (w.heap.size + 2) 31 zc13 ∧ Below w.heap.size w w3 ∧ w3.heap.size = w.heap.size + 3 := by
  have ca := Cel.born w 24 c.cs
  have ba := alloc_more w (.cells c.cs 24)
  have sa : (w.alloc (.cells c.cs 24)).heap.size = w.heap.size + 1 := by simp
  refine ⟨_, rfl, ?_⟩
  generalize w.alloc (.cells c.cs 24) = wa at ca ba sa
  have cb := Cel.born wa 31 x.cells
  have bb := alloc_more wa (.cells x.cells 31)
  have sb : (wa.alloc (.cells x.cells 31)).heap.size = w.heap.size + 2 := by simp; omega
  generalize wa.alloc (.cells x.cells 31) = wb at cb bb sb
  have cc := Cel.born wb 31 zc13
  have bc := alloc_more wb (.cells zc13 31)
  have sc : (wb.alloc (.cells zc13 31)).heap.size = w.heap.size + 3 := by simp; omega
  rw [sa] at cb
  rw [sb] at cc
  exact ⟨(ca.below bb ca.lt).below bc (by omega), cb.below bc cb.lt, cc, (ba.trans (bb.mono ba.size)).trans (bc.mono (by omega)), sc⟩
theorem o_ref {kind yi : Int} (srv : Int) (s : Sn) (l : List O) (hk : kind ≠ 6) : optsR srv s l kind yi = (O5 srv kind s (decide (0 < yi)) (asksL l 1) (asksL l 3 && decide (0 < s.router)) ++ echoL l 61) ++ echoL l 82 := by
  rw [o_all, decide_eq_false hk]
  simp
/-- Two options that are made. -/
theorem OwnC.lit2 (e : Nat) (w : World) (p q : Po) : OwnC e w.heap.size (w.alloc (.cells #[.int .i64 p.code, p.dv, .int .i64 q.code, q.dv] e)) (some ⟨w.heap.size, 0, none⟩) 2 2 [p, q] := by
  have := World.ownsRow_lit (size := 2) (e := e) w #[.int .i64 p.code, p.dv, .int .i64 q.code, q.dv] 2 (Nat.le_refl _) (by unfold maxLen; omega) rfl
  simpa [OwnC, cellsP, Po.cells] using this

set_option maxHeartbeats 16000000 in
theorem refMake_any (c : Cx) (net sub : Int) (x : Mv) (kind yi : Int) (U : Nat) (w : World) (h : c.ok U w) (hU : U ≤ w.heap.size) (hx : x.ok w) (hf : fairR c.cf net sub x.mm kind yi = true) :
    Calls Tryz.prog 12 #[c.v, .int .i64 net, .int .i64 sub, x.v, .int .i64 kind, .int .i64 yi] w (RmR w (makeR c.server (subAt c.cf net sub) x.mm kind yi)) := by
  rw [fair_sub] at hf
  simp only [Bool.and_eq_true, decide_eq_true_eq] at hf
  obtain ⟨hsub, hrm, hry, hkd⟩ := hf
  obtain ⟨hck, ⟨hn0, hn1⟩, hs0, hs1⟩ := subB_iff.1 hsub
  obtain ⟨nn, hnn, hsn⟩ := sub_mem hsub
  obtain ⟨q1, q2, q3⟩ := sub_of hck hnn hsn
  obtain ⟨i, rfl⟩ := Int.eq_ofNat_of_zero_le hn0
  obtain ⟨j, rfl⟩ := Int.eq_ofNat_of_zero_le hs0
  obtain ⟨w3, hw3, hc3, hm3, hz3, hb3, hs3⟩ := boxG3 w c x
  have hrd := Vw.Cx.ok.rd (h.below (hb3.mono hU))
  have hin : i < c.n := by have e := (Vw.Cx.ok.nets h); omega
  have hcap := hrd.cap
  have hmax := hrd.max
  obtain ⟨b, o, nx, m, hA, hbU, hget, hrx, hcell⟩ := atN hrd hin
  have hcap2 := hrx.cap
  have hmax2 := hrx.max
  have hgn : c.cf.nets.getD i [] = snsOf nx.xs := by rw [List.getD_eq_getElem?_getD, show c.cf.nets[i]? = some (snsOf nx.xs) from nets_get hget.out]; rfl
  have hjm : j < m := by
    rw [Int.toNat_natCast, hgn, sns_len, hrx.len] at hs1
    omega
  obtain ⟨bs, os, s, pn, rn, hAs, hbs, hgs, _, _, _, hsev⟩ := atS hrx hjm
  have hat : subAt c.cf (i : Int) (j : Int) = s.s := by
    unfold subAt
    rw [Int.toNat_natCast, Int.toNat_natCast, hgn, List.getD_eq_getElem?_getD, sns_get hgs.out]
    rfl
  rw [hat] at q2 q3 ⊢
  have t1 : rightB c.server = true := q1
  have t2 : rightB s.time = true := time_of q2
  have t3 : rightB (4294967296 - sz s.bits) = true := mask_of q2
  have t5 : rightB s.router = true := router_of q3
  have t4 : 0 ≤ s.bits ∧ s.bits ≤ 32 := by
    simp only [snF, Bool.and_eq_true, decide_eq_true_eq] at q2
    have e : s.s.bits = s.bits := rfl
    have := q2.1.1.1.1.1.1.2
    omega
  have T1 := Lib.hid t1
  have T2 := Lib.hid t2
  have T3 := Lib.hid t3
  have T4 := Lib.hid t4
  have T5 := Lib.hid t5
  have HRM := Lib.hid ((rightM_iff x.mm).1 hrm)
  have HYR : Hid (0 ≤ yi) := (rightB_iff.1 hry).1
  have HRO : Hid (0 ≤ s.router) := (rightB_iff.1 t5).1
  have HKD := Lib.hid hkd
  have HXO := Lib.hid (fun W (hW : Below w.heap.size w W) => hx.below hW)
  rw [hAs] at hcell
  obtain ⟨s0, s1, s2, s3, s4, s5, s6⟩ := hsev
  obtain ⟨c0, c1, c2⟩ := cel3C hc3
  rw [hA] at c2
  obtain ⟨⟨m0, m1, m2, m3, m4, m5, m6⟩, m7, m8, m9, m10, m11, m12⟩ := celM_all hm3
  obtain ⟨w5, hw5⟩ : ∃ w5, w5 = (w3.alloc (.cells (s.cs pn rn) 51)).alloc (.cells (oC x x.flags 0 0 (.slice none 0 0)) 31) := ⟨_, rfl⟩
  have b34 := alloc_more w3 (.cells (s.cs pn rn) 51)
  have z34 : (w3.alloc (.cells (s.cs pn rn) 51)).heap.size = w.heap.size + 4 := by simp [hs3]
  have c34 := Cel.born w3 51 (s.cs pn rn)
  have b45 := alloc_more (w3.alloc (.cells (s.cs pn rn) 51)) (.cells (oC x x.flags 0 0 (.slice none 0 0)) 31)
  have c45 := Cel.born (w3.alloc (.cells (s.cs pn rn) 51)) 31 (oC x x.flags 0 0 (.slice none 0 0))
  have b35 := b34.trans (b45.mono b34.size)
  rw [← hw5] at b35 c45
  rw [z34] at c45
  have c35 : Cel w5 (w.heap.size + 3) 51 (s.cs pn rn) := by
    have e := c34.below b45 c34.lt
    rw [← hw5, hs3] at e
    exact e
  have z5 : w5.heap.size = w.heap.size + 5 := by rw [hw5]; simp [hs3]
  have HB5 := Lib.hid (hb3.trans (b35.mono hb3.size))
  have HZ5 := Lib.hid z5
  have HC5 := Lib.hid (hc3.below b35 (by omega))
  have HM5 := Lib.hid (hm3.below b35 (by omega))
  have HR5 := Lib.hid (hz3.below b35 (by omega))
  have HS5 := Lib.hid c35
  have HO5 := Lib.hid c45
  have KC := Lib.hid (fun W (hW : Below (w.heap.size + 4) w5 W) => cel3C (HC5.out.below hW (by omega)))
  have KM := Lib.hid (fun W (hW : Below (w.heap.size + 4) w5 W) => celM_all (HM5.out.below hW (by omega)))
  have KS := Lib.hid (fun W (hW : Below (w.heap.size + 4) w5 W) => cel7 (HS5.out.below hW (by omega)))
  have KR := Lib.hid (fun W (hW : Below (w.heap.size + 4) w5 W) => HR5.out.below hW (by omega))
  have KW := Lib.hid (fun W (hW : Below (w.heap.size + 4) w5 W) => HB5.out.trans (hW.mono (by omega)))
  clear hc3 hm3 hz3 hb3 b34 z34 c34 b45 c45 b35 c35 z5 h hU hx hsub hrm hry hck hn1 hs1 hnn hsn q1 q2 q3 hrd hA hget hrx hgn hAs hgs hat t1 t2 t3 t4 t5
  by_cases h6 : kind = 6
  · subst h6
    go_enter Tryz.func12, Tryz.ntmps12
    go_upto_region 1 with fail
    rw [← hw3]
    clear hw3
    go_upto_region 3 with fail
    rw [← hw5]
    clear hw5 c0 c1 c2 m0 m1 m2 m3 m4 m5 m6 m7 m8 m9 m10 m11 m12 s0 s1 s2 s3 s4 s5 s6 hcell
    go_cut [15] from 38 to 45 (fun v wx => ∃ (A : Option Addr) (c2 : Nat) (ps : List Po), v = .slice A 2 c2 ∧ Hid (St x w5 (w.heap.size + 4) wx A 2 c2 ps (oC x x.flags 0 0 (.slice none 0 0))) ∧ Hid (osP ps = O2 c.server 6))
    case first =>
      obtain ⟨d, hd⟩ : ∃ d, numB c.server 4 = d := ⟨_, rfl⟩
      have h1 := Own.lit1 5 w5 6
      obtain ⟨w6, hw6⟩ : ∃ w6, w6 = w5.alloc (.cells #[.int .u8 6] 5) := ⟨_, rfl⟩
      have b56 := alloc_more w5 (.cells #[.int .u8 6] 5)
      rw [← hw6] at b56
      have h1' : Own 5 w5.heap.size w6 (some ⟨w5.heap.size, 0, none⟩) 1 1 [byteI 6] := by rw [hw6]; exact h1
      have H1 := Lib.hid h1'
      have H56 := Lib.hid b56
      obtain ⟨c0, c1, c2⟩ := KC.out w6 (b56.mono (by have := HZ5.out; omega))
      rw [hw6] at c0 c1 c2
      clear h1 h1' b56
      go_wp2_with fail
      rw [← hw6]
      clear hw6
      refine (four_any 54 c.server d w6 T1.out hd).mono ?_
      rintro e w7 ⟨A2, k2, rfl, hown2, hb2⟩
      have H2 := Lib.hid hown2
      have H67 := Lib.hid hb2
      clear hown2 hb2 c0 c1 c2
      go_wp2_with fail
      go_meet
      have hl2 := OwnC.lit2 45 w7 ⟨53, some ⟨w5.heap.size, 0, none⟩, 1, [byteI 6]⟩ ⟨54, A2, k2, d⟩
      have hal := alloc_more w7 (.cells #[.int .i64 53, .slice (some ⟨w5.heap.size, 0, none⟩) 1 1, .int .i64 54, .slice A2 d.length k2] 45)
      have hz := HZ5.out
      have s56 := H56.out.size
      have s67 := H67.out.size
      exact ⟨_, 2, _, rfl, ⟨hl2.mono (by omega), fun p hp => by
          have hp' : p = ⟨53, some ⟨w5.heap.size, 0, none⟩, 1, [byteI 6]⟩ ∨ p = ⟨54, A2, k2, d⟩ := by simpa using hp
          rcases hp' with rfl | rfl
          · exact .inl ((H1.out.below H67.out).below hal)
          · exact .inl ((H2.out.mono s56).below hal), ((HO5.out.below H56.out HO5.out.lt).below H67.out (by omega)).below hal (by omega), ((H56.out.mono (by omega)).trans (H67.out.mono (by omega))).trans (hal.mono (by omega)), by omega⟩, by rw [← hd]; rfl⟩
    case rest =>
    obtain ⟨A, k, ps, rfl, HST, HOS⟩ := hcut
    obtain ⟨w8, hw8⟩ : ∃ q, q = wc := ⟨_, rfl⟩
    subst hw8
    have hz := HZ5.out
    by_cases hg : x.gi ≠ 0 ∧ x.flags < 32768
    · obtain ⟨hg1, hg2⟩ := hg
      have hgb : (x.gi != 0) = true := by simpa using hg1
      have HF : Hid (flagsR x.mm 6 = x.flags + 32768) := if_pos ⟨rfl, hg1, hg2⟩
      have hf0 : 0 ≤ x.flags := HRM.out.1.2.2.2.2.2.2.1.1
      clear hg1
      obtain ⟨⟨m0, m1, m2, m3, m4, m5, m6⟩, m7, m8, m9, m10, m11, m12⟩ := KM.out w8 HST.out.b
      obtain ⟨z0, z1, z2, z3, z4, z5, z6, z7, z8, z9, z10, z11, z12, zf⟩ := cels13 HST.out.out
      obtain ⟨w9, hw9⟩ : ∃ w9, w9 = w8.setCell ⟨w.heap.size + 4, 6, none⟩ (.int .i64 (x.flags + 32768)) := ⟨_, rfl⟩
      have HST : Hid (St x w5 (w.heap.size + 4) w9 A 2 k ps (oC x (x.flags + 32768) 0 0 (.slice none 0 0))) := by rw [hw9]; exact HST.out.put 6 _
      have hwr : IntKind.i64.wrap (x.flags + 32768) = x.flags + 32768 := IntWalk.i64_in _ (by omega)
      go_upto_region 14 with fail
      rw [← hw9]
      clear hw9 hwr z0 z1 z2 z3 z4 z5 z6 z7 z8 z9 z10 z11 z12 zf m0 m1 m2 m3 m4 m5 m6 m7 m8 m9 m10 m11 m12 hg2 hf0
      have hnl := HST.out.len HOS.out (sm2 c.server 6)
      simp only [List.length_cons, List.length_nil] at hnl
      obtain ⟨⟨m0, m1, m2, m3, m4, m5, m6⟩, m7, m8, m9, m10, m11, m12⟩ := KM.out w9 HST.out.b
      go_wp2_with fail
      refine (echoed_any x 61 w9 (HXO.out _ (KW.out _ HST.out.b))).mono ?_
      rintro e we ⟨A2, n2, k2, qs, rfl, hrc, hqx, hqo, hn2, hql, hb2⟩
      have HSa := Lib.hid (HST.out.below hb2)
      have HQO := Lib.hid hqo
      have HQX := Lib.hid hqx
      have hsz := HSa.out.size
      clear hb2 hqo hqx m0 m1 m2 m3 m4 m5 m6 m7 m8 m9 m10 m11 m12
      go_wp2_with (at_builtin; refine wpList_appO Tw.opP rfl (.tmp 97) (.tmp 99) rfl rfl HSa.out.row rfl hrc (by omega) hsz ?_; intro A3 k3 wf hown3 hb3 hg3; have HST := Lib.hid (HSa.out.app hown3 hb3 hg3 (fun q hq => .inr (HQX.out q hq))); have HOS : Hid (osP (ps ++ qs) = O2 c.server 6 ++ echoL (osP x.ps) 61) := (by show _ = _; rw [os_app, HOS.out, HQO.out]); clear hown3 hb3 hg3 HSa hrc hsz; obtain ⟨⟨m0, m1, m2, m3, m4, m5, m6⟩, m7, m8, m9, m10, m11, m12⟩ := KM.out wf HST.out.b)
      refine (echoed_any x 82 wf (HXO.out _ (KW.out _ HST.out.b))).mono ?_
      rintro e wg ⟨A4, n4, k4, rs, rfl, hrc, hqx, hqo, hn4, hql4, hb2⟩
      have HSa := Lib.hid (HST.out.below hb2)
      have HQO4 := Lib.hid hqo
      have HQX4 := Lib.hid hqx
      have hsz := HSa.out.size
      clear hb2 hqo hqx m0 m1 m2 m3 m4 m5 m6 m7 m8 m9 m10 m11 m12
      go_wp2_with (at_builtin; refine wpList_appO Tw.opP rfl (.tmp 101) (.tmp 103) rfl rfl HSa.out.row rfl hrc (by omega) hsz ?_; intro A5 k5 wh hown5 hb5 hg5; have HST5 := Lib.hid (HSa.out.app hown5 hb5 hg5 (fun q hq => .inr (HQX4.out q hq))); have HOS5 : Hid (osP (ps ++ qs ++ rs) = O2 c.server 6 ++ echoL (osP x.ps) 61 ++ echoL (osP x.ps) 82) := (by show _ = _; rw [os_app, HOS.out, HQO4.out]); clear hown5 hb5 hg5; obtain ⟨z0, z1, z2, z3, z4, z5, z6, z7, z8, z9, z10, z11, z12, zf⟩ := cels13 HST5.out.out; obtain ⟨y0, y1, y2, y3, y4, y5, y6, y7, y8, y9, y10, y11, y12, yf⟩ := cels13 (KR.out _ HST5.out.b); clear HSa hrc hsz)
      have HFI := Lib.hid (HST5.out.put 12 (.slice A5 (2 + n2 + n4) k5))
      refine bodyPost_ret (ret_rmsg rfl _ _ (w.heap.size + 2) (oC x (x.flags + 32768) (0) (0) (.slice A5 (2 + n2 + n4) k5)) rfl (celZ13 (KR.out _ HFI.out.b) _ _ _ _ _ _ _ _ _ _ _ _ _) rfl) rfl ?_
      have hz := HZ5.out
      refine ⟨⟨2, x.htype, x.hlen, 0, x.xid, 0, (x.flags + 32768), 0, 0, 0, x.gi, x.A, x.n, x.c, x.ch, A5, 2 + n2 + n4, k5, ps ++ qs ++ rs⟩, rfl, ?_, ?_, below13 (KW.out _ HFI.out.b) (by omega) _ _ _ _ _ _ _ _ _ _ _ _ _⟩
      · refine ⟨(HXO.out _ (below13 (KW.out _ HFI.out.b) (Nat.le_add_right w.heap.size 2) _ _ _ _ _ _ _ _ _ _ _ _ _)).ch, OwnC.rdc (e := 45) (B := w5.heap.size) (row_low HFI.out.row (by omega) (grown13 _ (w.heap.size + 2) _ _ _ _ _ _ _ _ _ _ _ _ _)), fun p hp => ?_⟩
        rcases HFI.out.own p hp with hp | hp
        · exact Own.bs (e := 5) (B := w5.heap.size) (row_low hp (by omega) (grown13 _ (w.heap.size + 2) _ _ _ _ _ _ _ _ _ _ _ _ _))
        · exact (HXO.out _ (below13 (KW.out _ HFI.out.b) (Nat.le_add_right w.heap.size 2) _ _ _ _ _ _ _ _ _ _ _ _ _)).os.2 p hp
      · show (⟨2, x.htype, x.hlen, 0, x.xid, 0, (x.flags + 32768), 0, 0, 0, x.gi, x.ch, osP (ps ++ qs ++ rs)⟩ : M) = _
        rw [HOS5.out]
        rw [← o_nak c.server s.s (osP x.ps) yi, ← HF.out]
        rfl
    · have HF : Hid (flagsR x.mm 6 = x.flags) := if_neg (fun q => hg q.2)
      have HG := Lib.hid hg
      clear hg
      obtain ⟨⟨m0, m1, m2, m3, m4, m5, m6⟩, m7, m8, m9, m10, m11, m12⟩ := KM.out w8 HST.out.b
      have hgc : (x.gi != 0) = false ∨ ((x.gi != 0) = true ∧ decide (x.flags < 32768) = false) := by
        by_cases q : x.gi = 0
        · exact .inl (by simp [q])
        · exact .inr ⟨by simpa using q, decide_eq_false (fun q2 => HG.out ⟨q, q2⟩)⟩
      rcases hgc with hgb | ⟨hgb, hfb⟩
      all_goals (
        go_upto_region 14 with fail
        clear m0 m1 m2 m3 m4 m5 m6 m7 m8 m9 m10 m11 m12
        have hnl := HST.out.len HOS.out (sm2 c.server 6)
        simp only [List.length_cons, List.length_nil] at hnl
        obtain ⟨⟨m0, m1, m2, m3, m4, m5, m6⟩, m7, m8, m9, m10, m11, m12⟩ := KM.out w8 HST.out.b
        go_wp2_with fail
        refine (echoed_any x 61 w8 (HXO.out _ (KW.out _ HST.out.b))).mono ?_
        rintro e we ⟨A2, n2, k2, qs, rfl, hrc, hqx, hqo, hn2, hql, hb2⟩
        have HSa := Lib.hid (HST.out.below hb2)
        have HQO := Lib.hid hqo
        have HQX := Lib.hid hqx
        have hsz := HSa.out.size
        clear hb2 hqo hqx m0 m1 m2 m3 m4 m5 m6 m7 m8 m9 m10 m11 m12
        go_wp2_with (at_builtin; refine wpList_appO Tw.opP rfl (.tmp 97) (.tmp 99) rfl rfl HSa.out.row rfl hrc (by omega) hsz ?_; intro A3 k3 wf hown3 hb3 hg3; have HST := Lib.hid (HSa.out.app hown3 hb3 hg3 (fun q hq => .inr (HQX.out q hq))); have HOS : Hid (osP (ps ++ qs) = O2 c.server 6 ++ echoL (osP x.ps) 61) := (by show _ = _; rw [os_app, HOS.out, HQO.out]); clear hown3 hb3 hg3 HSa hrc hsz; obtain ⟨⟨m0, m1, m2, m3, m4, m5, m6⟩, m7, m8, m9, m10, m11, m12⟩ := KM.out wf HST.out.b)
        refine (echoed_any x 82 wf (HXO.out _ (KW.out _ HST.out.b))).mono ?_
        rintro e wg ⟨A4, n4, k4, rs, rfl, hrc, hqx, hqo, hn4, hql4, hb2⟩
        have HSa := Lib.hid (HST.out.below hb2)
        have HQO4 := Lib.hid hqo
        have HQX4 := Lib.hid hqx
        have hsz := HSa.out.size
        clear hb2 hqo hqx m0 m1 m2 m3 m4 m5 m6 m7 m8 m9 m10 m11 m12
        go_wp2_with (at_builtin; refine wpList_appO Tw.opP rfl (.tmp 101) (.tmp 103) rfl rfl HSa.out.row rfl hrc (by omega) hsz ?_; intro A5 k5 wh hown5 hb5 hg5; have HST5 := Lib.hid (HSa.out.app hown5 hb5 hg5 (fun q hq => .inr (HQX4.out q hq))); have HOS5 : Hid (osP (ps ++ qs ++ rs) = O2 c.server 6 ++ echoL (osP x.ps) 61 ++ echoL (osP x.ps) 82) := (by show _ = _; rw [os_app, HOS.out, HQO4.out]); clear hown5 hb5 hg5; obtain ⟨z0, z1, z2, z3, z4, z5, z6, z7, z8, z9, z10, z11, z12, zf⟩ := cels13 HST5.out.out; obtain ⟨y0, y1, y2, y3, y4, y5, y6, y7, y8, y9, y10, y11, y12, yf⟩ := cels13 (KR.out _ HST5.out.b); clear HSa hrc hsz)
        have HFI := Lib.hid (HST5.out.put 12 (.slice A5 (2 + n2 + n4) k5))
        refine bodyPost_ret (ret_rmsg rfl _ _ (w.heap.size + 2) (oC x x.flags (0) (0) (.slice A5 (2 + n2 + n4) k5)) rfl (celZ13 (KR.out _ HFI.out.b) _ _ _ _ _ _ _ _ _ _ _ _ _) rfl) rfl ?_
        have hz := HZ5.out
        refine ⟨⟨2, x.htype, x.hlen, 0, x.xid, 0, x.flags, 0, 0, 0, x.gi, x.A, x.n, x.c, x.ch, A5, 2 + n2 + n4, k5, ps ++ qs ++ rs⟩, rfl, ?_, ?_, below13 (KW.out _ HFI.out.b) (by omega) _ _ _ _ _ _ _ _ _ _ _ _ _⟩
        · refine ⟨(HXO.out _ (below13 (KW.out _ HFI.out.b) (Nat.le_add_right w.heap.size 2) _ _ _ _ _ _ _ _ _ _ _ _ _)).ch, OwnC.rdc (e := 45) (B := w5.heap.size) (row_low HFI.out.row (by omega) (grown13 _ (w.heap.size + 2) _ _ _ _ _ _ _ _ _ _ _ _ _)), fun p hp => ?_⟩
          rcases HFI.out.own p hp with hp | hp
          · exact Own.bs (e := 5) (B := w5.heap.size) (row_low hp (by omega) (grown13 _ (w.heap.size + 2) _ _ _ _ _ _ _ _ _ _ _ _ _))
          · exact (HXO.out _ (below13 (KW.out _ HFI.out.b) (Nat.le_add_right w.heap.size 2) _ _ _ _ _ _ _ _ _ _ _ _ _)).os.2 p hp
        · show (⟨2, x.htype, x.hlen, 0, x.xid, 0, x.flags, 0, 0, 0, x.gi, x.ch, osP (ps ++ qs ++ rs)⟩ : M) = _
          rw [HOS5.out]
          rw [← o_nak c.server s.s (osP x.ps) yi, ← HF.out]
          rfl)
  · have hk6 : (kind == 6) = false := by simpa using h6
    have HK6 := Lib.hid h6
    go_enter Tryz.func12, Tryz.ntmps12
    go_upto_region 1 with fail
    rw [← hw3]
    clear hw3
    go_upto_region 3 with fail
    rw [← hw5]
    clear hw5 c0 c1 c2 m0 m1 m2 m3 m4 m5 m6 m7 m8 m9 m10 m11 m12 s0 s1 s2 s3 s4 s5 s6 hcell
    go_cut [15] from 38 to 45 (fun v wx => ∃ (A : Option Addr) (c2 : Nat) (ps : List Po), v = .slice A 2 c2 ∧ Hid (St x w5 (w.heap.size + 4) wx A 2 c2 ps (oC x x.flags 0 0 (.slice none 0 0))) ∧ Hid (osP ps = O2 c.server kind))
    case first =>
      obtain ⟨d, hd⟩ : ∃ d, numB c.server 4 = d := ⟨_, rfl⟩
      rcases hkd with rfl | rfl | hk6b
      rotate_left
      rotate_left
      · exact absurd hk6b h6
      · have h1 := Own.lit1 5 w5 2
        obtain ⟨w6, hw6⟩ : ∃ w6, w6 = w5.alloc (.cells #[.int .u8 2] 5) := ⟨_, rfl⟩
        have b56 := alloc_more w5 (.cells #[.int .u8 2] 5)
        rw [← hw6] at b56
        have h1' : Own 5 w5.heap.size w6 (some ⟨w5.heap.size, 0, none⟩) 1 1 [byteI 2] := by rw [hw6]; exact h1
        have H1 := Lib.hid h1'
        have H56 := Lib.hid b56
        obtain ⟨c0, c1, c2⟩ := KC.out w6 (b56.mono (by have := HZ5.out; omega))
        rw [hw6] at c0 c1 c2
        clear h1 h1' b56
        go_wp2_with fail
        rw [← hw6]
        clear hw6
        refine (four_any 54 c.server d w6 T1.out hd).mono ?_
        rintro e w7 ⟨A2, k2, rfl, hown2, hb2⟩
        have H2 := Lib.hid hown2
        have H67 := Lib.hid hb2
        clear hown2 hb2 c0 c1 c2
        go_wp2_with fail
        go_meet
        have hl2 := OwnC.lit2 45 w7 ⟨53, some ⟨w5.heap.size, 0, none⟩, 1, [byteI 2]⟩ ⟨54, A2, k2, d⟩
        have hal := alloc_more w7 (.cells #[.int .i64 53, .slice (some ⟨w5.heap.size, 0, none⟩) 1 1, .int .i64 54, .slice A2 d.length k2] 45)
        have hz := HZ5.out
        have s56 := H56.out.size
        have s67 := H67.out.size
        exact ⟨_, 2, _, rfl, ⟨hl2.mono (by omega), fun p hp => by
            have hp' : p = ⟨53, some ⟨w5.heap.size, 0, none⟩, 1, [byteI 2]⟩ ∨ p = ⟨54, A2, k2, d⟩ := by simpa using hp
            rcases hp' with rfl | rfl
            · exact .inl ((H1.out.below H67.out).below hal)
            · exact .inl ((H2.out.mono s56).below hal), ((HO5.out.below H56.out HO5.out.lt).below H67.out (by omega)).below hal (by omega), ((H56.out.mono (by omega)).trans (H67.out.mono (by omega))).trans (hal.mono (by omega)), by omega⟩, by rw [← hd]; rfl⟩
      · have h1 := Own.lit1 5 w5 5
        obtain ⟨w6, hw6⟩ : ∃ w6, w6 = w5.alloc (.cells #[.int .u8 5] 5) := ⟨_, rfl⟩
        have b56 := alloc_more w5 (.cells #[.int .u8 5] 5)
        rw [← hw6] at b56
        have h1' : Own 5 w5.heap.size w6 (some ⟨w5.heap.size, 0, none⟩) 1 1 [byteI 5] := by rw [hw6]; exact h1
        have H1 := Lib.hid h1'
        have H56 := Lib.hid b56
        obtain ⟨c0, c1, c2⟩ := KC.out w6 (b56.mono (by have := HZ5.out; omega))
        rw [hw6] at c0 c1 c2
        clear h1 h1' b56
        go_wp2_with fail
        rw [← hw6]
        clear hw6
        refine (four_any 54 c.server d w6 T1.out hd).mono ?_
        rintro e w7 ⟨A2, k2, rfl, hown2, hb2⟩
        have H2 := Lib.hid hown2
        have H67 := Lib.hid hb2
        clear hown2 hb2 c0 c1 c2
        go_wp2_with fail
        go_meet
        have hl2 := OwnC.lit2 45 w7 ⟨53, some ⟨w5.heap.size, 0, none⟩, 1, [byteI 5]⟩ ⟨54, A2, k2, d⟩
        have hal := alloc_more w7 (.cells #[.int .i64 53, .slice (some ⟨w5.heap.size, 0, none⟩) 1 1, .int .i64 54, .slice A2 d.length k2] 45)
        have hz := HZ5.out
        have s56 := H56.out.size
        have s67 := H67.out.size
        exact ⟨_, 2, _, rfl, ⟨hl2.mono (by omega), fun p hp => by
            have hp' : p = ⟨53, some ⟨w5.heap.size, 0, none⟩, 1, [byteI 5]⟩ ∨ p = ⟨54, A2, k2, d⟩ := by simpa using hp
            rcases hp' with rfl | rfl
            · exact .inl ((H1.out.below H67.out).below hal)
            · exact .inl ((H2.out.mono s56).below hal), ((HO5.out.below H56.out HO5.out.lt).below H67.out (by omega)).below hal (by omega), ((H56.out.mono (by omega)).trans (H67.out.mono (by omega))).trans (hal.mono (by omega)), by omega⟩, by rw [← hd]; rfl⟩
    case rest =>
    obtain ⟨A, k, ps, rfl, HST, HOS⟩ := hcut
    obtain ⟨w8, hw8⟩ : ∃ q, q = wc := ⟨_, rfl⟩
    subst hw8
    have hz := HZ5.out
    clear h6
    obtain ⟨z0, z1, z2, z3, z4, z5, z6, z7, z8, z9, z10, z11, z12, zf⟩ := cels13 HST.out.out
    obtain ⟨w9, hw9⟩ : ∃ w9, w9 = w8.setCell ⟨w.heap.size + 4, 8, none⟩ (.int .i64 yi) := ⟨_, rfl⟩
    have HST : Hid (St x w5 (w.heap.size + 4) w9 A 2 k ps (oC x x.flags 0 yi (.slice none 0 0))) := by rw [hw9]; exact HST.out.put 8 _
    go_upto_region 8 with fail
    rw [← hw9]
    clear hw9 z0 z1 z2 z3 z4 z5 z6 z7 z8 z9 z10 z11 z12 zf
    obtain ⟨n, hn⟩ : ∃ n : Nat, n = 2 := ⟨_, rfl⟩
    go_upto_if 63 with fail
    go_cut [15] from 62 to 69 (fun v wx => ∃ (A : Option Addr) (n k : Nat) (ps : List Po), v = .slice A n k ∧ Hid (St x w5 (w.heap.size + 4) wx A n k ps (oC x x.flags 0 yi (.slice none 0 0))) ∧ Hid (osP ps = O3 c.server kind s.s (decide (0 < yi))))
    case first =>
      subst hn
      by_cases hy : 0 < yi
      rotate_left
      · have hyb : decide (0 < yi) = false := decide_eq_false hy
        go_wp2_with fail
        go_meet
        exact ⟨A, 2, k, ps, rfl, HST, Lib.hid (by rw [HOS.out, hyb]; simp [O3, ifL])⟩
      · have hyb : decide (0 < yi) = true := decide_eq_true hy
        obtain ⟨s0, s1, s2, s3, s4, s5, s6⟩ := KS.out w9 HST.out.b
        obtain ⟨d, hd⟩ : ∃ d, numB (s.time) 4 = d := ⟨_, rfl⟩
        go_wp2_with fail
        refine (four_any 51 (s.time) d w9 T2.out hd).mono ?_
        rintro e wa ⟨A2, k2, rfl, hown2, hb2⟩
        have hal := alloc_more wa (.cells #[.int .i64 51, .slice A2 d.length k2] 45)
        have HSa := Lib.hid ((HST.out.below hb2).below hal)
        have HQ := Lib.hid ((hown2.mono HST.out.size).below hal)
        have hlit := (OwnC.lit1 45 wa ⟨51, A2, k2, d⟩).rdc
        have hsz := HSa.out.size
        have hnl : 2 ≤ 7 := (by omega)
        have HD := Lib.hid hd
        clear hown2 hb2 hal hd s0 s1 s2 s3 s4 s5 s6
        go_wp2_with (at_builtin; refine wpList_appO Tw.opP rfl (.tmp 64) (.tmp 68) rfl rfl HSa.out.row rfl hlit (by omega) hsz ?_; intro A3 k3 w10 hown3 hb3 hg3)
        have HST := Lib.hid (HSa.out.app hown3 hb3 hg3 (fun q hq => by rcases List.mem_singleton.1 hq with rfl; exact .inl HQ.out))
        have HOS : Hid (osP (ps ++ [⟨51, A2, k2, d⟩]) = O3 c.server kind s.s true) := by show _ = _; rw [os_app, HOS.out, ← HD.out]; rfl
        clear hown3 hb3 hg3 HQ HSa hlit hsz hnl HD
        go_wp2_with fail
        go_meet
        exact ⟨A3, 2 + 1, k3, _, rfl, HST, Lib.hid (by rw [hyb]; exact HOS.out)⟩
    case rest =>
    obtain ⟨A, n, k, ps, rfl, HST, HOS⟩ := hcut
    obtain ⟨w11, hww⟩ : ∃ q, q = wc := ⟨_, rfl⟩
    subst hww
    generalize hp : decide (0 < yi) = p at HOS
    have HP := Lib.hid hp
    clear hp hn
    obtain ⟨a1, ha1⟩ : ∃ a1, asksL (osP x.ps) 1 = a1 := ⟨_, rfl⟩
    obtain ⟨a3, ha3⟩ : ∃ a3, asksL (osP x.ps) 3 = a3 := ⟨_, rfl⟩
    have HA1 := Lib.hid (fun W (hW : x.ok W) => refAsked_any x 1 W hW)
    have HA3 := Lib.hid (fun W (hW : x.ok W) => refAsked_any x 3 W hW)
    rw [ha1] at HA1
    rw [ha3] at HA3
    have HQ1 := Lib.hid ha1
    have HQ3 := Lib.hid ha3
    clear ha1 ha3
    obtain ⟨⟨m0, m1, m2, m3, m4, m5, m6⟩, m7, m8, m9, m10, m11, m12⟩ := KM.out w11 HST.out.b
    go_wp2_with fail
    refine (HA1.out _ (HXO.out _ (KW.out _ HST.out.b))).mono ?_
    rintro e w12 ⟨rfl, hb⟩
    have HST := Lib.hid (HST.out.below hb)
    clear hb m0 m1 m2 m3 m4 m5 m6 m7 m8 m9 m10 m11 m12
    go_upto_if 71 with fail
    go_cut [15] from 70 to 78 (fun v wx => ∃ (A : Option Addr) (n k : Nat) (ps : List Po), v = .slice A n k ∧ Hid (St x w5 (w.heap.size + 4) wx A n k ps (oC x x.flags 0 yi (.slice none 0 0))) ∧ Hid (osP ps = O4 c.server kind s.s p a1))
    case first =>
      cases a1 with
      | false =>
        go_wp2_with fail
        go_meet
        exact ⟨A, n, k, ps, rfl, HST, Lib.hid (by rw [HOS.out]; simp [O4, ifL])⟩
      | true =>
        obtain ⟨s0, s1, s2, s3, s4, s5, s6⟩ := KS.out w12 HST.out.b
        go_wp2_with fail
        refine (Aw.refMask_any s.bits w12 T4.out.1 T4.out.2).mono ?_
        rintro e wm ⟨rfl, rfl⟩
        obtain ⟨d, hd⟩ : ∃ d, numB (4294967296 - sz s.bits) 4 = d := ⟨_, rfl⟩
        go_wp2_with fail
        refine (four_any 1 (4294967296 - sz s.bits) d w12 T3.out hd).mono ?_
        rintro e wa ⟨A2, k2, rfl, hown2, hb2⟩
        have hal := alloc_more wa (.cells #[.int .i64 1, .slice A2 d.length k2] 45)
        have HSa := Lib.hid ((HST.out.below hb2).below hal)
        have HQ := Lib.hid ((hown2.mono HST.out.size).below hal)
        have hlit := (OwnC.lit1 45 wa ⟨1, A2, k2, d⟩).rdc
        have hsz := HSa.out.size
        have hnl : n ≤ 7 := Nat.le_trans (HST.out.len HOS.out (sm3 c.server kind s.s p)) (by decide)
        have HD := Lib.hid hd
        clear hown2 hb2 hal hd s0 s1 s2 s3 s4 s5 s6
        go_wp2_with (at_builtin; refine wpList_appO Tw.opP rfl (.tmp 72) (.tmp 77) rfl rfl HSa.out.row rfl hlit (by omega) hsz ?_; intro A3 k3 w13 hown3 hb3 hg3)
        have HST := Lib.hid (HSa.out.app hown3 hb3 hg3 (fun q hq => by rcases List.mem_singleton.1 hq with rfl; exact .inl HQ.out))
        have HOS : Hid (osP (ps ++ [⟨1, A2, k2, d⟩]) = O4 c.server kind s.s p true) := by show _ = _; rw [os_app, HOS.out, ← HD.out]; rfl
        clear hown3 hb3 hg3 HQ HSa hlit hsz hnl HD
        go_wp2_with fail
        go_meet
        exact ⟨A3, n + 1, k3, _, rfl, HST, HOS⟩
    case rest =>
    obtain ⟨A, n, k, ps, rfl, HST, HOS⟩ := hcut
    obtain ⟨w14, hww⟩ : ∃ q, q = wc := ⟨_, rfl⟩
    subst hww
    obtain ⟨q, hq⟩ : ∃ q, decide (0 < s.router) = q := ⟨_, rfl⟩
    have HAC : Hid (optsR c.server s.s (osP x.ps) kind yi = (O5 c.server kind s.s p a1 (a3 && q) ++ echoL (osP x.ps) 61) ++ echoL (osP x.ps) 82) := by
      show _ = _
      rw [o_ref c.server s.s (osP x.ps) HK6.out, HP.out, HQ1.out, HQ3.out, show decide (0 < s.s.router) = q from hq]
    have HQR := Lib.hid hq
    clear hq
    go_upto_region 12 with fail
    go_cut [85] from 79 to 85 (fun v2 wx => v2 = .bool (a3 && q) ∧ Hid (St x w5 (w.heap.size + 4) wx A n k ps (oC x x.flags 0 yi (.slice none 0 0))))
    case first =>
      obtain ⟨⟨m0, m1, m2, m3, m4, m5, m6⟩, m7, m8, m9, m10, m11, m12⟩ := KM.out w14 HST.out.b
      go_wp2_with fail
      refine (HA3.out _ (HXO.out _ (KW.out _ HST.out.b))).mono ?_
      rintro e w15 ⟨rfl, hb⟩
      have HST := Lib.hid (HST.out.below hb)
      clear hb m0 m1 m2 m3 m4 m5 m6 m7 m8 m9 m10 m11 m12
      obtain ⟨s0, s1, s2, s3, s4, s5, s6⟩ := KS.out w15 HST.out.b
      cases a3 with
      | false =>
        go_wp2_with fail
        go_meet
        exact ⟨rfl, HST⟩
      | true =>
        by_cases hr : 0 < s.router
        · have hq : q = true := HQR.out.symm.trans (decide_eq_true hr)
          go_wp2_with fail
          go_meet
          exact ⟨by rw [hq]; rfl, HST⟩
        · have hq : q = false := HQR.out.symm.trans (decide_eq_false hr)
          go_wp2_with fail
          go_meet
          exact ⟨by rw [hq, decide_eq_false (show ¬ 0 < s.router by omega)]; rfl, HST⟩
    case rest =>
    obtain ⟨rfl, HST⟩ := hcut
    obtain ⟨w16, hww⟩ : ∃ q, q = wc := ⟨_, rfl⟩
    subst hww
    generalize hr : (a3 && q) = r at HAC ⊢
    clear hr HQR HQ3 HA3
    go_upto_if 85 with fail
    go_cut [15] from 79 to 91 (fun v wx => ∃ (A : Option Addr) (n k : Nat) (ps : List Po), v = .slice A n k ∧ Hid (St x w5 (w.heap.size + 4) wx A n k ps (oC x x.flags 0 yi (.slice none 0 0))) ∧ Hid (osP ps = O5 c.server kind s.s p a1 r))
    case first =>
      cases r with
      | false =>
        go_wp2_with fail
        go_meet
        exact ⟨A, n, k, ps, rfl, HST, Lib.hid (by rw [HOS.out]; simp [O5, ifL])⟩
      | true =>
        obtain ⟨s0, s1, s2, s3, s4, s5, s6⟩ := KS.out w16 HST.out.b
        obtain ⟨d, hd⟩ : ∃ d, numB (s.router) 4 = d := ⟨_, rfl⟩
        go_wp2_with fail
        refine (four_any 3 (s.router) d w16 T5.out hd).mono ?_
        rintro e wa ⟨A2, k2, rfl, hown2, hb2⟩
        have hal := alloc_more wa (.cells #[.int .i64 3, .slice A2 d.length k2] 45)
        have HSa := Lib.hid ((HST.out.below hb2).below hal)
        have HQ := Lib.hid ((hown2.mono HST.out.size).below hal)
        have hlit := (OwnC.lit1 45 wa ⟨3, A2, k2, d⟩).rdc
        have hsz := HSa.out.size
        have hnl : n ≤ 7 := Nat.le_trans (HST.out.len HOS.out (sm4 c.server kind s.s p a1)) (by decide)
        have HD := Lib.hid hd
        clear hown2 hb2 hal hd s0 s1 s2 s3 s4 s5 s6
        go_wp2_with (at_builtin; refine wpList_appO Tw.opP rfl (.tmp 86) (.tmp 90) rfl rfl HSa.out.row rfl hlit (by omega) hsz ?_; intro A3 k3 w17 hown3 hb3 hg3)
        have HST := Lib.hid (HSa.out.app hown3 hb3 hg3 (fun q hq => by rcases List.mem_singleton.1 hq with rfl; exact .inl HQ.out))
        have HOS : Hid (osP (ps ++ [⟨3, A2, k2, d⟩]) = O5 c.server kind s.s p a1 true) := by show _ = _; rw [os_app, HOS.out, ← HD.out]; rfl
        clear hown3 hb3 hg3 HQ HSa hlit hsz hnl HD
        go_wp2_with fail
        go_meet
        exact ⟨A3, n + 1, k3, _, rfl, HST, HOS⟩
    case rest =>
    obtain ⟨A, n, k, ps, rfl, HST, HOS⟩ := hcut
    obtain ⟨w18, hww⟩ : ∃ q, q = wc := ⟨_, rfl⟩
    subst hww
    rcases HKD.out with rfl | rfl | hk6c
    · clear hk6
      go_upto_region 16 with fail
      have hnl := HST.out.len HOS.out (sm5 c.server 2 s.s p a1 r)
      simp only [List.length_cons, List.length_nil] at hnl
      obtain ⟨⟨m0, m1, m2, m3, m4, m5, m6⟩, m7, m8, m9, m10, m11, m12⟩ := KM.out w18 HST.out.b
      go_wp2_with fail
      refine (echoed_any x 61 w18 (HXO.out _ (KW.out _ HST.out.b))).mono ?_
      rintro e we ⟨A2, n2, k2, qs, rfl, hrc, hqx, hqo, hn2, hql, hb2⟩
      have HSa := Lib.hid (HST.out.below hb2)
      have HQO := Lib.hid hqo
      have HQX := Lib.hid hqx
      have hsz := HSa.out.size
      clear hb2 hqo hqx m0 m1 m2 m3 m4 m5 m6 m7 m8 m9 m10 m11 m12
      go_wp2_with (at_builtin; refine wpList_appO Tw.opP rfl (.tmp 97) (.tmp 99) rfl rfl HSa.out.row rfl hrc (by omega) hsz ?_; intro A3 k3 wf hown3 hb3 hg3; have HST := Lib.hid (HSa.out.app hown3 hb3 hg3 (fun q hq => .inr (HQX.out q hq))); have HOS : Hid (osP (ps ++ qs) = O5 c.server 2 s.s p a1 r ++ echoL (osP x.ps) 61) := (by show _ = _; rw [os_app, HOS.out, HQO.out]); clear hown3 hb3 hg3 HSa hrc hsz; obtain ⟨⟨m0, m1, m2, m3, m4, m5, m6⟩, m7, m8, m9, m10, m11, m12⟩ := KM.out wf HST.out.b)
      refine (echoed_any x 82 wf (HXO.out _ (KW.out _ HST.out.b))).mono ?_
      rintro e wg ⟨A4, n4, k4, rs, rfl, hrc, hqx, hqo, hn4, hql4, hb2⟩
      have HSa := Lib.hid (HST.out.below hb2)
      have HQO4 := Lib.hid hqo
      have HQX4 := Lib.hid hqx
      have hsz := HSa.out.size
      clear hb2 hqo hqx m0 m1 m2 m3 m4 m5 m6 m7 m8 m9 m10 m11 m12
      go_wp2_with (at_builtin; refine wpList_appO Tw.opP rfl (.tmp 101) (.tmp 103) rfl rfl HSa.out.row rfl hrc (by omega) hsz ?_; intro A5 k5 wh hown5 hb5 hg5; have HST5 := Lib.hid (HSa.out.app hown5 hb5 hg5 (fun q hq => .inr (HQX4.out q hq))); have HOS5 : Hid (osP (ps ++ qs ++ rs) = O5 c.server 2 s.s p a1 r ++ echoL (osP x.ps) 61 ++ echoL (osP x.ps) 82) := (by show _ = _; rw [os_app, HOS.out, HQO4.out]); clear hown5 hb5 hg5; obtain ⟨z0, z1, z2, z3, z4, z5, z6, z7, z8, z9, z10, z11, z12, zf⟩ := cels13 HST5.out.out; obtain ⟨y0, y1, y2, y3, y4, y5, y6, y7, y8, y9, y10, y11, y12, yf⟩ := cels13 (KR.out _ HST5.out.b); clear HSa hrc hsz)
      have HFI := Lib.hid (HST5.out.put 12 (.slice A5 (n + n2 + n4) k5))
      refine bodyPost_ret (ret_rmsg rfl _ _ (w.heap.size + 2) (oC x x.flags (0) (yi) (.slice A5 (n + n2 + n4) k5)) rfl (celZ13 (KR.out _ HFI.out.b) _ _ _ _ _ _ _ _ _ _ _ _ _) rfl) rfl ?_
      have hz := HZ5.out
      refine ⟨⟨2, x.htype, x.hlen, 0, x.xid, 0, x.flags, 0, yi, 0, x.gi, x.A, x.n, x.c, x.ch, A5, n + n2 + n4, k5, ps ++ qs ++ rs⟩, rfl, ?_, ?_, below13 (KW.out _ HFI.out.b) (by omega) _ _ _ _ _ _ _ _ _ _ _ _ _⟩
      · refine ⟨(HXO.out _ (below13 (KW.out _ HFI.out.b) (Nat.le_add_right w.heap.size 2) _ _ _ _ _ _ _ _ _ _ _ _ _)).ch, OwnC.rdc (e := 45) (B := w5.heap.size) (row_low HFI.out.row (by omega) (grown13 _ (w.heap.size + 2) _ _ _ _ _ _ _ _ _ _ _ _ _)), fun p hp => ?_⟩
        rcases HFI.out.own p hp with hp | hp
        · exact Own.bs (e := 5) (B := w5.heap.size) (row_low hp (by omega) (grown13 _ (w.heap.size + 2) _ _ _ _ _ _ _ _ _ _ _ _ _))
        · exact (HXO.out _ (below13 (KW.out _ HFI.out.b) (Nat.le_add_right w.heap.size 2) _ _ _ _ _ _ _ _ _ _ _ _ _)).os.2 p hp
      · show (⟨2, x.htype, x.hlen, 0, x.xid, 0, x.flags, 0, yi, 0, x.gi, x.ch, osP (ps ++ qs ++ rs)⟩ : M) = _
        rw [HOS5.out]
        rw [← HAC.out]
        rfl
    · clear hk6
      obtain ⟨⟨m0, m1, m2, m3, m4, m5, m6⟩, m7, m8, m9, m10, m11, m12⟩ := KM.out w18 HST.out.b
      obtain ⟨z0, z1, z2, z3, z4, z5, z6, z7, z8, z9, z10, z11, z12, zf⟩ := cels13 HST.out.out
      obtain ⟨w19, hw19⟩ : ∃ w19, w19 = w18.setCell ⟨w.heap.size + 4, 7, none⟩ (.int .i64 x.ci) := ⟨_, rfl⟩
      have HST : Hid (St x w5 (w.heap.size + 4) w19 A n k ps (oC x x.flags x.ci yi (.slice none 0 0))) := by rw [hw19]; exact HST.out.put 7 _
      go_upto_region 16 with fail
      rw [← hw19]
      clear hw19 z0 z1 z2 z3 z4 z5 z6 z7 z8 z9 z10 z11 z12 zf m0 m1 m2 m3 m4 m5 m6 m7 m8 m9 m10 m11 m12
      have hnl := HST.out.len HOS.out (sm5 c.server 5 s.s p a1 r)
      simp only [List.length_cons, List.length_nil] at hnl
      obtain ⟨⟨m0, m1, m2, m3, m4, m5, m6⟩, m7, m8, m9, m10, m11, m12⟩ := KM.out w19 HST.out.b
      go_wp2_with fail
      refine (echoed_any x 61 w19 (HXO.out _ (KW.out _ HST.out.b))).mono ?_
      rintro e we ⟨A2, n2, k2, qs, rfl, hrc, hqx, hqo, hn2, hql, hb2⟩
      have HSa := Lib.hid (HST.out.below hb2)
      have HQO := Lib.hid hqo
      have HQX := Lib.hid hqx
      have hsz := HSa.out.size
      clear hb2 hqo hqx m0 m1 m2 m3 m4 m5 m6 m7 m8 m9 m10 m11 m12
      go_wp2_with (at_builtin; refine wpList_appO Tw.opP rfl (.tmp 97) (.tmp 99) rfl rfl HSa.out.row rfl hrc (by omega) hsz ?_; intro A3 k3 wf hown3 hb3 hg3; have HST := Lib.hid (HSa.out.app hown3 hb3 hg3 (fun q hq => .inr (HQX.out q hq))); have HOS : Hid (osP (ps ++ qs) = O5 c.server 5 s.s p a1 r ++ echoL (osP x.ps) 61) := (by show _ = _; rw [os_app, HOS.out, HQO.out]); clear hown3 hb3 hg3 HSa hrc hsz; obtain ⟨⟨m0, m1, m2, m3, m4, m5, m6⟩, m7, m8, m9, m10, m11, m12⟩ := KM.out wf HST.out.b)
      refine (echoed_any x 82 wf (HXO.out _ (KW.out _ HST.out.b))).mono ?_
      rintro e wg ⟨A4, n4, k4, rs, rfl, hrc, hqx, hqo, hn4, hql4, hb2⟩
      have HSa := Lib.hid (HST.out.below hb2)
      have HQO4 := Lib.hid hqo
      have HQX4 := Lib.hid hqx
      have hsz := HSa.out.size
      clear hb2 hqo hqx m0 m1 m2 m3 m4 m5 m6 m7 m8 m9 m10 m11 m12
      go_wp2_with (at_builtin; refine wpList_appO Tw.opP rfl (.tmp 101) (.tmp 103) rfl rfl HSa.out.row rfl hrc (by omega) hsz ?_; intro A5 k5 wh hown5 hb5 hg5; have HST5 := Lib.hid (HSa.out.app hown5 hb5 hg5 (fun q hq => .inr (HQX4.out q hq))); have HOS5 : Hid (osP (ps ++ qs ++ rs) = O5 c.server 5 s.s p a1 r ++ echoL (osP x.ps) 61 ++ echoL (osP x.ps) 82) := (by show _ = _; rw [os_app, HOS.out, HQO4.out]); clear hown5 hb5 hg5; obtain ⟨z0, z1, z2, z3, z4, z5, z6, z7, z8, z9, z10, z11, z12, zf⟩ := cels13 HST5.out.out; obtain ⟨y0, y1, y2, y3, y4, y5, y6, y7, y8, y9, y10, y11, y12, yf⟩ := cels13 (KR.out _ HST5.out.b); clear HSa hrc hsz)
      have HFI := Lib.hid (HST5.out.put 12 (.slice A5 (n + n2 + n4) k5))
      refine bodyPost_ret (ret_rmsg rfl _ _ (w.heap.size + 2) (oC x x.flags (x.ci) (yi) (.slice A5 (n + n2 + n4) k5)) rfl (celZ13 (KR.out _ HFI.out.b) _ _ _ _ _ _ _ _ _ _ _ _ _) rfl) rfl ?_
      have hz := HZ5.out
      refine ⟨⟨2, x.htype, x.hlen, 0, x.xid, 0, x.flags, x.ci, yi, 0, x.gi, x.A, x.n, x.c, x.ch, A5, n + n2 + n4, k5, ps ++ qs ++ rs⟩, rfl, ?_, ?_, below13 (KW.out _ HFI.out.b) (by omega) _ _ _ _ _ _ _ _ _ _ _ _ _⟩
      · refine ⟨(HXO.out _ (below13 (KW.out _ HFI.out.b) (Nat.le_add_right w.heap.size 2) _ _ _ _ _ _ _ _ _ _ _ _ _)).ch, OwnC.rdc (e := 45) (B := w5.heap.size) (row_low HFI.out.row (by omega) (grown13 _ (w.heap.size + 2) _ _ _ _ _ _ _ _ _ _ _ _ _)), fun p hp => ?_⟩
        rcases HFI.out.own p hp with hp | hp
        · exact Own.bs (e := 5) (B := w5.heap.size) (row_low hp (by omega) (grown13 _ (w.heap.size + 2) _ _ _ _ _ _ _ _ _ _ _ _ _))
        · exact (HXO.out _ (below13 (KW.out _ HFI.out.b) (Nat.le_add_right w.heap.size 2) _ _ _ _ _ _ _ _ _ _ _ _ _)).os.2 p hp
      · show (⟨2, x.htype, x.hlen, 0, x.xid, 0, x.flags, x.ci, yi, 0, x.gi, x.ch, osP (ps ++ qs ++ rs)⟩ : M) = _
        rw [HOS5.out]
        rw [← HAC.out]
        rfl
    · exact absurd hk6c HK6.out
end Go.Proofs.YtabjcgchcnnjjaaGreat.Rpw
