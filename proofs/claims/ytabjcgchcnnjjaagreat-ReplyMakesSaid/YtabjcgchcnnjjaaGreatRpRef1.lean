/- What boarderref18's Asked, Fair, four and echoed come to. Conditions: those that each theorem names. -/
import Derived.Test.YtabjcgchcnnjjaaGreatRpMake
import Derived.Test.YtabjcgchcnnjjaaGreatVwE
set_option maxRecDepth 8000
namespace Go.Proofs.YtabjcgchcnnjjaaGreat.Rpw
open Go.RowKit Tl Co Ms Cf Ad By Ow Rp
open Pw (alloc_more celM_all boxM)
open Vw (Cx Sx isI cel3C cel7 atN atS Seven snsOf sns_len sns_get nets_len nets_get refCheck_any)
open Mw (set13 cels13)

/-- What the document's Find answers: the option itself. -/
def FoundP (ps : List Po) (code : Int) (w : World) (e : Ending) (w' : World) : Prop := w = w' ∧
  ((findL (osP ps) code = none ∧ e = .returned (.tuple #[.slice none 0 0, .bool false])) ∨
    ∃ p ∈ ps, p.code = code ∧ findL (osP ps) code = some p.l ∧ e = .returned (.tuple #[.slice p.A p.l.length p.c, .bool true]))
set_option maxHeartbeats 400000 in
theorem refFindP_any (A : Option Addr) (n c : Nat) (ps : List Po) (code : Int) (w : World) (h : RdO w A n c ps) :
    Calls Tryz.prog 26 #[.slice A n c, .int .i64 code] w (FoundP ps code w) := by
  have hl := Lib.hid h.len
  have hm := h.max
  have hcap := h.cap
  go_enter Tryz.func26, Tryz.ntmps26
  go_wp2
  go_loop [6] (fun i => ∃ k : Nat, k ≤ n ∧ i = .int .i64 k ∧ code ∉ codesL ((osP ps).take k)) (fun i => n - (intOf i).toNat)
  case atStart => exact ⟨0, by omega, rfl, by simp [codesL]⟩
  case round =>
    obtain ⟨k, hk, rfl, hs⟩ := hrel
    have HS := Lib.hid hs
    clear hs
    by_cases hlt : k < n
    · obtain ⟨b, o, co, A', m, c', l, rfl, hcell, hcell2, hbs, HP, HO, HM, _, _⟩ := h.at_ hlt
      by_cases he : co = code
      · subst he
        have H : Hid (findL (osP ps) co = some l) := by
          obtain ⟨h1, h2⟩ := HO.out
          have := find_hit (c := co) h1 (by rw [h2]) HS.out
          rw [h2] at this
          exact this
        go_wp2
        go_ret2
        exact ⟨rfl, .inr ⟨⟨co, A', c', l⟩, List.mem_of_getElem? HP.out, rfl, H.out, by show _ = Ending.returned (.tuple #[.slice A' l.length c', .bool true]); rw [HM.out]; rfl⟩⟩
      · have hb : (co == code) = false := by simpa using he
        have H : Hid (code ∉ codesL ((osP ps).take (k + 1))) := by
          obtain ⟨h1, h2⟩ := HO.out
          exact not_codes_next h1 HS.out (by rw [h2]; exact he)
        clear he
        go_wp2
        go_round
        case rel => exact ⟨k + 1, by omega, by go_num, H.out⟩
        case measure => simp [intOf]; omega
    · obtain rfl : k = n := by omega
      have H : Hid (findL (osP ps) code = none) := find_none (by have := HS.out; rwa [List.take_of_length_le (by rw [os_len, hl.out]; exact Nat.le_refl _)] at this)
      go_wp2
      go_ret2
      exact ⟨rfl, .inl ⟨H.out, rfl⟩⟩

set_option maxHeartbeats 1000000 in
theorem refAsked_any (x : Mv) (code : Int) (w : World) (hx : x.ok w) : Calls Tryz.prog 9 #[x.v, .int .i64 code] w (BlR (asksL (osP x.ps) code) w) := by
  obtain ⟨w0, hw0, hc0, hb0, _⟩ := boxM w x 31
  have HF := Lib.hid (refFindP_any x.B x.m x.d x.ps 55 w0 (hx.below hb0).os)
  have HW := Lib.hid (refWants_any x.B x.m x.d x.ps code w0 (hx.below hb0).os)
  have HA : Hid (asksL (osP x.ps) code = ((findL (osP x.ps) 55).isNone || hasB (listedL (osP x.ps)) code)) := rfl
  generalize asksL (osP x.ps) code = a at HA ⊢
  generalize hasB (listedL (osP x.ps)) code = b at HA HW
  have HB := Lib.hid hb0
  have m12 : w0.cell? ⟨w.heap.size, 12, none⟩ = some (.slice x.B x.m x.d) := (celM_all hc0).2.2.2.2.2.2
  clear hx hc0 hb0
  go_enter Tryz.func9, Tryz.ntmps9
  go_upto_region 1 with fail
  rw [← hw0]
  clear hw0
  go_wp2_with fail
  refine HF.out.mono ?_
  rintro e w1 ⟨rfl, ⟨hn, rfl⟩ | ⟨p, hp, hpc, hs, rfl⟩⟩
  · have HT : Hid (a = true) := by show _ = _; rw [HA.out, hn]; rfl
    clear hn HA
    go_wp2
    go_ret
    exact ⟨ret_bool HT.out.symm, HB.out⟩
  · have HT : Hid (a = b) := by show _ = _; rw [HA.out, hs]; rfl
    clear hs hp hpc HA
    go_wp2_with fail
    refine HW.out.mono ?_
    rintro e w2 ⟨rfl, rfl⟩
    go_wp2
    go_ret
    exact ⟨ret_bool HT.out.symm, HB.out⟩

/-! ### four, echoed -/
def FoR (code : Int) (d : List UInt8) (w : World) (e : Ending) (w' : World) : Prop := ∃ A c, e = .returned (.agg #[.int .i64 code, .slice A d.length c]) ∧ Own 5 w.heap.size w' A d.length c d ∧ Below w.heap.size w w'
set_option maxHeartbeats 1000000 in
theorem four_any (code v : Int) (d : List UInt8) (w : World) (hv : rightB v = true) (hd : numB v 4 = d) : Calls Tryz.prog 31 #[.int .i64 code, .int .i64 v] w (FoR code d w) := by
  obtain ⟨h0, h1⟩ := rightB_iff.1 hv
  obtain ⟨n, rfl⟩ := Int.eq_ofNat_of_zero_le h0
  have hlen : d.length = 4 := by rw [← hd]; exact numB_len _ 4
  obtain ⟨w0, hw0⟩ : ∃ w0, w0 = w.alloc (.cells #[.int .i64 0, .slice none 0 0] 45) := ⟨_, rfl⟩
  have hb0 : Below w.heap.size w w0 := by rw [hw0]; exact alloc_more _ _
  have hc0 : Cel w0 w.heap.size 45 #[.int .i64 0, .slice none 0 0] := by rw [hw0]; exact Cel.born _ _ _
  have hs0 : w0.heap.size = w.heap.size + 1 := by rw [hw0]; simp
  have HP := Lib.hid (Cw.refPut_any 4 n w0 (by omega) (by omega))
  have HD : Hid (putL n 4 = d) := hd
  rw [HD.out] at HP
  have HL := Lib.hid hlen
  have HC0 := Lib.hid hc0
  have HB0 := Lib.hid hb0
  have HS0 := Lib.hid hs0
  clear hv hd hlen h0 h1 hc0 hb0 hs0
  go_enter Tryz.func31, Tryz.ntmps31
  go_upto_region 1 with fail
  rw [← hw0]
  clear hw0
  go_wp2_with fail
  refine HP.out.mono ?_
  rintro e w1 ⟨A1, c1, rfl, hown, hb1⟩
  have hc1 := HC0.out.below hb1 HC0.out.lt
  have r0 : w1.cell? ⟨w.heap.size, 0, none⟩ = some (.int .i64 0) := by rw [hc1.cell]; rfl
  have r1 : w1.cell? ⟨w.heap.size, 1, none⟩ = some (.slice none 0 0) := by rw [hc1.cell]; rfl
  have f0 := frz hc1 0
  have f1 := frz hc1 1
  have HC1 := Lib.hid hc1
  have HO := Lib.hid hown
  have HB1 := Lib.hid hb1
  clear hc1 hown hb1
  go_wp2
  (try simp only [Exit.inBlock, Exit.then])
  refine bodyPost_ret (ret_opt rfl _ _ w.heap.size #[.int .i64 code, .slice A1 4 c1] rfl (celP (celP HC1.out 0 _) 1 _) rfl) rfl ?_
  have hlt : w.heap.size < w0.heap.size := by have := HS0.out; omega
  refine ⟨A1, c1, by rw [HL.out], ?_, ((HB0.out.trans (HB1.out.mono HB0.out.size)).setCell (p := ⟨w.heap.size, 0, none⟩) (Nat.le_refl _) _).setCell (p := ⟨w.heap.size, 1, none⟩) (Nat.le_refl _) _⟩
  rw [HL.out]
  exact (own_keep (own_keep HO.out hlt 0 _) hlt 1 _).mono (by omega)
def EcR (x : Mv) (code : Int) (w : World) (e : Ending) (w' : World) : Prop := ∃ A n c ps, e = .returned (.slice A n c) ∧ RdC w' A n c (cellsP ps) ∧ (∀ p ∈ ps, p ∈ x.ps) ∧ osP ps = echoL (osP x.ps) code ∧ n ≤ 1 ∧ ps.length = n ∧ Below w.heap.size w w'
set_option maxHeartbeats 1000000 in
theorem echoed_any (x : Mv) (code : Int) (w : World) (hx : x.ok w) : Calls Tryz.prog 33 #[x.v, .int .i64 code] w (EcR x code w) := by
  obtain ⟨w0, hw0, hc0, hb0, hz⟩ := boxM w x 31
  have HF := Lib.hid (refFindP_any x.B x.m x.d x.ps code w0 (hx.below hb0).os)
  have HB := Lib.hid hb0
  have m12 : w0.cell? ⟨w.heap.size, 12, none⟩ = some (.slice x.B x.m x.d) := (celM_all hc0).2.2.2.2.2.2
  clear hx hc0 hb0
  go_enter Tryz.func33, Tryz.ntmps33
  go_upto_region 1 with fail
  rw [← hw0]
  clear hw0
  go_wp2_with fail
  refine HF.out.mono ?_
  rintro e w1 ⟨rfl, ⟨hn, rfl⟩ | ⟨p, hp, hpc, hs, rfl⟩⟩
  · have HE : Hid (echoL (osP x.ps) code = []) := by show _ = _; unfold echoL; rw [hn]
    clear hn
    go_wp2
    go_ret
    exact ⟨none, 0, 0, [], rfl, (RdO.nil _).1, (fun q hq => by cases hq), HE.out.symm, by omega, rfl, HB.out⟩
  · have HE : Hid (echoL (osP x.ps) code = [(code, p.l)]) := by show _ = _; unfold echoL; rw [hs]
    have HPM := Lib.hid hp
    have HPC := Lib.hid hpc
    obtain ⟨co, A1, c1, l1⟩ := p
    have hco : co = code := HPC.out
    subst hco
    have hlit := (OwnC.lit1 45 w0 ⟨co, A1, c1, l1⟩).rdc
    rw [hz] at hlit
    have HLI := Lib.hid hlit
    have hal := alloc_more w0 (.cells #[.int .i64 co, .slice A1 l1.length c1] 45)
    have HAL := Lib.hid hal
    clear hs hp hpc hlit hal
    go_wp2
    go_ret
    exact ⟨_, 1, 1, [⟨co, A1, c1, l1⟩], rfl, HLI.out, (fun q hq => by rcases List.mem_singleton.1 hq with rfl; exact HPM.out), HE.out.symm, by omega, rfl, HB.out.trans (HAL.out.mono HB.out.size)⟩

/-! ### Fair -/
theorem boxF2 (w : World) (c : Cx) (x : Mv) : ∃ w0, w0 = (w.alloc (.cells c.cs 24)).alloc (.cells x.cells 31) ∧ Cel w0 w.heap.size 24 c.cs ∧ Cel w0 (w.heap.size + 1) 31 x.cells ∧ Below w.heap.size w w0 ∧ w0.heap.size = w.heap.size + 2 := by
  have ca := Cel.born w 24 c.cs
  have ba := alloc_more w (.cells c.cs 24)
  have sa : (w.alloc (.cells c.cs 24)).heap.size = w.heap.size + 1 := by simp
  refine ⟨_, rfl, ?_⟩
  generalize w.alloc (.cells c.cs 24) = wa at ca ba sa
  have cb := Cel.born wa 31 x.cells
  have bb := alloc_more wa (.cells x.cells 31)
  have sb : (wa.alloc (.cells x.cells 31)).heap.size = w.heap.size + 2 := by simp; omega
  rw [sa] at cb
  exact ⟨ca.below bb ca.lt, cb, ba.trans (bb.mono ba.size), sb⟩
set_option maxHeartbeats 8000000 in
theorem refFair_any (c : Cx) (net sub : Int) (x : Mv) (kind yi : Int) (U : Nat) (w : World) (h : c.ok U w) (hU : U ≤ w.heap.size) (hS : Small c.cf) (hx : x.ok w) :
    Calls Tryz.prog 10 #[c.v, .int .i64 net, .int .i64 sub, x.v, .int .i64 kind, .int .i64 yi] w (BlR (fairR c.cf net sub x.mm kind yi) w) := by
  obtain ⟨w0, hw0, hc0, hm0, hb0, hs0⟩ := boxF2 w c x
  have HK := Lib.hid (fun W (hW : Below w.heap.size w W) => refCheck_any c U W (h.below (hW.mono hU)) (Nat.le_trans hU hW.size) hS)
  have HRI := Lib.hid (fun W (hW : Below w.heap.size w W) => Mw.refRight_msg x W (hx.below hW))
  have HYR := Lib.hid (Aw.refRight_any yi)
  have HFA := Lib.hid (fair_sub c.cf net sub x.mm kind yi)
  have HB0 := Lib.hid hb0
  have HC := Lib.hid hc0
  have HM := Lib.hid hm0
  have HX := Lib.hid (fun W (hW : Below w.heap.size w W) => h.below (hW.mono hU))
  have HNL : Hid (c.cf.nets.length = c.n) := h.nets
  have hcap := (Vw.Cx.ok.rd h).cap
  have hmax := (Vw.Cx.ok.rd h).max
  generalize fairR c.cf net sub x.mm kind yi = fr at HFA ⊢
  clear hc0 hm0 hb0 hs0 hS h hx
  by_cases hck : checkC c.cf = 0
  rotate_left
  · have HCK := Lib.hid hck
    generalize checkC c.cf = ck at HK hck
    have hckb : (ck != 0) = true := by simpa using hck
    clear hck
    go_enter Tryz.func10, Tryz.ntmps10
    go_upto_region 1 with fail
    rw [← hw0]
    clear hw0
    obtain ⟨c0, c1, c2⟩ := cel3C HC.out
    go_wp2_with fail
    refine (HK.out w0 HB0.out).mono ?_
    rintro e w1 ⟨rfl, hb1⟩
    have HC1 := Lib.hid (HC.out.below hb1 HC.out.lt)
    have HM1 := Lib.hid (HM.out.below hb1 HM.out.lt)
    have HB1 := Lib.hid (HB0.out.trans (hb1.mono HB0.out.size))
    clear hb1 c0 c1 c2
    obtain ⟨c0, c1, c2⟩ := cel3C HC1.out
    have HT : Hid (fr = false) := by show _ = _; rw [HFA.out, subB_no (fun k => HCK.out k.1)]; rfl
    go_wp2
    go_ret
    exact ⟨ret_bool HT.out.symm, HB1.out⟩
  have HCK := Lib.hid hck
  rw [hck] at HK
  clear hck
  by_cases hn : 0 ≤ net ∧ net < c.n
  rotate_left
  · have HNO : Hid (¬ (0 ≤ net ∧ net < (c.n : Int))) := hn
    by_cases hn0 : net < 0
    · clear hn
      go_enter Tryz.func10, Tryz.ntmps10
      go_upto_region 1 with fail
      rw [← hw0]
      clear hw0
      obtain ⟨c0, c1, c2⟩ := cel3C HC.out
      go_wp2_with fail
      refine (HK.out w0 HB0.out).mono ?_
      rintro e w1 ⟨rfl, hb1⟩
      have HC1 := Lib.hid (HC.out.below hb1 HC.out.lt)
      have HM1 := Lib.hid (HM.out.below hb1 HM.out.lt)
      have HB1 := Lib.hid (HB0.out.trans (hb1.mono HB0.out.size))
      clear hb1 c0 c1 c2
      obtain ⟨c0, c1, c2⟩ := cel3C HC1.out
      have HT : Hid (fr = false) := by show _ = _; rw [HFA.out, subB_no (fun k => HNO.out (by have e := HNL.out; rw [e] at k; exact k.2.1))]; rfl
      go_wp2
      go_ret
      exact ⟨ret_bool HT.out.symm, HB1.out⟩
    · have hn1 : (c.n : Int) ≤ net := by omega
      have hn2 : 0 ≤ net := by omega
      clear hn
      go_enter Tryz.func10, Tryz.ntmps10
      go_upto_region 1 with fail
      rw [← hw0]
      clear hw0
      obtain ⟨c0, c1, c2⟩ := cel3C HC.out
      go_wp2_with fail
      refine (HK.out w0 HB0.out).mono ?_
      rintro e w1 ⟨rfl, hb1⟩
      have HC1 := Lib.hid (HC.out.below hb1 HC.out.lt)
      have HM1 := Lib.hid (HM.out.below hb1 HM.out.lt)
      have HB1 := Lib.hid (HB0.out.trans (hb1.mono HB0.out.size))
      clear hb1 c0 c1 c2
      obtain ⟨c0, c1, c2⟩ := cel3C HC1.out
      have HT : Hid (fr = false) := by show _ = _; rw [HFA.out, subB_no (fun k => HNO.out (by have e := HNL.out; rw [e] at k; exact k.2.1))]; rfl
      go_wp2
      go_ret
      exact ⟨ret_bool HT.out.symm, HB1.out⟩
  obtain ⟨hn0, hn1⟩ := hn
  obtain ⟨i, rfl⟩ := Int.eq_ofNat_of_zero_le hn0
  have hi : i < c.n := by omega
  go_enter Tryz.func10, Tryz.ntmps10
  go_upto_region 1 with fail
  rw [← hw0]
  clear hw0
  obtain ⟨c0, c1, c2⟩ := cel3C HC.out
  go_wp2_with fail
  refine (HK.out w0 HB0.out).mono ?_
  rintro e w1 ⟨rfl, hb1⟩
  have HC1 := Lib.hid (HC.out.below hb1 HC.out.lt)
  have HM1 := Lib.hid (HM.out.below hb1 HM.out.lt)
  have HB1 := Lib.hid (HB0.out.trans (hb1.mono HB0.out.size))
  clear hb1 c0 c1 c2
  obtain ⟨c0, c1, c2⟩ := cel3C HC1.out
  obtain ⟨b, o, y, m, hA, hbU, hget, hrd, hcell⟩ := atN (Vw.Cx.ok.rd (HX.out w1 HB1.out)) hi
  have hm := hrd.cap
  have hm2 := hrd.max
  have HSL : Hid ((c.cf.nets.getD i []).length = m) := by
    show _ = _
    rw [show c.cf.nets.getD i [] = snsOf y.xs from by rw [List.getD_eq_getElem?_getD, show c.cf.nets[i]? = some (snsOf y.xs) from nets_get hget.out]; rfl, sns_len, hrd.len]
  clear hget hrd
  rw [hA] at c2
  by_cases hs : 0 ≤ sub ∧ sub < m
  rotate_left
  · have HNO : Hid (¬ (0 ≤ sub ∧ sub < (m : Int))) := hs
    by_cases hs0 : sub < 0
    · clear hs
      have HT : Hid (fr = false) := by show _ = _; rw [HFA.out, subB_no (fun k => HNO.out (by have e := HSL.out; rw [Int.toNat_natCast, e] at k; exact k.2.2))]; rfl
      go_wp2
      go_ret
      exact ⟨ret_bool HT.out.symm, HB1.out⟩
    · have hs1 : (m : Int) ≤ sub := by omega
      have hs2 : 0 ≤ sub := by omega
      clear hs
      have HT : Hid (fr = false) := by show _ = _; rw [HFA.out, subB_no (fun k => HNO.out (by have e := HSL.out; rw [Int.toNat_natCast, e] at k; exact k.2.2))]; rfl
      go_wp2
      go_ret
      exact ⟨ret_bool HT.out.symm, HB1.out⟩
  obtain ⟨hs0, hs1⟩ := hs
  obtain ⟨j, rfl⟩ := Int.eq_ofNat_of_zero_le hs0
  have hj : j < m := by omega
  have HSU : Hid (subB c.cf (i : Int) (j : Int) = true) := subB_iff.2 ⟨HCK.out, ⟨hn0, by rw [HNL.out]; exact hn1⟩, hs0, by rw [Int.toNat_natCast, HSL.out]; exact hs1⟩
  obtain ⟨⟨m0, m1, m2, m3, m4, m5, m6⟩, m7, m8, m9, m10, m11, m12⟩ := celM_all HM1.out
  obtain ⟨rb, hrb⟩ : ∃ rb, rightM x.mm = rb := ⟨_, rfl⟩
  obtain ⟨yb, hyb⟩ : ∃ yb, rightB yi = yb := ⟨_, rfl⟩
  rw [hrb] at HRI HFA
  rw [hyb] at HYR HFA
  rw [HSU.out] at HFA
  clear hrb hyb
  go_wp2_with fail
  refine (HRI.out w1 HB1.out).mono ?_
  rintro e w2 ⟨rfl, hb2⟩
  have HB2 := Lib.hid (HB1.out.trans (hb2.mono HB1.out.size))
  clear hb2 m0 m1 m2 m3 m4 m5 m6 m7 m8 m9 m10 m11 m12 c0 c1 c2 hcell
  cases rb with
  | false =>
    have HT : Hid (fr = false) := HFA.out
    go_wp2
    go_ret
    exact ⟨ret_bool HT.out.symm, HB2.out⟩
  | true =>
    go_wp2_with fail
    refine (HYR.out w2).mono ?_
    rintro e w3 ⟨rfl, rfl⟩
    cases yb with
    | false =>
      have HT : Hid (fr = false) := HFA.out
      go_wp2
      go_ret
      exact ⟨ret_bool HT.out.symm, HB2.out⟩
    | true =>
      have HT : Hid (fr = decide (kind = 2 ∨ kind = 5 ∨ kind = 6)) := HFA.out
      by_cases h2 : kind = 2
      · subst h2
        go_wp2
        go_ret
        exact ⟨ret_bool HT.out.symm, HB2.out⟩
      · by_cases h5 : kind = 5
        · subst h5
          go_wp2
          go_ret
          exact ⟨ret_bool HT.out.symm, HB2.out⟩
        · have HT2 : Hid ((kind == 2 || kind == 5 || kind == 6) = fr) := by
            show _ = _
            rw [HT.out]
            by_cases h6 : kind = 6 <;> simp [h2, h5, h6]
          go_wp2
          go_ret
          exact ⟨ret_bool HT2.out, HB2.out⟩
end Go.Proofs.YtabjcgchcnnjjaaGreat.Rpw
