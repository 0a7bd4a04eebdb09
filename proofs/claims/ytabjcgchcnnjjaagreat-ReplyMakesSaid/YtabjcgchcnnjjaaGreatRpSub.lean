/- What reply's subnet comes to: the subnet at a place of a valid configuration. Condition: the configuration reads and is small. -/
import Derived.Test.YtabjcgchcnnjjaaGreatRpKit
import Derived.Test.YtabjcgchcnnjjaaGreatVwB
set_option maxRecDepth 8000
namespace Go.Proofs.YtabjcgchcnnjjaaGreat.Rpw
open Go.RowKit Tl Co Ms Cf Ad By Ow Rp
open Pw (alloc_more celM_all boxM)
open Vw (Cx Sx isI check_any cel3C atN atS cel7 Seven snsOf sns_len sns_get nets_len nets_get)

def zS : Sn := ⟨0, 0, [], [], 0, 0, 0⟩
@[reducible] def zcs : Array Value := #[.int .i64 0, .int .i64 0, .slice none 0 0, .slice none 0 0, .int .i64 0, .int .i64 0, .int .i64 0]
/-- The subnet at a place. -/
def subAt (c : Cf) (net sub : Int) : Sn := (c.nets.getD net.toNat []).getD sub.toNat zS
/-- Is there a subnet, of a valid configuration? -/
def subB (c : Cf) (net sub : Int) : Bool := decide (checkC c = 0) && (decide (0 ≤ net ∧ net < c.nets.length) && decide (0 ≤ sub ∧ sub < (c.nets.getD net.toNat []).length))
theorem fair_sub (c : Cf) (net sub : Int) (m : M) (kind yi : Int) : fairR c net sub m kind yi = (subB c net sub && (rightM m && (rightB yi && decide (kind = 2 ∨ kind = 5 ∨ kind = 6)))) := by
  unfold fairR subB
  simp only [Bool.and_assoc]
theorem subB_iff {c : Cf} {net sub : Int} : subB c net sub = true ↔ checkC c = 0 ∧ (0 ≤ net ∧ net < c.nets.length) ∧ 0 ≤ sub ∧ sub < (c.nets.getD net.toNat []).length := by
  unfold subB
  simp only [Bool.and_eq_true, decide_eq_true_eq]
theorem subB_no {c : Cf} {net sub : Int} (h : ¬ (checkC c = 0 ∧ (0 ≤ net ∧ net < c.nets.length) ∧ 0 ≤ sub ∧ sub < (c.nets.getD net.toNat []).length)) : subB c net sub = false := by
  cases hb : subB c net sub with
  | false => rfl
  | true => exact absurd (subB_iff.1 hb) h
/-- What is at such a place is one of the configuration's subnets. -/
theorem sub_mem {c : Cf} {net sub : Int} (h : subB c net sub = true) : ∃ n ∈ c.nets, subAt c net sub ∈ n := by
  obtain ⟨_, ⟨h1, h2⟩, h3, h4⟩ := subB_iff.1 h
  obtain ⟨i, rfl⟩ := Int.eq_ofNat_of_zero_le h1
  obtain ⟨j, rfl⟩ := Int.eq_ofNat_of_zero_le h3
  simp only [Int.toNat_natCast] at h4
  have hi : i < c.nets.length := by omega
  unfold subAt
  simp only [Int.toNat_natCast]
  have e : c.nets.getD i [] = c.nets[i] := by rw [List.getD_eq_getElem?_getD, List.getElem?_eq_getElem hi]; rfl
  rw [e] at h4 ⊢
  have hj : j < (c.nets[i]).length := by omega
  refine ⟨c.nets[i], List.getElem_mem hi, ?_⟩
  rw [List.getD_eq_getElem?_getD, List.getElem?_eq_getElem hj]
  exact List.getElem_mem hj

theorem celP7 {w : World} {g : Nat} {t : TypeId} (c0 c1 c2 c3 c4 c5 c6 v0 v1 v2 v3 v4 v5 v6 : Value) (h : Cel w g t #[c0, c1, c2, c3, c4, c5, c6]) :
    Cel (((((((w.setCell ⟨g, 0, none⟩ v0).setCell ⟨g, 1, none⟩ v1).setCell ⟨g, 2, none⟩ v2).setCell ⟨g, 3, none⟩ v3).setCell ⟨g, 4, none⟩ v4).setCell ⟨g, 5, none⟩ v5).setCell ⟨g, 6, none⟩ v6) g t #[v0, v1, v2, v3, v4, v5, v6] := by
  have h0 : Cel _ g t #[v0, c1, c2, c3, c4, c5, c6] := celP h 0 v0
  have h1 : Cel _ g t #[v0, v1, c2, c3, c4, c5, c6] := celP h0 1 v1
  have h2 : Cel _ g t #[v0, v1, v2, c3, c4, c5, c6] := celP h1 2 v2
  have h3 : Cel _ g t #[v0, v1, v2, v3, c4, c5, c6] := celP h2 3 v3
  have h4 : Cel _ g t #[v0, v1, v2, v3, v4, c5, c6] := celP h3 4 v4
  have h5 : Cel _ g t #[v0, v1, v2, v3, v4, v5, c6] := celP h4 5 v5
  have h6 : Cel _ g t #[v0, v1, v2, v3, v4, v5, v6] := celP h5 6 v6
  exact h6
theorem belowP7 {B : Nat} {w w' : World} (h : Below B w w') {g : Nat} (hg : B ≤ g) (v0 v1 v2 v3 v4 v5 v6 : Value) :
    Below B w (((((((w'.setCell ⟨g, 0, none⟩ v0).setCell ⟨g, 1, none⟩ v1).setCell ⟨g, 2, none⟩ v2).setCell ⟨g, 3, none⟩ v3).setCell ⟨g, 4, none⟩ v4).setCell ⟨g, 5, none⟩ v5).setCell ⟨g, 6, none⟩ v6) :=
  ((((((h.setCell (p := ⟨g, 0, none⟩) hg _).setCell (p := ⟨g, 1, none⟩) hg _).setCell (p := ⟨g, 2, none⟩) hg _).setCell (p := ⟨g, 3, none⟩) hg _).setCell (p := ⟨g, 4, none⟩) hg _).setCell (p := ⟨g, 5, none⟩) hg _).setCell (p := ⟨g, 6, none⟩) hg _
theorem frz7 {w : World} {g : Nat} {t : TypeId} {cs : Array Value} (h : Cel w g t cs) : w.frozen? ⟨g, 0, none⟩ = false ∧ w.frozen? ⟨g, 1, none⟩ = false ∧ w.frozen? ⟨g, 2, none⟩ = false ∧ w.frozen? ⟨g, 3, none⟩ = false ∧ w.frozen? ⟨g, 4, none⟩ = false ∧ w.frozen? ⟨g, 5, none⟩ = false ∧ w.frozen? ⟨g, 6, none⟩ = false :=
  ⟨frz h 0, frz h 1, frz h 2, frz h 3, frz h 4, frz h 5, frz h 6⟩
theorem ret_sn2 {fn : Func} {p u : Tmp} (hres : fn.results = #[.cell p 51, .tmp u]) (tmps : Array Value) (w : World) (g : Nat) (cs : Array Value) (hp : tmps.getD p undef = .pointer (some ⟨g, 0, none⟩)) (hc : Cel w g 51 cs) (hs : cs.size = 7) :
    (results fn tmps).run Tryz.prog w = .ok (.tuple #[.agg cs, tmps.getD u undef]) w := by
  rw [results_cell_tmp hres, hp]
  have := run_loadVar_row (P := Tryz.prog) w g 51 51 cs (0, 0) _ hc Tryz.underlying51 rfl (by rw [hs]; kernel_rfl)
  simp [asAddr, this]
theorem cel7z {w : World} {g : Nat} {t : TypeId} (h : Cel w g t zcs) : w.cell? ⟨g, 0, none⟩ = some (.int .i64 0) ∧ w.cell? ⟨g, 1, none⟩ = some (.int .i64 0) ∧ w.cell? ⟨g, 2, none⟩ = some (.slice none 0 0) ∧ w.cell? ⟨g, 3, none⟩ = some (.slice none 0 0) ∧ w.cell? ⟨g, 4, none⟩ = some (.int .i64 0) ∧ w.cell? ⟨g, 5, none⟩ = some (.int .i64 0) ∧ w.cell? ⟨g, 6, none⟩ = some (.int .i64 0) :=
  ⟨by rw [h.cell]; rfl, by rw [h.cell]; rfl, by rw [h.cell]; rfl, by rw [h.cell]; rfl, by rw [h.cell]; rfl, by rw [h.cell]; rfl, by rw [h.cell]; rfl⟩
def SbR (c : Cf) (net sub : Int) (w : World) (e : Ending) (w' : World) : Prop := Below w.heap.size w w' ∧
  ((subB c net sub = true ∧ ∃ (s : Sx) (pn rn : Nat), e = .returned (.tuple #[s.v pn rn, .bool true]) ∧ s.s = subAt c net sub) ∨ (subB c net sub = false ∧ e = .returned (.tuple #[.agg zcs, .bool false])))
theorem boxS2 (w : World) (c : Cx) : ∃ w1, w1 = (w.alloc (.cells c.cs 24)).alloc (.cells zcs 51) ∧ Cel w1 w.heap.size 24 c.cs ∧ Cel w1 (w.heap.size + 1) 51 zcs ∧ Below w.heap.size w w1 ∧ w1.heap.size = w.heap.size + 2 := by
  have ca := Cel.born w 24 c.cs
  have ba := alloc_more w (.cells c.cs 24)
  have sa : (w.alloc (.cells c.cs 24)).heap.size = w.heap.size + 1 := by simp
  refine ⟨_, rfl, ?_⟩
  generalize w.alloc (.cells c.cs 24) = wa at ca ba sa
  have cb := Cel.born wa 51 zcs
  have bb := alloc_more wa (.cells zcs 51)
  have sb : (wa.alloc (.cells zcs 51)).heap.size = w.heap.size + 2 := by simp; omega
  rw [sa] at cb
  exact ⟨ca.below bb ca.lt, cb, ba.trans (bb.mono ba.size), sb⟩

set_option maxHeartbeats 4000000 in
theorem subnet_any (c : Cx) (net sub : Int) (U : Nat) (w : World) (h : c.ok U w) (hU : U ≤ w.heap.size) (hS : Small c.cf) : Calls Tryz.prog 17 #[c.v, .int .i64 net, .int .i64 sub] w (SbR c.cf net sub w) := by
  obtain ⟨w0, hw0, hc0, hd0, hb0, hz0⟩ := boxS2 w c
  have HK := Lib.hid (fun W (hW : Below w.heap.size w W) => check_any c U W (h.below (hW.mono hU)) (Nat.le_trans hU hW.size) hS)
  have HB0 := Lib.hid hb0
  have HC := Lib.hid hc0
  have HD := Lib.hid hd0
  have HZ := Lib.hid hz0
  have HX := Lib.hid (fun W (hW : Below w.heap.size w W) => h.below (hW.mono hU))
  have HUU := Lib.hid hU
  have HNL : Hid (c.cf.nets.length = c.n) := h.nets
  have hcap := (Vw.Cx.ok.rd h).cap
  have hmax := (Vw.Cx.ok.rd h).max
  clear hc0 hd0 hb0 hz0 hS h hU
  by_cases hck : checkC c.cf = 0
  · have HCK := Lib.hid hck
    rw [hck] at HK
    clear hck
    by_cases hn : 0 ≤ net ∧ net < c.n
    · obtain ⟨hn0, hn1⟩ := hn
      obtain ⟨i, rfl⟩ := Int.eq_ofNat_of_zero_le hn0
      have hi : i < c.n := by omega
      go_enter Tryz.func17, Tryz.ntmps17
      go_upto_region 1 with fail
      rw [← hw0]
      clear hw0
      obtain ⟨c0, c1, c2⟩ := cel3C HC.out
      go_wp2_with fail
      refine (HK.out w0 HB0.out).mono ?_
      rintro e w1 ⟨rfl, hb1⟩
      have HC1 := Lib.hid (HC.out.below hb1 HC.out.lt)
      have HD1 := Lib.hid (HD.out.below hb1 HD.out.lt)
      have HB1 := Lib.hid (HB0.out.trans (hb1.mono HB0.out.size))
      clear hb1 c0 c1 c2
      obtain ⟨b, o, x, m, hA, hbU, hget, hrd, hcell⟩ := atN (Vw.Cx.ok.rd (HX.out w1 HB1.out)) hi
      have HG := Lib.hid hget.out
      have HR := Lib.hid hrd
      have hm := hrd.cap
      have hm2 := hrd.max
      obtain ⟨c0, c1, c2⟩ := cel3C HC1.out
      have HSL : Hid ((c.cf.nets.getD i []).length = m) := by
        show _ = _
        rw [show c.cf.nets.getD i [] = snsOf x.xs from by rw [List.getD_eq_getElem?_getD, show c.cf.nets[i]? = some (snsOf x.xs) from nets_get hget.out]; rfl, sns_len, hrd.len]
      clear hget hrd
      rw [hA] at c2
      by_cases hs : 0 ≤ sub ∧ sub < m
      · obtain ⟨hs0, hs1⟩ := hs
        obtain ⟨j, rfl⟩ := Int.eq_ofNat_of_zero_le hs0
        have hj : j < m := by omega
        obtain ⟨bs, os, s, pn, rn, hAs, hbs, hgs, _, _, _, hsev⟩ := atS HR.out hj
        have HGS := Lib.hid hgs.out
        rw [hAs] at hcell
        obtain ⟨s0, s1, s2, s3, s4, s5, s6⟩ := hsev
        obtain ⟨d0, d1, d2, d3, d4, d5, d6⟩ := frz7 HD1.out
        obtain ⟨y0, y1, y2, y3, y4, y5, y6⟩ := cel7z HD1.out
        go_wp2
        refine bodyPost_ret (ret_sn2 rfl _ _ (w.heap.size + 1) (s.cs pn rn) rfl (celP7 _ _ _ _ _ _ _ _ _ _ _ _ _ _ HD1.out) rfl) rfl ?_
        refine ⟨belowP7 HB1.out (Nat.le_succ _) _ _ _ _ _ _ _, .inl ⟨subB_iff.2 ⟨HCK.out, ⟨hn0, by rw [HNL.out]; exact hn1⟩, hs0, by rw [Int.toNat_natCast, HSL.out]; exact hs1⟩, s, pn, rn, rfl, ?_⟩⟩
        unfold subAt
        rw [Int.toNat_natCast, Int.toNat_natCast, show c.cf.nets.getD i [] = snsOf x.xs from by rw [List.getD_eq_getElem?_getD, show c.cf.nets[i]? = some (snsOf x.xs) from nets_get HG.out]; rfl, List.getD_eq_getElem?_getD, sns_get HGS.out]
        rfl
      · have HNO : Hid (¬ (0 ≤ sub ∧ sub < (m : Int))) := hs
        by_cases hs0 : sub < 0
        · clear hs
          obtain ⟨y0, y1, y2, y3, y4, y5, y6⟩ := cel7z HD1.out
          obtain ⟨d0, d1, d2, d3, d4, d5, d6⟩ := frz7 HD1.out
          go_wp2
          refine bodyPost_ret (ret_sn2 rfl _ _ (w.heap.size + 1) zcs rfl (celP7 _ _ _ _ _ _ _ _ _ _ _ _ _ _ HD1.out) rfl) rfl ?_
          exact ⟨belowP7 HB1.out (Nat.le_succ _) _ _ _ _ _ _ _, .inr ⟨subB_no (fun k => HNO.out (by have e := HSL.out; rw [Int.toNat_natCast, e] at k; exact k.2.2)), rfl⟩⟩
        · have hs1 : (m : Int) ≤ sub := by omega
          have hs2 : 0 ≤ sub := by omega
          clear hs
          obtain ⟨y0, y1, y2, y3, y4, y5, y6⟩ := cel7z HD1.out
          obtain ⟨d0, d1, d2, d3, d4, d5, d6⟩ := frz7 HD1.out
          go_wp2
          refine bodyPost_ret (ret_sn2 rfl _ _ (w.heap.size + 1) zcs rfl (celP7 _ _ _ _ _ _ _ _ _ _ _ _ _ _ HD1.out) rfl) rfl ?_
          exact ⟨belowP7 HB1.out (Nat.le_succ _) _ _ _ _ _ _ _, .inr ⟨subB_no (fun k => HNO.out (by have e := HSL.out; rw [Int.toNat_natCast, e] at k; exact k.2.2)), rfl⟩⟩
    · have HNO : Hid (¬ (0 ≤ net ∧ net < (c.n : Int))) := hn
      by_cases hn0 : net < 0
      · clear hn
        go_enter Tryz.func17, Tryz.ntmps17
        go_upto_region 1 with fail
        rw [← hw0]
        clear hw0
        obtain ⟨c0, c1, c2⟩ := cel3C HC.out
        go_wp2_with fail
        refine (HK.out w0 HB0.out).mono ?_
        rintro e w1 ⟨rfl, hb1⟩
        have HC1 := Lib.hid (HC.out.below hb1 HC.out.lt)
        have HD1 := Lib.hid (HD.out.below hb1 HD.out.lt)
        have HB1 := Lib.hid (HB0.out.trans (hb1.mono HB0.out.size))
        clear hb1 c0 c1 c2
        obtain ⟨c0, c1, c2⟩ := cel3C HC1.out
        obtain ⟨y0, y1, y2, y3, y4, y5, y6⟩ := cel7z HD1.out
        obtain ⟨d0, d1, d2, d3, d4, d5, d6⟩ := frz7 HD1.out
        go_wp2
        refine bodyPost_ret (ret_sn2 rfl _ _ (w.heap.size + 1) zcs rfl (celP7 _ _ _ _ _ _ _ _ _ _ _ _ _ _ HD1.out) rfl) rfl ?_
        exact ⟨belowP7 HB1.out (Nat.le_succ _) _ _ _ _ _ _ _, .inr ⟨subB_no (fun k => HNO.out (by have e := HNL.out; rw [e] at k; exact k.2.1)), rfl⟩⟩
      · have hn1 : (c.n : Int) ≤ net := by omega
        have hn2 : 0 ≤ net := by omega
        clear hn
        go_enter Tryz.func17, Tryz.ntmps17
        go_upto_region 1 with fail
        rw [← hw0]
        clear hw0
        obtain ⟨c0, c1, c2⟩ := cel3C HC.out
        go_wp2_with fail
        refine (HK.out w0 HB0.out).mono ?_
        rintro e w1 ⟨rfl, hb1⟩
        have HC1 := Lib.hid (HC.out.below hb1 HC.out.lt)
        have HD1 := Lib.hid (HD.out.below hb1 HD.out.lt)
        have HB1 := Lib.hid (HB0.out.trans (hb1.mono HB0.out.size))
        clear hb1 c0 c1 c2
        obtain ⟨c0, c1, c2⟩ := cel3C HC1.out
        obtain ⟨y0, y1, y2, y3, y4, y5, y6⟩ := cel7z HD1.out
        obtain ⟨d0, d1, d2, d3, d4, d5, d6⟩ := frz7 HD1.out
        go_wp2
        refine bodyPost_ret (ret_sn2 rfl _ _ (w.heap.size + 1) zcs rfl (celP7 _ _ _ _ _ _ _ _ _ _ _ _ _ _ HD1.out) rfl) rfl ?_
        exact ⟨belowP7 HB1.out (Nat.le_succ _) _ _ _ _ _ _ _, .inr ⟨subB_no (fun k => HNO.out (by have e := HNL.out; rw [e] at k; exact k.2.1)), rfl⟩⟩
  · have HCK := Lib.hid hck
    generalize checkC c.cf = ck at HK hck
    have hckb : (ck != 0) = true := by simpa using hck
    clear hck
    go_enter Tryz.func17, Tryz.ntmps17
    go_upto_region 1 with fail
    rw [← hw0]
    clear hw0
    obtain ⟨c0, c1, c2⟩ := cel3C HC.out
    go_wp2_with fail
    refine (HK.out w0 HB0.out).mono ?_
    rintro e w1 ⟨rfl, hb1⟩
    have HC1 := Lib.hid (HC.out.below hb1 HC.out.lt)
    have HD1 := Lib.hid (HD.out.below hb1 HD.out.lt)
    have HB1 := Lib.hid (HB0.out.trans (hb1.mono HB0.out.size))
    clear hb1 c0 c1 c2
    obtain ⟨c0, c1, c2⟩ := cel3C HC1.out
    obtain ⟨y0, y1, y2, y3, y4, y5, y6⟩ := cel7z HD1.out
    obtain ⟨d0, d1, d2, d3, d4, d5, d6⟩ := frz7 HD1.out
    go_wp2
    refine bodyPost_ret (ret_sn2 rfl _ _ (w.heap.size + 1) zcs rfl (celP7 _ _ _ _ _ _ _ _ _ _ _ _ _ _ HD1.out) rfl) rfl ?_
    exact ⟨belowP7 HB1.out (Nat.le_succ _) _ _ _ _ _ _ _, .inr ⟨subB_no (fun k => HCK.out k.1), rfl⟩⟩
end Go.Proofs.YtabjcgchcnnjjaaGreat.Rpw
