/- What conf's questions about one subnet come to: what is wrong with it, what strays, what it takes. Conditions: its pools and reservations read; for what strays, its prefix is right. -/
import Derived.Test.YtoilljilndmmfaaVwOf
import Derived.Test.YtoilljilndmmfaaVwMath
set_option maxRecDepth 8000
namespace Go.Proofs.Ytoilljilndmmfaa.Vw
open Go.RowKit By Cf Ad Ky
open Dw (ba ba_size ba_data ba_list alloc_more)

theorem app0 (x : Value) : #[x] ++ (#[] : Array Value) = #[x] := rfl
theorem app1 (x y : Value) : #[x] ++ #[y] = #[x, y] := rfl
theorem app2 (x y z : Value) : #[x] ++ #[y, z] = #[x, y, z] := rfl
/-- Memory that has a subnet with its place and a number in two new blocks. -/
theorem boxed2 (w : World) (p : Px) (pn rn : Nat) (a : Int) : ∃ w0, w0 = (w.alloc (.cells (p.cs pn rn) 55)).alloc (.cells #[.int .i64 a] 3) ∧ Cel w0 w.heap.size 55 (p.cs pn rn) ∧ Cel w0 (w.heap.size + 1) 3 #[.int .i64 a] ∧ Below w.heap.size w w0 := by
  have hs : (w.alloc (.cells (p.cs pn rn) 55)).heap.size = w.heap.size + 1 := by simp
  have c1 := Cel.born (w.alloc (.cells (p.cs pn rn) 55)) 3 #[.int .i64 a]
  rw [hs] at c1
  exact ⟨_, rfl, (Cel.born w 55 (p.cs pn rn)).below (alloc_more _ _) (by rw [hs]; omega), c1, two_boxes _ _ _ _ _⟩
set_option maxHeartbeats 1000000 in
theorem pools_any (p : Px) (pn rn U : Nat) (a : Int) (w : World) (hok : p.x.ok U w pn rn) (hU : U ≤ w.heap.size) : Calls Try.prog 45 #[p.v pn rn, .int .i64 a] w (isB (p.x.s.pools.any fun q => inPl q a) w) := by
  obtain ⟨w0, hw0, _, hc1, hb0⟩ := boxed2 w p pn rn a
  have hz : w0.heap.size = w.heap.size + 2 := by rw [hw0]; simp
  have HC := Lib.hid (hasP 78 (fun args W => by rfl) #[.pointer (some ⟨w.heap.size + 1, 0, none⟩)] (fun q => inPl q a) p.x.pA pn p.x.pc U p.x.pools w0 (hok.p.below (hb0.mono hU)) (by omega)
    (fun q _ W hW => by rw [app1]; exact pool_in q a _ W (by have := hW.size; omega) (by rw [(hc1.below hW hc1.lt).cell]; rfl)))
  have HB := Lib.hid hb0
  clear hok hU hc1 hb0 hz
  go_enter Try.func45, Try.ntmps45
  go_wp2_with fail
  rw [← hw0]
  clear hw0
  refine HC.out.mono ?_
  rintro e w1 ⟨rfl, hb1⟩
  go_wp2
  go_ret
  exact ⟨rfl, HB.out.trans (hb1.mono HB.out.size)⟩
set_option maxHeartbeats 2000000 in
theorem takes_any (p : Px) (pn rn U : Nat) (a : Int) (w : World) (hok : p.x.ok U w pn rn) (hU : U ≤ w.heap.size) : Calls Try.prog 29 #[p.v pn rn, .int .i64 a] w (isB (takesB p.x.s a) w) := by
  obtain ⟨w0, hw0, hc0, hc1, hb0⟩ := boxed2 w p pn rn a
  have hz : w0.heap.size = w.heap.size + 2 := by rw [hw0]; simp
  have HP := Lib.hid (pools_any p pn rn U a w0 (hok.below (hb0.mono hU)) (by omega))
  have HC := Lib.hid (fun w1 (h1 : Below w0.heap.size w0 w1) => hasR 60 (fun args W => by rfl) #[.pointer (some ⟨w.heap.size + 1, 0, none⟩)] (fun r => decide (r.addr = a)) p.x.rA rn p.x.rc U p.x.res w1 ((hok.r.below (hb0.mono hU)).below (h1.mono (by omega))) (by have := h1.size; omega)
    (fun r _ W hW => by rw [app1]; exact res_is r a _ W (by have := hW.size; have := h1.size; omega) (by rw [((hc1.below h1 hc1.lt).below hW (Nat.lt_of_lt_of_le hc1.lt h1.size)).cell]; rfl)))
  have HB := Lib.hid hb0
  have HC0 := Lib.hid hc0
  have HC1 := Lib.hid hc1
  clear hok hU hc0 hc1 hb0 hz
  cases hp : (p.x.s.pools.any fun q => inPl q a) with
  | true =>
    have H : Hid (takesB p.x.s a = true) := by show _ = _; unfold takesB; rw [hp]; rfl
    rw [hp] at HP
    clear hp
    go_enter Try.func29, Try.ntmps29
    go_wp2_with fail
    rw [← hw0]
    clear hw0
    refine HP.out.mono ?_
    rintro e w1 ⟨rfl, hb1⟩
    go_wp2
    go_ret
    exact ⟨ret_bool H.out.symm, HB.out.trans (hb1.mono HB.out.size)⟩
  | false =>
    have H : Hid (takesB p.x.s a = p.x.res.any fun r => decide (r.addr = a)) := by show _ = _; unfold takesB; rw [hp]; rfl
    rw [hp] at HP
    clear hp
    go_enter Try.func29, Try.ntmps29
    go_wp2_with fail
    rw [← hw0]
    clear hw0
    refine HP.out.mono ?_
    rintro e w1 ⟨rfl, hb1⟩
    obtain ⟨c0, c1, c2, c3, c4, c5, c6, c7, c8⟩ := cel9 (HC0.out.below hb1 HC0.out.lt)
    have HB1 := Lib.hid (HB.out.trans (hb1.mono HB.out.size))
    have HC2 := Lib.hid (HC.out w1 hb1)
    clear hb1
    go_wp2_with fail
    refine HC2.out.mono ?_
    rintro e w2 ⟨rfl, hb2⟩
    go_wp2
    go_ret
    exact ⟨ret_bool H.out.symm, HB1.out.trans (hb2.mono HB1.out.size)⟩
set_option maxHeartbeats 16000000 in
theorem wrong_any (p : Px) (pn rn U : Nat) (w : World) (hok : p.x.ok U w pn rn) (hU : U ≤ w.heap.size) : Calls Try.prog 26 #[p.v pn rn] w (isB (!snF p.x.s) w) := by
  obtain ⟨w0, hw0, hc0, hb0⟩ := boxed w p pn rn
  have hz : w0.heap.size = w.heap.size + 1 := by rw [hw0]; simp
  have HP := Lib.hid (hasP 53 (fun args W => by rfl) #[] (fun q => !poolF q) p.x.pA pn p.x.pc U p.x.pools w0 (hok.p.below (hb0.mono hU)) (by omega) (fun q _ W _ => by rw [app0]; exact pool_wrong q W))
  have HRR := Lib.hid (fun w1 (h1 : Below w0.heap.size w0 w1) => hasR 55 (fun args W => by rfl) #[] (fun r => !resF r) p.x.rA rn p.x.rc U p.x.res w1 ((hok.r.below (hb0.mono hU)).below (h1.mono (by omega))) (by have := h1.size; omega)
    (fun r hr W _ => by rw [app0]; exact res_wrong r W (hok.k r hr)))
  have hpn : p.x.pools.length = pn := hok.p.len
  have hrn : p.x.res.length = rn := hok.r.len
  have HF := Lib.hid (fun W => Aw.fair_any p.x.base p.x.bits W)
  have HS := Lib.hid (fun W => span_any p.x.time W)
  have HB := Lib.hid hb0
  have HC0 := Lib.hid hc0
  obtain ⟨c0, c1, c2, c3, c4, c5, c6, _, _⟩ := cel9 hc0
  have HPL := Lib.hid hpn
  have HRL := Lib.hid hrn
  clear hok hU hc0 hb0 hz hpn hrn
  cases f0 : fairB p.x.base p.x.bits with
  | false =>
    rw [f0] at HF
    have H : Hid ((!snF p.x.s) = true) := by show _ = _; unfold snF Sx.s; simp only [f0, Bool.false_and]; simp
    go_enter Try.func26, Try.ntmps26
    go_wp2_with fail
    rw [← hw0]
    clear hw0
    refine (HF.out w0).mono ?_
    rintro e wf ⟨rfl, rfl⟩
    go_wp2
    go_ret
    exact ⟨ret_bool H.out.symm, HB.out⟩
  | true =>
  rw [f0] at HF
  by_cases g1 : p.x.bits < 8
  · have f1 : decide (8 ≤ p.x.bits ∧ p.x.bits ≤ 30) = false := decide_eq_false (by omega)
    have H : Hid ((!snF p.x.s) = true) := by show _ = _; unfold snF Sx.s; simp only [f1, Bool.false_and, Bool.and_false]; simp
    go_enter Try.func26, Try.ntmps26
    go_wp2_with fail
    rw [← hw0]
    clear hw0
    refine (HF.out w0).mono ?_
    rintro e wf ⟨rfl, rfl⟩
    go_wp2
    go_ret
    exact ⟨ret_bool H.out.symm, HB.out⟩
  by_cases g2 : p.x.bits > 30
  · have f2 : decide (8 ≤ p.x.bits ∧ p.x.bits ≤ 30) = false := decide_eq_false (by omega)
    have H : Hid ((!snF p.x.s) = true) := by show _ = _; unfold snF Sx.s; simp only [f2, Bool.false_and, Bool.and_false]; simp
    go_enter Try.func26, Try.ntmps26
    go_wp2_with fail
    rw [← hw0]
    clear hw0
    refine (HF.out w0).mono ?_
    rintro e wf ⟨rfl, rfl⟩
    go_wp2
    go_ret
    exact ⟨ret_bool H.out.symm, HB.out⟩
  by_cases g3 : (pn : Int) > 4
  · have f3 : decide (p.x.pools.length ≤ 4) = false := decide_eq_false (by have := HPL.out; omega)
    have H : Hid ((!snF p.x.s) = true) := by show _ = _; unfold snF Sx.s; simp only [f3, Bool.false_and, Bool.and_false]; simp
    go_enter Try.func26, Try.ntmps26
    go_wp2_with fail
    rw [← hw0]
    clear hw0
    refine (HF.out w0).mono ?_
    rintro e wf ⟨rfl, rfl⟩
    go_wp2
    go_ret
    exact ⟨ret_bool H.out.symm, HB.out⟩
  by_cases g4 : (rn : Int) > 8
  · have f4 : decide (p.x.res.length ≤ 8) = false := decide_eq_false (by have := HRL.out; omega)
    have H : Hid ((!snF p.x.s) = true) := by show _ = _; unfold snF Sx.s; simp only [f4, Bool.false_and, Bool.and_false]; simp
    go_enter Try.func26, Try.ntmps26
    go_wp2_with fail
    rw [← hw0]
    clear hw0
    refine (HF.out w0).mono ?_
    rintro e wf ⟨rfl, rfl⟩
    go_wp2
    go_ret
    exact ⟨ret_bool H.out.symm, HB.out⟩
  by_cases g5 : p.x.iface < 0
  · have f5 : decide (0 ≤ p.x.iface ∧ p.x.iface ≤ 99) = false := decide_eq_false (by omega)
    have H : Hid ((!snF p.x.s) = true) := by show _ = _; unfold snF Sx.s; simp only [f5, Bool.false_and, Bool.and_false]; simp
    go_enter Try.func26, Try.ntmps26
    go_wp2_with fail
    rw [← hw0]
    clear hw0
    refine (HF.out w0).mono ?_
    rintro e wf ⟨rfl, rfl⟩
    go_wp2
    go_ret
    exact ⟨ret_bool H.out.symm, HB.out⟩
  by_cases g6 : p.x.iface > 99
  · have f6 : decide (0 ≤ p.x.iface ∧ p.x.iface ≤ 99) = false := decide_eq_false (by omega)
    have H : Hid ((!snF p.x.s) = true) := by show _ = _; unfold snF Sx.s; simp only [f6, Bool.false_and, Bool.and_false]; simp
    go_enter Try.func26, Try.ntmps26
    go_wp2_with fail
    rw [← hw0]
    clear hw0
    refine (HF.out w0).mono ?_
    rintro e wf ⟨rfl, rfl⟩
    go_wp2
    go_ret
    exact ⟨ret_bool H.out.symm, HB.out⟩
  have f1 : decide (8 ≤ p.x.bits ∧ p.x.bits ≤ 30) = true := decide_eq_true (by omega)
  have f3 : decide (p.x.pools.length ≤ 4) = true := decide_eq_true (by have := HPL.out; omega)
  have f4 : decide (p.x.res.length ≤ 8) = true := decide_eq_true (by have := HRL.out; omega)
  have f5 : decide (0 ≤ p.x.iface ∧ p.x.iface ≤ 99) = true := decide_eq_true (by omega)
  cases f7 : decide (1 ≤ p.x.time ∧ p.x.time ≤ 2147483648) with
  | false =>
    rw [f7] at HS
    have H : Hid ((!snF p.x.s) = true) := by show _ = _; unfold snF Sx.s; simp only [f7, Bool.false_and, Bool.and_false]; simp
    go_enter Try.func26, Try.ntmps26
    go_wp2_with fail
    rw [← hw0]
    clear hw0
    refine (HF.out w0).mono ?_
    rintro e wf ⟨rfl, rfl⟩
    go_wp2_with fail
    refine (HS.out w0).mono ?_
    rintro e wf ⟨rfl, rfl⟩
    go_wp2
    go_ret
    exact ⟨ret_bool H.out.symm, HB.out⟩
  | true =>
  rw [f7] at HS
  cases f8 : (p.x.pools.any fun q => !poolF q) with
  | true =>
    have f9 : p.x.pools.all poolF = false := by rw [← not_all] at f8; simpa using f8
    rw [f8] at HP
    have H : Hid ((!snF p.x.s) = true) := by show _ = _; unfold snF Sx.s; simp only [f9, Bool.false_and, Bool.and_false]; simp
    go_enter Try.func26, Try.ntmps26
    go_wp2_with fail
    rw [← hw0]
    clear hw0
    refine (HF.out w0).mono ?_
    rintro e wf ⟨rfl, rfl⟩
    go_wp2_with fail
    refine (HS.out w0).mono ?_
    rintro e wf ⟨rfl, rfl⟩
    go_wp2_with fail
    refine HP.out.mono ?_
    rintro e w1 ⟨rfl, hb1⟩
    obtain ⟨d0, d1, d2, d3, d4, d5, d6, _, _⟩ := cel9 (HC0.out.below hb1 HC0.out.lt)
    have HB1 := Lib.hid (HB.out.trans (hb1.mono HB.out.size))
    clear hb1
    go_wp2
    go_ret
    exact ⟨ret_bool H.out.symm, HB1.out⟩
  | false =>
  have f9 : p.x.pools.all poolF = true := by rw [← not_all] at f8; simpa using f8
  rw [f8] at HP
  have H : Hid ((!snF p.x.s) = p.x.res.any fun r => !resF r) := by
    show _ = _
    rw [← not_all]
    unfold snF Sx.s
    simp only [f0, f1, f3, f4, f5, f7, f9, Bool.true_and, Bool.and_true]
  have K1 : Hid (decide (p.x.bits < 8) = false) := decide_eq_false g1
  have K2 : Hid (decide (30 < p.x.bits) = false) := decide_eq_false g2
  have K3 : Hid (decide ((4 : Int) < pn) = false) := decide_eq_false g3
  have K4 : Hid (decide ((8 : Int) < rn) = false) := decide_eq_false g4
  have K5 : Hid (decide (p.x.iface < 0) = false) := decide_eq_false g5
  have K6 : Hid (decide (99 < p.x.iface) = false) := decide_eq_false g6
  go_enter Try.func26, Try.ntmps26
  go_wp2_with fail
  rw [← hw0]
  clear hw0
  refine (HF.out w0).mono ?_
  rintro e wf ⟨rfl, rfl⟩
  go_wp2_with fail
  refine (HS.out w0).mono ?_
  rintro e wf ⟨rfl, rfl⟩
  go_wp2_with fail
  refine HP.out.mono ?_
  rintro e w1 ⟨rfl, hb1⟩
  obtain ⟨d0, d1, d2, d3, d4, d5, d6, _, _⟩ := cel9 (HC0.out.below hb1 HC0.out.lt)
  have HB1 := Lib.hid (HB.out.trans (hb1.mono HB.out.size))
  have HR := Lib.hid (HRR.out w1 hb1)
  clear hb1
  go_wp2_with fail
  refine HR.out.mono ?_
  rintro e w2 ⟨rfl, hb2⟩
  go_wp2
  go_ret
  exact ⟨ret_bool (by rw [K1.out, K2.out, K3.out, K4.out, K5.out, K6.out, H.out]; rfl), HB1.out.trans (hb2.mono HB1.out.size)⟩
set_option maxHeartbeats 2000000 in
theorem stray_pool (p : Px) (pn rn : Nat) (q : Pl) (g : Nat) (w : World) (hg : g < w.heap.size) (hc : Cel w g 55 (p.cs pn rn)) (hf : fairB p.x.base p.x.bits = true) :
    Calls Try.prog 57 #[.agg #[.int .i64 q.first, .int .i64 q.last], .pointer (some ⟨g, 0, none⟩)] w (isB (!lendsB p.x.s q.first || !lendsB p.x.s q.last) w) := by
  obtain ⟨w0, hw0⟩ : ∃ w0, w0 = w.alloc (.cells #[.int .i64 q.first, .int .i64 q.last] 50) := ⟨_, rfl⟩
  have hb0 : Below w.heap.size w w0 := by rw [hw0]; exact alloc_more _ _
  have hn0 : Cel w0 w.heap.size 50 #[.int .i64 q.first, .int .i64 q.last] := by rw [hw0]; exact Cel.born _ _ _
  have HC0 := Lib.hid (hc.below hb0 hg)
  have HN0 := Lib.hid hn0
  have HB := Lib.hid hb0
  have HL1 := Lib.hid (lends_any p pn rn q.first w0 hf)
  have HL2 := Lib.hid (fun W => lends_any p pn rn q.last W hf)
  clear hb0 hn0 hc hf hg
  cases h1 : lendsB p.x.s q.first with
  | false =>
    rw [h1] at HL1
    clear h1
    go_enter Try.func57, Try.ntmps57
    go_upto_region 1 with fail
    rw [← hw0]
    clear hw0
    obtain ⟨c0, c1, c2, c3, c4, c5, c6, c7, c8⟩ := cel9 HC0.out
    obtain ⟨d0, d1⟩ := celP HN0.out
    go_wp2_with fail
    refine HL1.out.mono ?_
    rintro e w1 ⟨rfl, hb1⟩
    go_wp2
    go_ret
    exact ⟨rfl, HB.out.trans (hb1.mono HB.out.size)⟩
  | true =>
    rw [h1] at HL1
    clear h1
    go_enter Try.func57, Try.ntmps57
    go_upto_region 1 with fail
    rw [← hw0]
    clear hw0
    obtain ⟨c0, c1, c2, c3, c4, c5, c6, c7, c8⟩ := cel9 HC0.out
    obtain ⟨d0, d1⟩ := celP HN0.out
    go_wp2_with fail
    refine HL1.out.mono ?_
    rintro e w1 ⟨rfl, hb1⟩
    clear c0 c1 c2 c3 c4 c5 c6 c7 c8 d0 d1
    obtain ⟨c0, c1, c2, c3, c4, c5, c6, c7, c8⟩ := cel9 (HC0.out.below hb1 HC0.out.lt)
    obtain ⟨d0, d1⟩ := celP (HN0.out.below hb1 HN0.out.lt)
    have HB1 := Lib.hid (HB.out.trans (hb1.mono HB.out.size))
    clear hb1
    go_wp2_with fail
    refine (HL2.out w1).mono ?_
    rintro e w2 ⟨rfl, hb2⟩
    go_wp2
    go_ret
    exact ⟨rfl, HB1.out.trans (hb2.mono HB1.out.size)⟩
set_option maxHeartbeats 2000000 in
theorem stray_res (p : Px) (pn rn : Nat) (r : Rs) (g : Nat) (w : World) (hg : g < w.heap.size) (hc : Cel w g 55 (p.cs pn rn)) (hf : fairB p.x.base p.x.bits = true) :
    Calls Try.prog 59 #[.agg #[.string (ba r.key), .int .i64 r.addr], .pointer (some ⟨g, 0, none⟩)] w (isB (!lendsB p.x.s r.addr) w) := by
  obtain ⟨w0, hw0⟩ : ∃ w0, w0 = w.alloc (.cells #[.string (ba r.key), .int .i64 r.addr] 47) := ⟨_, rfl⟩
  have hb0 : Below w.heap.size w w0 := by rw [hw0]; exact alloc_more _ _
  have hn0 : Cel w0 w.heap.size 47 #[.string (ba r.key), .int .i64 r.addr] := by rw [hw0]; exact Cel.born _ _ _
  have HC0 := Lib.hid (hc.below hb0 hg)
  have HB := Lib.hid hb0
  have HL1 := Lib.hid (lends_any p pn rn r.addr w0 hf)
  have d1 : w0.cell? ⟨w.heap.size, 1, none⟩ = some (.int .i64 r.addr) := by rw [hn0.cell]; rfl
  clear hb0 hn0 hc hf hg
  go_enter Try.func59, Try.ntmps59
  go_upto_region 1 with fail
  rw [← hw0]
  clear hw0
  obtain ⟨c0, c1, c2, c3, c4, c5, c6, c7, c8⟩ := cel9 HC0.out
  go_wp2_with fail
  refine HL1.out.mono ?_
  rintro e w1 ⟨rfl, hb1⟩
  go_wp2
  go_ret
  exact ⟨rfl, HB.out.trans (hb1.mono HB.out.size)⟩
set_option maxHeartbeats 8000000 in
theorem strays_any (p : Px) (pn rn U : Nat) (w : World) (hok : p.x.ok U w pn rn) (hU : U ≤ w.heap.size) (hf : fairB p.x.base p.x.bits = true) : Calls Try.prog 28 #[p.v pn rn] w (isB (strayB p.x.s) w) := by
  obtain ⟨w0, hw0, hc0, hb0⟩ := boxed w p pn rn
  have hz : w0.heap.size = w.heap.size + 1 := by rw [hw0]; simp
  have HP := Lib.hid (hasP 57 (fun args W => by rfl) #[.pointer (some ⟨w.heap.size, 0, none⟩)] (fun q => !lendsB p.x.s q.first || !lendsB p.x.s q.last) p.x.pA pn p.x.pc U p.x.pools w0 (hok.p.below (hb0.mono hU)) (by omega)
    (fun q _ W hW => by rw [app1]; exact stray_pool p pn rn q _ W (by have := hW.size; omega) (hc0.below hW hc0.lt) hf))
  have HRR := Lib.hid (fun w1 (h1 : Below w0.heap.size w0 w1) => hasR 59 (fun args W => by rfl) #[.pointer (some ⟨w.heap.size, 0, none⟩)] (fun r => !lendsB p.x.s r.addr) p.x.rA rn p.x.rc U p.x.res w1 ((hok.r.below (hb0.mono hU)).below (h1.mono (by omega))) (by have := h1.size; omega)
    (fun r _ W hW => by rw [app1]; exact stray_res p pn rn r _ W (by have := hW.size; have := h1.size; omega) ((hc0.below h1 hc0.lt).below hW (Nat.lt_of_lt_of_le hc0.lt h1.size)) hf))
  have HH := Lib.hid (fun W => Aw.has_any p.x.base p.x.bits p.x.router W)
  have HB := Lib.hid hb0
  have HC0 := Lib.hid hc0
  clear hok hU hc0 hb0 hz hf
  by_cases h1 : p.x.router = 0
  · have hq : (p.x.router == 0) = true := by simpa using h1
    have hq2 : (p.x.router != 0) = false := by rw [bne, hq]; rfl
    have hr : decide (p.x.s.router = 0) = true := decide_eq_true h1
    clear h1
    cases f8 : (p.x.pools.any fun q => !lendsB p.x.s q.first || !lendsB p.x.s q.last) with
    | true =>
      have H : Hid (strayB p.x.s = true) := by show _ = _; unfold strayB; rw [show (p.x.s.pools.any fun q => !lendsB p.x.s q.first || !lendsB p.x.s q.last) = true from f8]; simp
      rw [f8] at HP
      go_enter Try.func28, Try.ntmps28
      go_upto_region 1 with fail
      rw [← hw0]
      clear hw0
      obtain ⟨c0, c1, c2, c3, c4, c5, c6, c7, c8⟩ := cel9 HC0.out
      go_wp2_with fail
      refine HP.out.mono ?_
      rintro e w1 ⟨rfl, hb1⟩
      clear c0 c1 c2 c3 c4 c5 c6 c7 c8
      have HB1 := Lib.hid (HB.out.trans (hb1.mono HB.out.size))
      obtain ⟨c0, c1, c2, c3, c4, c5, c6, c7, c8⟩ := cel9 (HC0.out.below hb1 HC0.out.lt)
      clear hb1
      go_wp2
      go_ret
      exact ⟨ret_bool H.out.symm, HB1.out⟩
    | false =>
      have H : Hid (strayB p.x.s = p.x.res.any fun r => !lendsB p.x.s r.addr) := by
        show _ = _
        unfold strayB
        rw [show (p.x.s.pools.any fun q => !lendsB p.x.s q.first || !lendsB p.x.s q.last) = false from f8, hr]
        rfl
      rw [f8] at HP
      go_enter Try.func28, Try.ntmps28
      go_upto_region 1 with fail
      rw [← hw0]
      clear hw0
      obtain ⟨c0, c1, c2, c3, c4, c5, c6, c7, c8⟩ := cel9 HC0.out
      go_wp2_with fail
      refine HP.out.mono ?_
      rintro e w1 ⟨rfl, hb1⟩
      clear c0 c1 c2 c3 c4 c5 c6 c7 c8
      have HB1 := Lib.hid (HB.out.trans (hb1.mono HB.out.size))
      obtain ⟨c0, c1, c2, c3, c4, c5, c6, c7, c8⟩ := cel9 (HC0.out.below hb1 HC0.out.lt)
      have HR := Lib.hid (HRR.out w1 hb1)
      clear hb1
      go_wp2_with fail
      refine HR.out.mono ?_
      rintro e w2 ⟨rfl, hb2⟩
      go_wp2
      go_ret
      exact ⟨ret_bool H.out.symm, HB1.out.trans (hb2.mono HB1.out.size)⟩
  have hq : (p.x.router == 0) = false := by simpa using h1
  have hq2 : (p.x.router != 0) = true := by rw [bne, hq]; rfl
  have hr : decide (p.x.s.router = 0) = false := decide_eq_false h1
  clear h1
  cases h2 : hasB p.x.base p.x.bits p.x.router with
  | false =>
    have H : Hid (strayB p.x.s = true) := by show _ = _; unfold strayB; rw [hr, show hasB p.x.s.base p.x.s.bits p.x.s.router = false from h2]; simp
    rw [h2] at HH
    go_enter Try.func28, Try.ntmps28
    go_upto_region 1 with fail
    rw [← hw0]
    clear hw0
    obtain ⟨c0, c1, c2, c3, c4, c5, c6, c7, c8⟩ := cel9 HC0.out
    go_wp2_with fail
    refine (HH.out w0).mono ?_
    rintro e wf ⟨rfl, rfl⟩
    go_wp2
    go_ret
    exact ⟨ret_bool H.out.symm, HB.out⟩
  | true =>
    rw [h2] at HH
    have h3 : hasB p.x.s.base p.x.s.bits p.x.s.router = true := h2
    cases f8 : (p.x.pools.any fun q => !lendsB p.x.s q.first || !lendsB p.x.s q.last) with
    | true =>
      have H : Hid (strayB p.x.s = true) := by show _ = _; unfold strayB; rw [show (p.x.s.pools.any fun q => !lendsB p.x.s q.first || !lendsB p.x.s q.last) = true from f8]; simp
      rw [f8] at HP
      go_enter Try.func28, Try.ntmps28
      go_upto_region 1 with fail
      rw [← hw0]
      clear hw0
      obtain ⟨c0, c1, c2, c3, c4, c5, c6, c7, c8⟩ := cel9 HC0.out
      go_wp2_with fail
      refine (HH.out w0).mono ?_
      rintro e wf ⟨rfl, rfl⟩
      go_wp2_with fail
      refine HP.out.mono ?_
      rintro e w1 ⟨rfl, hb1⟩
      clear c0 c1 c2 c3 c4 c5 c6 c7 c8
      have HB1 := Lib.hid (HB.out.trans (hb1.mono HB.out.size))
      obtain ⟨c0, c1, c2, c3, c4, c5, c6, c7, c8⟩ := cel9 (HC0.out.below hb1 HC0.out.lt)
      clear hb1
      go_wp2
      go_ret
      exact ⟨ret_bool H.out.symm, HB1.out⟩
    | false =>
      have H : Hid (strayB p.x.s = p.x.res.any fun r => !lendsB p.x.s r.addr) := by
        show _ = _
        unfold strayB
        rw [show (p.x.s.pools.any fun q => !lendsB p.x.s q.first || !lendsB p.x.s q.last) = false from f8, hr, h3]
        rfl
      rw [f8] at HP
      go_enter Try.func28, Try.ntmps28
      go_upto_region 1 with fail
      rw [← hw0]
      clear hw0
      obtain ⟨c0, c1, c2, c3, c4, c5, c6, c7, c8⟩ := cel9 HC0.out
      go_wp2_with fail
      refine (HH.out w0).mono ?_
      rintro e wf ⟨rfl, rfl⟩
      go_wp2_with fail
      refine HP.out.mono ?_
      rintro e w1 ⟨rfl, hb1⟩
      clear c0 c1 c2 c3 c4 c5 c6 c7 c8
      have HB1 := Lib.hid (HB.out.trans (hb1.mono HB.out.size))
      obtain ⟨c0, c1, c2, c3, c4, c5, c6, c7, c8⟩ := cel9 (HC0.out.below hb1 HC0.out.lt)
      have HR := Lib.hid (HRR.out w1 hb1)
      clear hb1
      go_wp2_with fail
      refine HR.out.mono ?_
      rintro e w2 ⟨rfl, hb2⟩
      go_wp2
      go_ret
      exact ⟨ret_bool H.out.symm, HB1.out.trans (hb2.mono HB1.out.size)⟩
end Go.Proofs.Ytoilljilndmmfaa.Vw
