/- The walks of the statements AllocSome and AllocOne. -/
import Derived.Test.YtpdjdaoclpeffaaXwKnows
import Derived.Deep.QuietTactic
set_option maxRecDepth 8000
namespace Go.Proofs.Ytpdjdaoclpeffaa.Xw
open Go.RowKit Co By Ky Rc Ew Jw La Tb Lw Cf Al Bw
open Vw (Cx RdPl layP atP FiR AdR KeR isI cel3C)
open Dw (ba ba_size ba_data ba_list alloc_more)

theorem i64_in {x : Int} (h : (Lit.int .i64 x).wf = true) : -9223372036854775808 ≤ x ∧ x ≤ 9223372036854775807 := by
  simp only [Lit.wf, Bool.and_eq_true, decide_eq_true_eq] at h
  have h1 : IntKind.i64.min = -9223372036854775808 := rfl
  have h2 : IntKind.i64.max = 9223372036854775807 := rfl
  rw [h1, h2] at h
  omega
/-- A need that is looked at. -/
theorem nd_ok {d : Nd} {U : Nat} {w : World} (hx : d.x.ok U w) (ht : RdLs U w d.A d.n d.c d.l) (hf : ∀ a ∈ d.l, Fk a) (hk : d.k.length ≤ 9223372036854775807) (hg : greatA d.x.cf d.l d.k = false) : d.ok U w := by
  unfold greatA at hg
  exact ⟨hx, ht, hf, small_iff.1 (Bool.or_eq_false_iff.1 hg).1, hk⟩
set_option maxHeartbeats 4000000 in
theorem some_walk (d : Nd) (a want : Int) (w : World) (hx : d.x.ok w.heap.size w) (ht : RdLs w.heap.size w d.A d.n d.c d.l) (hf : ∀ a ∈ d.l, Fk a) (hk : d.k.length ≤ 9223372036854775807) (ha : (Lit.int .i64 a).wf = true) (hwt : (Lit.int .i64 want).wf = true) :
    Calls Try.prog 3 #[d.x.v, .slice d.A d.n d.c, .int .i64 d.net, .string (ba d.k), .int .i64 a, .int .i64 want, .int .i64 d.now] w (isTrue w) := by
  obtain ⟨w0, hw0, hc0, hb0⟩ := boxC1 w d.x
  have HG := Lib.hid (Xw.great_any d.x d.A d.n d.c w.heap.size d.l d.k w0 (hx.below hb0) (ht.below hb0) hb0.size hf hk)
  have HC0 := Lib.hid hc0
  have HB0 := Lib.hid hb0
  cases hg : greatA d.x.cf d.l d.k with
  | true =>
    rw [hg] at HG
    clear hg hx ht hf hk hc0 hb0
    go_enter Try.func3, Try.ntmps3
    go_upto_region 1 with fail
    rw [← hw0]
    clear hw0
    obtain ⟨c0, c1, c2⟩ := cel3C HC0.out
    go_wp2_with fail
    refine (HG.out).mono ?_
    rintro e w1 ⟨rfl, hb1⟩
    have HB1 := Lib.hid (HB0.out.trans (hb1.mono HB0.out.size))
    have HC1 := Lib.hid (HC0.out.below hb1 HC0.out.lt)
    clear c0 c1 c2
    obtain ⟨c0, c1, c2⟩ := cel3C HC1.out
    clear hb1
    go_wp2_with fail
    refine (knows_yes _).mono ?_
    rintro e w2 ⟨rfl, hb2⟩
    have HB2 := Lib.hid (HB1.out.trans (hb2.mono HB1.out.size))
    have HC2 := Lib.hid (HC1.out.below hb2 HC1.out.lt)
    clear c0 c1 c2
    obtain ⟨c0, c1, c2⟩ := cel3C HC2.out
    clear hb2
    go_wp2
    go_ret
    exact ⟨rfl, HB2.out⟩
  | false =>
    rw [hg] at HG
    have hok := nd_ok hx ht hf hk hg
    have HM := Lib.hid (fun x W (hW : Below w.heap.size w W) => May_any d x w.heap.size W (hok.below hW) hW.size)
    have HCW := Lib.hid (fun W (hW : Below w.heap.size w W) => Choose_any d want w.heap.size W (hok.below hW) hW.size (i64_in hwt).1 (i64_in hwt).2)
    have HCA := Lib.hid (fun W (hW : Below w.heap.size w W) => Choose_any d a w.heap.size W (hok.below hW) hW.size (i64_in ha).1 (i64_in ha).2)
    clear hg hx ht hf hk hc0 hb0 hok ha hwt
    cases hm : mayA d.x.cf d.l d.net d.k a d.now with
    | false =>
      have HMA := Lib.hid (HM.out a)
      rw [hm] at HMA
      clear hm HM HCW HCA
      go_enter Try.func3, Try.ntmps3
      go_upto_region 1 with fail
      rw [← hw0]
      clear hw0
      obtain ⟨c0, c1, c2⟩ := cel3C HC0.out
      go_wp2_with fail
      refine (HG.out).mono ?_
      rintro e w1 ⟨rfl, hb1⟩
      have HB1 := Lib.hid (HB0.out.trans (hb1.mono HB0.out.size))
      have HC1 := Lib.hid (HC0.out.below hb1 HC0.out.lt)
      clear c0 c1 c2
      obtain ⟨c0, c1, c2⟩ := cel3C HC1.out
      clear hb1
      go_wp2_with fail
      refine (HMA.out _ HB1.out).mono ?_
      rintro e w2 ⟨rfl, hb2⟩
      have HB2 := Lib.hid (HB1.out.trans (hb2.mono HB1.out.size))
      have HC2 := Lib.hid (HC1.out.below hb2 HC1.out.lt)
      clear c0 c1 c2
      obtain ⟨c0, c1, c2⟩ := cel3C HC2.out
      clear hb2
      go_wp2_with fail
      refine (knows_yes _).mono ?_
      rintro e w3 ⟨rfl, hb3⟩
      have HB3 := Lib.hid (HB2.out.trans (hb3.mono HB2.out.size))
      have HC3 := Lib.hid (HC2.out.below hb3 HC2.out.lt)
      clear c0 c1 c2
      obtain ⟨c0, c1, c2⟩ := cel3C HC3.out
      clear hb3
      go_wp2
      go_ret
      exact ⟨rfl, HB3.out⟩
    | true =>
      have HMA := Lib.hid (HM.out a)
      rw [hm] at HMA
      obtain ⟨u, hu⟩ : ∃ u, chooseA d.x.cf d.l d.net d.k want d.now = (u, true) := ⟨_, Prod.ext rfl (choose_some hm want)⟩
      have h2 := choose_some hm a
      have h3 := choose_may h2
      obtain ⟨v, hv⟩ : ∃ v, chooseA d.x.cf d.l d.net d.k a d.now = (v, true) := ⟨_, Prod.ext rfl h2⟩
      rw [hu] at HCW
      rw [hv] at HCA h3
      have HMV := Lib.hid (HM.out v)
      rw [h3] at HMV
      clear hm HM hu h2 h3 hv
      go_enter Try.func3, Try.ntmps3
      go_upto_region 1 with fail
      rw [← hw0]
      clear hw0
      obtain ⟨c0, c1, c2⟩ := cel3C HC0.out
      go_wp2_with fail
      refine (HG.out).mono ?_
      rintro e w1 ⟨rfl, hb1⟩
      have HB1 := Lib.hid (HB0.out.trans (hb1.mono HB0.out.size))
      have HC1 := Lib.hid (HC0.out.below hb1 HC0.out.lt)
      clear c0 c1 c2
      obtain ⟨c0, c1, c2⟩ := cel3C HC1.out
      clear hb1
      go_wp2_with fail
      refine (HMA.out _ HB1.out).mono ?_
      rintro e w2 ⟨rfl, hb2⟩
      have HB2 := Lib.hid (HB1.out.trans (hb2.mono HB1.out.size))
      have HC2 := Lib.hid (HC1.out.below hb2 HC1.out.lt)
      clear c0 c1 c2
      obtain ⟨c0, c1, c2⟩ := cel3C HC2.out
      clear hb2
      go_wp2_with fail
      refine (HCW.out _ HB2.out).mono ?_
      rintro e w3 ⟨rfl, hb3⟩
      have HB3 := Lib.hid (HB2.out.trans (hb3.mono HB2.out.size))
      have HC3 := Lib.hid (HC2.out.below hb3 HC2.out.lt)
      clear c0 c1 c2
      obtain ⟨c0, c1, c2⟩ := cel3C HC3.out
      clear hb3
      go_wp2_with fail
      refine (HCA.out _ HB3.out).mono ?_
      rintro e w4 ⟨rfl, hb4⟩
      have HB4 := Lib.hid (HB3.out.trans (hb4.mono HB3.out.size))
      have HC4 := Lib.hid (HC3.out.below hb4 HC3.out.lt)
      clear c0 c1 c2
      obtain ⟨c0, c1, c2⟩ := cel3C HC4.out
      clear hb4
      go_wp2_with fail
      refine (HMV.out _ HB4.out).mono ?_
      rintro e w5 ⟨rfl, hb5⟩
      have HB5 := Lib.hid (HB4.out.trans (hb5.mono HB4.out.size))
      have HC5 := Lib.hid (HC4.out.below hb5 HC4.out.lt)
      clear c0 c1 c2
      obtain ⟨c0, c1, c2⟩ := cel3C HC5.out
      clear hb5
      go_wp2_with fail
      refine (knows_yes _).mono ?_
      rintro e w6 ⟨rfl, hb6⟩
      have HB6 := Lib.hid (HB5.out.trans (hb6.mono HB5.out.size))
      have HC6 := Lib.hid (HC5.out.below hb6 HC5.out.lt)
      clear c0 c1 c2
      obtain ⟨c0, c1, c2⟩ := cel3C HC6.out
      clear hb6
      go_wp2
      go_ret
      exact ⟨rfl, HB6.out⟩
end Go.Proofs.Ytpdjdaoclpeffaa.Xw
namespace Go.Proofs.Ytpdjdaoclpeffaa
open Go.RowKit Co By Rc Ew Jw Xw
open Vw (Cx)
open Dw (ba)
theorem allocSome_walk (x : Cx) (A : Option Addr) (n c : Nat) (l : List L) (net : Int) (k : List UInt8) (a want now : Int) (w : World) (hx : x.ok w.heap.size w) (ht : RdLs w.heap.size w A n c l) (hf : ∀ a ∈ l, Fk a) (hk : k.length ≤ 9223372036854775807) (ha : (Lit.int .i64 a).wf = true) (hwt : (Lit.int .i64 want).wf = true) :
    Calls Try.prog 3 #[x.v, .slice A n c, .int .i64 net, .string (ba k), .int .i64 a, .int .i64 want, .int .i64 now] w (isTrue w) := some_walk ⟨x, A, n, c, l, net, k, now⟩ a want w hx ht hf hk ha hwt
end Go.Proofs.Ytpdjdaoclpeffaa
namespace Go.Proofs.Ytpdjdaoclpeffaa.Xw
open Go.RowKit Co By Ky Rc Ew Jw La Tb Lw Cf Al Bw
open Vw (Cx RdPl layP atP FiR AdR KeR isI cel3C)
open Dw (ba ba_size ba_data ba_list alloc_more)
set_option maxHeartbeats 4000000 in
theorem one_walk (d : Nd) (o : List UInt8) (a : Int) (w : World) (hx : d.x.ok w.heap.size w) (ht : RdLs w.heap.size w d.A d.n d.c d.l) (hf : ∀ a ∈ d.l, Fk a) (hk : d.k.length ≤ 9223372036854775807) (ho : o.length ≤ 9223372036854775807) (ha : (Lit.int .i64 a).wf = true) :
    Calls Try.prog 4 #[d.x.v, .slice d.A d.n d.c, .int .i64 d.net, .string (ba d.k), .string (ba o), .int .i64 a, .int .i64 d.now] w (isTrue w) := by
  obtain ⟨w0, hw0, hc0, hb0⟩ := boxC1 w d.x
  have HG := Lib.hid (Xw.great_any d.x d.A d.n d.c w.heap.size d.l d.k w0 (hx.below hb0) (ht.below hb0) hb0.size hf hk)
  have HC0 := Lib.hid hc0
  have HB0 := Lib.hid hb0
  have hoz : (ba o).size ≤ 9223372036854775807 := by rw [ba_size]; exact ho
  cases hg : greatA d.x.cf d.l d.k with
  | true =>
    rw [hg] at HG
    clear hg hx ht hf hk hc0 hb0
    go_enter Try.func4, Try.ntmps4
    go_upto_region 1 with fail
    rw [← hw0]
    clear hw0
    obtain ⟨c0, c1, c2⟩ := cel3C HC0.out
    go_wp2_with fail
    refine (HG.out).mono ?_
    rintro e w1 ⟨rfl, hb1⟩
    have HB1 := Lib.hid (HB0.out.trans (hb1.mono HB0.out.size))
    have HC1 := Lib.hid (HC0.out.below hb1 HC0.out.lt)
    clear c0 c1 c2
    obtain ⟨c0, c1, c2⟩ := cel3C HC1.out
    clear hb1
    go_wp2_with fail
    refine (knows_yes _).mono ?_
    rintro e w2 ⟨rfl, hb2⟩
    have HB2 := Lib.hid (HB1.out.trans (hb2.mono HB1.out.size))
    have HC2 := Lib.hid (HC1.out.below hb2 HC1.out.lt)
    clear c0 c1 c2
    obtain ⟨c0, c1, c2⟩ := cel3C HC2.out
    clear hb2
    go_wp2
    go_ret
    exact ⟨rfl, HB2.out⟩
  | false =>
    rw [hg] at HG
    have hok := nd_ok hx ht hf hk hg
    by_cases hol : 1000 < o.length
    · have hoz2 : ((ba o).size : Int) > 1000 := by rw [ba_size]; omega
      clear hg hx ht hf hk hc0 hb0 hok ha hol
      go_enter Try.func4, Try.ntmps4
      go_upto_region 1 with fail
      rw [← hw0]
      clear hw0
      obtain ⟨c0, c1, c2⟩ := cel3C HC0.out
      go_wp2_with fail
      refine (HG.out).mono ?_
      rintro e w1 ⟨rfl, hb1⟩
      have HB1 := Lib.hid (HB0.out.trans (hb1.mono HB0.out.size))
      have HC1 := Lib.hid (HC0.out.below hb1 HC0.out.lt)
      clear c0 c1 c2
      obtain ⟨c0, c1, c2⟩ := cel3C HC1.out
      clear hb1
      go_wp2_with fail
      refine (knows_yes _).mono ?_
      rintro e w2 ⟨rfl, hb2⟩
      have HB2 := Lib.hid (HB1.out.trans (hb2.mono HB1.out.size))
      have HC2 := Lib.hid (HC1.out.below hb2 HC1.out.lt)
      clear c0 c1 c2
      obtain ⟨c0, c1, c2⟩ := cel3C HC2.out
      clear hb2
      go_wp2
      go_ret
      exact ⟨rfl, HB2.out⟩
    · have hoz2 : ¬ ((ba o).size : Int) > 1000 := by rw [ba_size]; omega
      by_cases hko : d.k = o
      · have hkz := beq_key hko
        clear hg hx ht hf hk hc0 hb0 hok ha hol hko
        go_enter Try.func4, Try.ntmps4
        go_upto_region 1 with fail
        rw [← hw0]
        clear hw0
        obtain ⟨c0, c1, c2⟩ := cel3C HC0.out
        go_wp2_with fail
        refine (HG.out).mono ?_
        rintro e w1 ⟨rfl, hb1⟩
        have HB1 := Lib.hid (HB0.out.trans (hb1.mono HB0.out.size))
        have HC1 := Lib.hid (HC0.out.below hb1 HC0.out.lt)
        clear c0 c1 c2
        obtain ⟨c0, c1, c2⟩ := cel3C HC1.out
        clear hb1
        go_wp2_with fail
        refine (knows_yes _).mono ?_
        rintro e w2 ⟨rfl, hb2⟩
        have HB2 := Lib.hid (HB1.out.trans (hb2.mono HB1.out.size))
        have HC2 := Lib.hid (HC1.out.below hb2 HC1.out.lt)
        clear c0 c1 c2
        obtain ⟨c0, c1, c2⟩ := cel3C HC2.out
        clear hb2
        go_wp2
        go_ret
        exact ⟨rfl, HB2.out⟩
      · have hkz := bne_key hko
        have HM := Lib.hid (fun W (hW : Below w.heap.size w W) => May_any d a w.heap.size W (hok.below hW) hW.size)
        have HCA := Lib.hid (fun W (hW : Below w.heap.size w W) => Choose_any d a w.heap.size W (hok.below hW) hW.size (i64_in ha).1 (i64_in ha).2)
        have HGT := Lib.hid (fun W (hW : Below w.heap.size w W) => Bw.refGet_any d.A d.n d.c w.heap.size d.l a W (ht.below hW) hW.size hf)
        have HH := Lib.hid (fun p W => Bw.refHolds_any p d.now W)
        have HONE := Lib.hid (fun (h1 : (getT d.l a).2 = true) (h2 : holdsT (getT d.l a).1 d.now = true) (h3 : (getT d.l a).1.key ≠ d.k) => may_one (c := d.x.cf) (net := d.net) h1 h2 h3)
        have HNO := Lib.hid (fun (h : mayA d.x.cf d.l d.net d.k a d.now = false) => one_choose (want := a) h)
        generalize getT d.l a = g at HGT HONE
        obtain ⟨p, there⟩ := g
        simp only at HONE
        clear hg hx ht hf hk hc0 hb0 hok ha hol
        cases there with
        | false =>
          clear HONE HNO HM HCA HH
          go_enter Try.func4, Try.ntmps4
          go_upto_region 1 with fail
          rw [← hw0]
          clear hw0
          obtain ⟨c0, c1, c2⟩ := cel3C HC0.out
          go_wp2_with fail
          refine (HG.out).mono ?_
          rintro e w1 ⟨rfl, hb1⟩
          have HB1 := Lib.hid (HB0.out.trans (hb1.mono HB0.out.size))
          have HC1 := Lib.hid (HC0.out.below hb1 HC0.out.lt)
          clear c0 c1 c2
          obtain ⟨c0, c1, c2⟩ := cel3C HC1.out
          clear hb1
          go_wp2_with fail
          refine (HGT.out _ HB1.out).mono ?_
          rintro e w2 ⟨rfl, hb2⟩
          have HB2 := Lib.hid (HB1.out.trans (hb2.mono HB1.out.size))
          have HC2 := Lib.hid (HC1.out.below hb2 HC1.out.lt)
          clear c0 c1 c2
          obtain ⟨c0, c1, c2⟩ := cel3C HC2.out
          obtain ⟨wL, hwL⟩ : ∃ wL, wL = w2.alloc (.cells (lcs p) 33) := ⟨_, rfl⟩
          have hbL : Below w2.heap.size w2 wL := by rw [hwL]; exact alloc_more _ _
          have HCL := Lib.hid (show Cel wL w2.heap.size 33 (lcs p) by rw [hwL]; exact Cel.born _ _ _)
          have HB9 := Lib.hid (HB2.out.trans (hbL.mono HB2.out.size))
          have HC9 := Lib.hid (HC2.out.below hbL HC2.out.lt)
          clear hbL c0 c1 c2
          go_upto_region 4 with fail
          rw [← hwL]
          clear hwL
          obtain ⟨c0, c1, c2⟩ := cel3C HC9.out
          obtain ⟨y0, y1, y2, y3⟩ := cel4L HCL.out
          clear hb2
          go_wp2_with fail
          refine (knows_yes _).mono ?_
          rintro e wz ⟨rfl, hbz⟩
          go_wp2
          go_ret
          exact ⟨rfl, HB9.out.trans (hbz.mono HB9.out.size)⟩
        | true =>
          by_cases hpk : p.key = o
          · have hpz := beq_key hpk
            cases hh : holdsT p d.now with
            | false =>
              have HH2 := Lib.hid (HH.out p)
              rw [hh] at HH2
              clear HONE HNO HM HCA HH hpk hh hko
              go_enter Try.func4, Try.ntmps4
              go_upto_region 1 with fail
              rw [← hw0]
              clear hw0
              obtain ⟨c0, c1, c2⟩ := cel3C HC0.out
              go_wp2_with fail
              refine (HG.out).mono ?_
              rintro e w1 ⟨rfl, hb1⟩
              have HB1 := Lib.hid (HB0.out.trans (hb1.mono HB0.out.size))
              have HC1 := Lib.hid (HC0.out.below hb1 HC0.out.lt)
              clear c0 c1 c2
              obtain ⟨c0, c1, c2⟩ := cel3C HC1.out
              clear hb1
              go_wp2_with fail
              refine (HGT.out _ HB1.out).mono ?_
              rintro e w2 ⟨rfl, hb2⟩
              have HB2 := Lib.hid (HB1.out.trans (hb2.mono HB1.out.size))
              have HC2 := Lib.hid (HC1.out.below hb2 HC1.out.lt)
              clear c0 c1 c2
              obtain ⟨c0, c1, c2⟩ := cel3C HC2.out
              obtain ⟨wL, hwL⟩ : ∃ wL, wL = w2.alloc (.cells (lcs p) 33) := ⟨_, rfl⟩
              have hbL : Below w2.heap.size w2 wL := by rw [hwL]; exact alloc_more _ _
              have HCL := Lib.hid (show Cel wL w2.heap.size 33 (lcs p) by rw [hwL]; exact Cel.born _ _ _)
              have HB9 := Lib.hid (HB2.out.trans (hbL.mono HB2.out.size))
              have HC9 := Lib.hid (HC2.out.below hbL HC2.out.lt)
              clear hbL c0 c1 c2
              go_upto_region 4 with fail
              rw [← hwL]
              clear hwL
              obtain ⟨c0, c1, c2⟩ := cel3C HC9.out
              obtain ⟨y0, y1, y2, y3⟩ := cel4L HCL.out
              clear hb2
              go_wp2_with fail
              refine (HH2.out _).mono ?_
              rintro e w10 ⟨rfl, hb10⟩
              have HB10 := Lib.hid (HB9.out.trans (hb10.mono HB9.out.size))
              go_wp2_with fail
              refine (knows_yes _).mono ?_
              rintro e wz ⟨rfl, hbz⟩
              go_wp2
              go_ret
              exact ⟨rfl, HB10.out.trans (hbz.mono HB10.out.size)⟩
            | true =>
              have HH2 := Lib.hid (HH.out p)
              rw [hh] at HH2
              have hm := HONE.out rfl hh (by rw [hpk]; exact fun e => hko e.symm)
              have HN2 := Lib.hid (HNO.out hm)
              rw [hm] at HM
              generalize chooseA d.x.cf d.l d.net d.k a d.now = u at HN2 HCA
              obtain ⟨b, is⟩ := u
              simp only at HN2
              clear HONE HNO HH hpk hh hko hm
              cases is with
              | false =>
                clear HN2
                go_enter Try.func4, Try.ntmps4
                go_upto_region 1 with fail
                rw [← hw0]
                clear hw0
                obtain ⟨c0, c1, c2⟩ := cel3C HC0.out
                go_wp2_with fail
                refine (HG.out).mono ?_
                rintro e w1 ⟨rfl, hb1⟩
                have HB1 := Lib.hid (HB0.out.trans (hb1.mono HB0.out.size))
                have HC1 := Lib.hid (HC0.out.below hb1 HC0.out.lt)
                clear c0 c1 c2
                obtain ⟨c0, c1, c2⟩ := cel3C HC1.out
                clear hb1
                go_wp2_with fail
                refine (HGT.out _ HB1.out).mono ?_
                rintro e w2 ⟨rfl, hb2⟩
                have HB2 := Lib.hid (HB1.out.trans (hb2.mono HB1.out.size))
                have HC2 := Lib.hid (HC1.out.below hb2 HC1.out.lt)
                clear c0 c1 c2
                obtain ⟨c0, c1, c2⟩ := cel3C HC2.out
                obtain ⟨wL, hwL⟩ : ∃ wL, wL = w2.alloc (.cells (lcs p) 33) := ⟨_, rfl⟩
                have hbL : Below w2.heap.size w2 wL := by rw [hwL]; exact alloc_more _ _
                have HCL := Lib.hid (show Cel wL w2.heap.size 33 (lcs p) by rw [hwL]; exact Cel.born _ _ _)
                have HB9 := Lib.hid (HB2.out.trans (hbL.mono HB2.out.size))
                have HC9 := Lib.hid (HC2.out.below hbL HC2.out.lt)
                clear hbL c0 c1 c2
                go_upto_region 4 with fail
                rw [← hwL]
                clear hwL
                obtain ⟨c0, c1, c2⟩ := cel3C HC9.out
                obtain ⟨y0, y1, y2, y3⟩ := cel4L HCL.out
                clear hb2
                go_wp2_with fail
                refine (HH2.out _).mono ?_
                rintro e w10 ⟨rfl, hb10⟩
                have HB10 := Lib.hid (HB9.out.trans (hb10.mono HB9.out.size))
                have HC10 := Lib.hid (HC9.out.below hb10 HC9.out.lt)
                clear hb10 c0 c1 c2 y0 y1 y2 y3
                obtain ⟨c0, c1, c2⟩ := cel3C HC10.out
                go_wp2_with fail
                refine (HCA.out _ HB10.out).mono ?_
                rintro e w11 ⟨rfl, hb11⟩
                have HB11 := Lib.hid (HB10.out.trans (hb11.mono HB10.out.size))
                have HC11 := Lib.hid (HC10.out.below hb11 HC10.out.lt)
                clear hb11 c0 c1 c2
                obtain ⟨c0, c1, c2⟩ := cel3C HC11.out
                go_wp2_with fail
                refine (HM.out _ HB11.out).mono ?_
                rintro e w12 ⟨rfl, hb12⟩
                have HB12 := Lib.hid (HB11.out.trans (hb12.mono HB11.out.size))
                clear hb12
                go_wp2_with fail
                refine (knows_yes _).mono ?_
                rintro e wz ⟨rfl, hbz⟩
                go_wp2
                go_ret
                exact ⟨rfl, HB12.out.trans (hbz.mono HB12.out.size)⟩
              | true =>
                have hbz2 : (b != a) = true := by
                  have := HN2.out rfl
                  simpa using this
                clear HN2
                go_enter Try.func4, Try.ntmps4
                go_upto_region 1 with fail
                rw [← hw0]
                clear hw0
                obtain ⟨c0, c1, c2⟩ := cel3C HC0.out
                go_wp2_with fail
                refine (HG.out).mono ?_
                rintro e w1 ⟨rfl, hb1⟩
                have HB1 := Lib.hid (HB0.out.trans (hb1.mono HB0.out.size))
                have HC1 := Lib.hid (HC0.out.below hb1 HC0.out.lt)
                clear c0 c1 c2
                obtain ⟨c0, c1, c2⟩ := cel3C HC1.out
                clear hb1
                go_wp2_with fail
                refine (HGT.out _ HB1.out).mono ?_
                rintro e w2 ⟨rfl, hb2⟩
                have HB2 := Lib.hid (HB1.out.trans (hb2.mono HB1.out.size))
                have HC2 := Lib.hid (HC1.out.below hb2 HC1.out.lt)
                clear c0 c1 c2
                obtain ⟨c0, c1, c2⟩ := cel3C HC2.out
                obtain ⟨wL, hwL⟩ : ∃ wL, wL = w2.alloc (.cells (lcs p) 33) := ⟨_, rfl⟩
                have hbL : Below w2.heap.size w2 wL := by rw [hwL]; exact alloc_more _ _
                have HCL := Lib.hid (show Cel wL w2.heap.size 33 (lcs p) by rw [hwL]; exact Cel.born _ _ _)
                have HB9 := Lib.hid (HB2.out.trans (hbL.mono HB2.out.size))
                have HC9 := Lib.hid (HC2.out.below hbL HC2.out.lt)
                clear hbL c0 c1 c2
                go_upto_region 4 with fail
                rw [← hwL]
                clear hwL
                obtain ⟨c0, c1, c2⟩ := cel3C HC9.out
                obtain ⟨y0, y1, y2, y3⟩ := cel4L HCL.out
                clear hb2
                go_wp2_with fail
                refine (HH2.out _).mono ?_
                rintro e w10 ⟨rfl, hb10⟩
                have HB10 := Lib.hid (HB9.out.trans (hb10.mono HB9.out.size))
                have HC10 := Lib.hid (HC9.out.below hb10 HC9.out.lt)
                clear hb10 c0 c1 c2 y0 y1 y2 y3
                obtain ⟨c0, c1, c2⟩ := cel3C HC10.out
                go_wp2_with fail
                refine (HCA.out _ HB10.out).mono ?_
                rintro e w11 ⟨rfl, hb11⟩
                have HB11 := Lib.hid (HB10.out.trans (hb11.mono HB10.out.size))
                have HC11 := Lib.hid (HC10.out.below hb11 HC10.out.lt)
                clear hb11 c0 c1 c2
                obtain ⟨c0, c1, c2⟩ := cel3C HC11.out
                go_wp2_with fail
                refine (HM.out _ HB11.out).mono ?_
                rintro e w12 ⟨rfl, hb12⟩
                have HB12 := Lib.hid (HB11.out.trans (hb12.mono HB11.out.size))
                clear hb12
                go_wp2_with fail
                refine (knows_yes _).mono ?_
                rintro e wz ⟨rfl, hbz⟩
                go_wp2
                go_ret
                exact ⟨rfl, HB12.out.trans (hbz.mono HB12.out.size)⟩
          · have hpz := bne_key hpk
            clear HONE HNO HM HCA HH hpk
            go_enter Try.func4, Try.ntmps4
            go_upto_region 1 with fail
            rw [← hw0]
            clear hw0
            obtain ⟨c0, c1, c2⟩ := cel3C HC0.out
            go_wp2_with fail
            refine (HG.out).mono ?_
            rintro e w1 ⟨rfl, hb1⟩
            have HB1 := Lib.hid (HB0.out.trans (hb1.mono HB0.out.size))
            have HC1 := Lib.hid (HC0.out.below hb1 HC0.out.lt)
            clear c0 c1 c2
            obtain ⟨c0, c1, c2⟩ := cel3C HC1.out
            clear hb1
            go_wp2_with fail
            refine (HGT.out _ HB1.out).mono ?_
            rintro e w2 ⟨rfl, hb2⟩
            have HB2 := Lib.hid (HB1.out.trans (hb2.mono HB1.out.size))
            have HC2 := Lib.hid (HC1.out.below hb2 HC1.out.lt)
            clear c0 c1 c2
            obtain ⟨c0, c1, c2⟩ := cel3C HC2.out
            obtain ⟨wL, hwL⟩ : ∃ wL, wL = w2.alloc (.cells (lcs p) 33) := ⟨_, rfl⟩
            have hbL : Below w2.heap.size w2 wL := by rw [hwL]; exact alloc_more _ _
            have HCL := Lib.hid (show Cel wL w2.heap.size 33 (lcs p) by rw [hwL]; exact Cel.born _ _ _)
            have HB9 := Lib.hid (HB2.out.trans (hbL.mono HB2.out.size))
            have HC9 := Lib.hid (HC2.out.below hbL HC2.out.lt)
            clear hbL c0 c1 c2
            go_upto_region 4 with fail
            rw [← hwL]
            clear hwL
            obtain ⟨c0, c1, c2⟩ := cel3C HC9.out
            obtain ⟨y0, y1, y2, y3⟩ := cel4L HCL.out
            clear hb2
            go_wp2_with fail
            refine (knows_yes _).mono ?_
            rintro e wz ⟨rfl, hbz⟩
            go_wp2
            go_ret
            exact ⟨rfl, HB9.out.trans (hbz.mono HB9.out.size)⟩
end Go.Proofs.Ytpdjdaoclpeffaa.Xw
namespace Go.Proofs.Ytpdjdaoclpeffaa
open Go.RowKit Co By Rc Ew Jw Xw
open Vw (Cx)
open Dw (ba)
theorem allocOne_walk (x : Cx) (A : Option Addr) (n c : Nat) (l : List L) (net : Int) (k o : List UInt8) (a now : Int) (w : World) (hx : x.ok w.heap.size w) (ht : RdLs w.heap.size w A n c l) (hf : ∀ a ∈ l, Fk a) (hk : k.length ≤ 9223372036854775807) (ho : o.length ≤ 9223372036854775807) (ha : (Lit.int .i64 a).wf = true) :
    Calls Try.prog 4 #[x.v, .slice A n c, .int .i64 net, .string (ba k), .string (ba o), .int .i64 a, .int .i64 now] w (isTrue w) := one_walk ⟨x, A, n, c, l, net, k, now⟩ o a w hx ht hf hk ho ha
end Go.Proofs.Ytpdjdaoclpeffaa
