/- What alloc's permission comes to: a function that says whether the client may get an address. Conditions: the configuration is small and the keys fit (Nd.ok). -/
import Derived.Test.YtpdjdaoclpeffaaGreatXwLeaf
import Derived.Test.YtpdjdaoclpeffaaGreatXwRow
import Derived.Deep.QuietTactic
set_option maxRecDepth 8000
namespace Go.Proofs.YtpdjdaoclpeffaaGreat.Xw
open Go.RowKit Co By Ky Rc Ew Jw La Tb Lw Cf Al Bw
open Vw (Cx RdPl layP atP FiR AdR KeR isI app1)
open Dw (ba ba_size ba_data ba_list alloc_more)

/-- What the function says: none of those that are held is another one, it is free, and it is kept for the client or in a pool. -/
def mayB (d : Nd) (hl : List Int) (own : Int) (kept : Bool) (a : Int) : Bool := !(hl.any fun h => decide (h ≠ a)) && (freeT d.l a d.k d.now && ((kept && decide (a = own)) || poolB d.x.cf d.net d.k a))
theorem app4 (x y z u v : Value) : #[x] ++ #[y, z, u, v] = #[x, y, z, u, v] := rfl
theorem cel1 {w : World} {g : Nat} {t : TypeId} {a : Value} (h : Cel w g t #[a]) : w.cell? ⟨g, 0, none⟩ = some a := by rw [h.cell]; rfl
set_option maxHeartbeats 4000000 in
theorem may_any (d : Nd) (U : Nat) (hA : Option Addr) (hn hc : Nat) (hl : List Int) (own : Int) (kept : Bool) (gH gN gK gO : Nat) (a : Int) (w : World) (h : d.ok U w) (hU : U ≤ w.heap.size) (hr : RdZ w.heap.size w hA hn hc hl)
    (cH : Cel w gH 45 #[.slice hA hn hc]) (cN : Cel w gN 44 d.cs) (cK : Cel w gK 4 #[.bool kept]) (cO : Cel w gO 3 #[.int .i64 own]) :
    Calls Tryz.prog 45 (#[.int .i64 a] ++ #[.pointer (some ⟨gH, 0, none⟩), .pointer (some ⟨gN, 0, none⟩), .pointer (some ⟨gK, 0, none⟩), .pointer (some ⟨gO, 0, none⟩)]) w (isB (mayB d hl own kept a) w) := by
  rw [app4]
  obtain ⟨w0, hw0⟩ : ∃ w0, w0 = w.alloc (.cells #[.int .i64 a] 3) := ⟨_, rfl⟩
  have hca : Cel w0 w.heap.size 3 #[.int .i64 a] := by rw [hw0]; exact Cel.born _ _ _
  have hb0 : Below w.heap.size w w0 := by rw [hw0]; exact alloc_more _ _
  have HHZ := Lib.hid (hasZ 47 (fun args W => by rfl) #[.pointer (some ⟨w.heap.size, 0, none⟩)] (fun h => decide (h ≠ a)) hA hn hc w.heap.size hl w0 (hr.below hb0) hb0.size
    (fun x _ W hW => by rw [app1]; exact another_any x a w.heap.size W (cel1 (hca.below hW hca.lt))))
  have HFR := Lib.hid (fun W (hW : Below w.heap.size w W) => Bw.free_any d.A d.n d.c U d.l a d.k d.now W (h.t.below (hW.mono hU)) (Nat.le_trans hU hW.size) h.f)
  have HPL := Lib.hid (fun W (hW : Below w.heap.size w W) => pooled_any d a U W (h.below (hW.mono hU)) (Nat.le_trans hU hW.size))
  have HB0 := Lib.hid hb0
  have HCA := Lib.hid hca
  have HCH := Lib.hid (cH.below hb0 cH.lt)
  have HCN := Lib.hid (cN.below hb0 cN.lt)
  have HCK := Lib.hid (cK.below hb0 cK.lt)
  have HCO := Lib.hid (cO.below hb0 cO.lt)
  have HM : Hid (mayB d hl own kept a = (!(hl.any fun h => decide (h ≠ a)) && (freeT d.l a d.k d.now && ((kept && decide (a = own)) || poolB d.x.cf d.net d.k a)))) := rfl
  generalize mayB d hl own kept a = m at HM ⊢
  generalize (hl.any fun h => decide (h ≠ a)) = b1 at HM HHZ
  generalize freeT d.l a d.k d.now = b2 at HM HFR
  generalize poolB d.x.cf d.net d.k a = b3 at HM HPL
  clear h hU hr cH cN cK cO hca hb0
  cases b1 with
  | true =>
    have HT : Hid (m = false) := HM.out
    clear HM
    go_enter Tryz.func45, Tryz.ntmps45
    go_upto_region 1 with fail
    rw [← hw0]
    clear hw0
    have y0 := cel1 HCA.out
    have yH := cel1 HCH.out
    have yK := cel1 HCK.out
    have yO := cel1 HCO.out
    obtain ⟨c0, c1, c2, c3, c4, c5, c6⟩ := cel7N HCN.out
    go_wp2_with fail
    refine HHZ.out.mono ?_
    rintro e w1 ⟨rfl, hb1⟩
    have HB1 := Lib.hid (HB0.out.trans (hb1.mono HB0.out.size))
    have HCA1 := Lib.hid (HCA.out.below hb1 HCA.out.lt)
    have HCH1 := Lib.hid (HCH.out.below hb1 HCH.out.lt)
    have HCN1 := Lib.hid (HCN.out.below hb1 HCN.out.lt)
    have HCK1 := Lib.hid (HCK.out.below hb1 HCK.out.lt)
    have HCO1 := Lib.hid (HCO.out.below hb1 HCO.out.lt)
    clear y0 yH yK yO c0 c1 c2 c3 c4 c5 c6 HCA HCH HCN HCK HCO
    have y0 := cel1 HCA1.out
    have yH := cel1 HCH1.out
    have yK := cel1 HCK1.out
    have yO := cel1 HCO1.out
    obtain ⟨c0, c1, c2, c3, c4, c5, c6⟩ := cel7N HCN1.out
    go_wp2
    go_ret
    exact ⟨ret_bool HT.out.symm, HB1.out⟩
  | false =>
    cases b2 with
    | false =>
      have HT : Hid (m = false) := HM.out
      clear HM
      go_enter Tryz.func45, Tryz.ntmps45
      go_upto_region 1 with fail
      rw [← hw0]
      clear hw0
      have y0 := cel1 HCA.out
      have yH := cel1 HCH.out
      have yK := cel1 HCK.out
      have yO := cel1 HCO.out
      obtain ⟨c0, c1, c2, c3, c4, c5, c6⟩ := cel7N HCN.out
      go_wp2_with fail
      refine HHZ.out.mono ?_
      rintro e w1 ⟨rfl, hb1⟩
      have HB1 := Lib.hid (HB0.out.trans (hb1.mono HB0.out.size))
      have HCA1 := Lib.hid (HCA.out.below hb1 HCA.out.lt)
      have HCH1 := Lib.hid (HCH.out.below hb1 HCH.out.lt)
      have HCN1 := Lib.hid (HCN.out.below hb1 HCN.out.lt)
      have HCK1 := Lib.hid (HCK.out.below hb1 HCK.out.lt)
      have HCO1 := Lib.hid (HCO.out.below hb1 HCO.out.lt)
      clear y0 yH yK yO c0 c1 c2 c3 c4 c5 c6 HCA HCH HCN HCK HCO
      have y0 := cel1 HCA1.out
      have yH := cel1 HCH1.out
      have yK := cel1 HCK1.out
      have yO := cel1 HCO1.out
      obtain ⟨c0, c1, c2, c3, c4, c5, c6⟩ := cel7N HCN1.out
      go_wp2_with fail
      refine (HFR.out _ HB1.out).mono ?_
      rintro e w2 ⟨rfl, hb2⟩
      have HB2 := Lib.hid (HB1.out.trans (hb2.mono HB1.out.size))
      have HCA2 := Lib.hid (HCA1.out.below hb2 HCA1.out.lt)
      have HCH2 := Lib.hid (HCH1.out.below hb2 HCH1.out.lt)
      have HCN2 := Lib.hid (HCN1.out.below hb2 HCN1.out.lt)
      have HCK2 := Lib.hid (HCK1.out.below hb2 HCK1.out.lt)
      have HCO2 := Lib.hid (HCO1.out.below hb2 HCO1.out.lt)
      clear y0 yH yK yO c0 c1 c2 c3 c4 c5 c6 HCA1 HCH1 HCN1 HCK1 HCO1
      have y0 := cel1 HCA2.out
      have yH := cel1 HCH2.out
      have yK := cel1 HCK2.out
      have yO := cel1 HCO2.out
      obtain ⟨c0, c1, c2, c3, c4, c5, c6⟩ := cel7N HCN2.out
      go_wp2
      go_ret
      exact ⟨ret_bool HT.out.symm, HB2.out⟩
    | true =>
      cases kept with
      | false =>
        have HT : Hid (m = b3) := HM.out
        clear HM
        go_enter Tryz.func45, Tryz.ntmps45
        go_upto_region 1 with fail
        rw [← hw0]
        clear hw0
        have y0 := cel1 HCA.out
        have yH := cel1 HCH.out
        have yK := cel1 HCK.out
        have yO := cel1 HCO.out
        obtain ⟨c0, c1, c2, c3, c4, c5, c6⟩ := cel7N HCN.out
        go_wp2_with fail
        refine HHZ.out.mono ?_
        rintro e w1 ⟨rfl, hb1⟩
        have HB1 := Lib.hid (HB0.out.trans (hb1.mono HB0.out.size))
        have HCA1 := Lib.hid (HCA.out.below hb1 HCA.out.lt)
        have HCH1 := Lib.hid (HCH.out.below hb1 HCH.out.lt)
        have HCN1 := Lib.hid (HCN.out.below hb1 HCN.out.lt)
        have HCK1 := Lib.hid (HCK.out.below hb1 HCK.out.lt)
        have HCO1 := Lib.hid (HCO.out.below hb1 HCO.out.lt)
        clear y0 yH yK yO c0 c1 c2 c3 c4 c5 c6 HCA HCH HCN HCK HCO
        have y0 := cel1 HCA1.out
        have yH := cel1 HCH1.out
        have yK := cel1 HCK1.out
        have yO := cel1 HCO1.out
        obtain ⟨c0, c1, c2, c3, c4, c5, c6⟩ := cel7N HCN1.out
        go_wp2_with fail
        refine (HFR.out _ HB1.out).mono ?_
        rintro e w2 ⟨rfl, hb2⟩
        have HB2 := Lib.hid (HB1.out.trans (hb2.mono HB1.out.size))
        have HCA2 := Lib.hid (HCA1.out.below hb2 HCA1.out.lt)
        have HCH2 := Lib.hid (HCH1.out.below hb2 HCH1.out.lt)
        have HCN2 := Lib.hid (HCN1.out.below hb2 HCN1.out.lt)
        have HCK2 := Lib.hid (HCK1.out.below hb2 HCK1.out.lt)
        have HCO2 := Lib.hid (HCO1.out.below hb2 HCO1.out.lt)
        clear y0 yH yK yO c0 c1 c2 c3 c4 c5 c6 HCA1 HCH1 HCN1 HCK1 HCO1
        have y0 := cel1 HCA2.out
        have yH := cel1 HCH2.out
        have yK := cel1 HCK2.out
        have yO := cel1 HCO2.out
        obtain ⟨c0, c1, c2, c3, c4, c5, c6⟩ := cel7N HCN2.out
        go_wp2_with fail
        refine (HPL.out _ HB2.out).mono ?_
        rintro e w3 ⟨rfl, hb3⟩
        have HB3 := Lib.hid (HB2.out.trans (hb3.mono HB2.out.size))
        have HCA3 := Lib.hid (HCA2.out.below hb3 HCA2.out.lt)
        have HCH3 := Lib.hid (HCH2.out.below hb3 HCH2.out.lt)
        have HCN3 := Lib.hid (HCN2.out.below hb3 HCN2.out.lt)
        have HCK3 := Lib.hid (HCK2.out.below hb3 HCK2.out.lt)
        have HCO3 := Lib.hid (HCO2.out.below hb3 HCO2.out.lt)
        clear y0 yH yK yO c0 c1 c2 c3 c4 c5 c6 HCA2 HCH2 HCN2 HCK2 HCO2
        have y0 := cel1 HCA3.out
        have yH := cel1 HCH3.out
        have yK := cel1 HCK3.out
        have yO := cel1 HCO3.out
        obtain ⟨c0, c1, c2, c3, c4, c5, c6⟩ := cel7N HCN3.out
        go_wp2
        go_ret
        exact ⟨ret_bool HT.out.symm, HB3.out⟩
      | true =>
        by_cases hq : a = own
        · have HT : Hid (m = true) := HM.out.trans (by rw [decide_eq_true hq]; rfl)
          have hqz : (a == own) = true := by simpa using hq
          clear HM hq
          go_enter Tryz.func45, Tryz.ntmps45
          go_upto_region 1 with fail
          rw [← hw0]
          clear hw0
          have y0 := cel1 HCA.out
          have yH := cel1 HCH.out
          have yK := cel1 HCK.out
          have yO := cel1 HCO.out
          obtain ⟨c0, c1, c2, c3, c4, c5, c6⟩ := cel7N HCN.out
          go_wp2_with fail
          refine HHZ.out.mono ?_
          rintro e w1 ⟨rfl, hb1⟩
          have HB1 := Lib.hid (HB0.out.trans (hb1.mono HB0.out.size))
          have HCA1 := Lib.hid (HCA.out.below hb1 HCA.out.lt)
          have HCH1 := Lib.hid (HCH.out.below hb1 HCH.out.lt)
          have HCN1 := Lib.hid (HCN.out.below hb1 HCN.out.lt)
          have HCK1 := Lib.hid (HCK.out.below hb1 HCK.out.lt)
          have HCO1 := Lib.hid (HCO.out.below hb1 HCO.out.lt)
          clear y0 yH yK yO c0 c1 c2 c3 c4 c5 c6 HCA HCH HCN HCK HCO
          have y0 := cel1 HCA1.out
          have yH := cel1 HCH1.out
          have yK := cel1 HCK1.out
          have yO := cel1 HCO1.out
          obtain ⟨c0, c1, c2, c3, c4, c5, c6⟩ := cel7N HCN1.out
          go_wp2_with fail
          refine (HFR.out _ HB1.out).mono ?_
          rintro e w2 ⟨rfl, hb2⟩
          have HB2 := Lib.hid (HB1.out.trans (hb2.mono HB1.out.size))
          have HCA2 := Lib.hid (HCA1.out.below hb2 HCA1.out.lt)
          have HCH2 := Lib.hid (HCH1.out.below hb2 HCH1.out.lt)
          have HCN2 := Lib.hid (HCN1.out.below hb2 HCN1.out.lt)
          have HCK2 := Lib.hid (HCK1.out.below hb2 HCK1.out.lt)
          have HCO2 := Lib.hid (HCO1.out.below hb2 HCO1.out.lt)
          clear y0 yH yK yO c0 c1 c2 c3 c4 c5 c6 HCA1 HCH1 HCN1 HCK1 HCO1
          have y0 := cel1 HCA2.out
          have yH := cel1 HCH2.out
          have yK := cel1 HCK2.out
          have yO := cel1 HCO2.out
          obtain ⟨c0, c1, c2, c3, c4, c5, c6⟩ := cel7N HCN2.out
          go_wp2
          go_ret
          exact ⟨ret_bool HT.out.symm, HB2.out⟩
        · have HT : Hid (m = b3) := HM.out.trans (by rw [decide_eq_false hq]; rfl)
          have hqz : (a == own) = false := by simpa using hq
          clear HM hq
          go_enter Tryz.func45, Tryz.ntmps45
          go_upto_region 1 with fail
          rw [← hw0]
          clear hw0
          have y0 := cel1 HCA.out
          have yH := cel1 HCH.out
          have yK := cel1 HCK.out
          have yO := cel1 HCO.out
          obtain ⟨c0, c1, c2, c3, c4, c5, c6⟩ := cel7N HCN.out
          go_wp2_with fail
          refine HHZ.out.mono ?_
          rintro e w1 ⟨rfl, hb1⟩
          have HB1 := Lib.hid (HB0.out.trans (hb1.mono HB0.out.size))
          have HCA1 := Lib.hid (HCA.out.below hb1 HCA.out.lt)
          have HCH1 := Lib.hid (HCH.out.below hb1 HCH.out.lt)
          have HCN1 := Lib.hid (HCN.out.below hb1 HCN.out.lt)
          have HCK1 := Lib.hid (HCK.out.below hb1 HCK.out.lt)
          have HCO1 := Lib.hid (HCO.out.below hb1 HCO.out.lt)
          clear y0 yH yK yO c0 c1 c2 c3 c4 c5 c6 HCA HCH HCN HCK HCO
          have y0 := cel1 HCA1.out
          have yH := cel1 HCH1.out
          have yK := cel1 HCK1.out
          have yO := cel1 HCO1.out
          obtain ⟨c0, c1, c2, c3, c4, c5, c6⟩ := cel7N HCN1.out
          go_wp2_with fail
          refine (HFR.out _ HB1.out).mono ?_
          rintro e w2 ⟨rfl, hb2⟩
          have HB2 := Lib.hid (HB1.out.trans (hb2.mono HB1.out.size))
          have HCA2 := Lib.hid (HCA1.out.below hb2 HCA1.out.lt)
          have HCH2 := Lib.hid (HCH1.out.below hb2 HCH1.out.lt)
          have HCN2 := Lib.hid (HCN1.out.below hb2 HCN1.out.lt)
          have HCK2 := Lib.hid (HCK1.out.below hb2 HCK1.out.lt)
          have HCO2 := Lib.hid (HCO1.out.below hb2 HCO1.out.lt)
          clear y0 yH yK yO c0 c1 c2 c3 c4 c5 c6 HCA1 HCH1 HCN1 HCK1 HCO1
          have y0 := cel1 HCA2.out
          have yH := cel1 HCH2.out
          have yK := cel1 HCK2.out
          have yO := cel1 HCO2.out
          obtain ⟨c0, c1, c2, c3, c4, c5, c6⟩ := cel7N HCN2.out
          go_wp2_with fail
          refine (HPL.out _ HB2.out).mono ?_
          rintro e w3 ⟨rfl, hb3⟩
          have HB3 := Lib.hid (HB2.out.trans (hb3.mono HB2.out.size))
          have HCA3 := Lib.hid (HCA2.out.below hb3 HCA2.out.lt)
          have HCH3 := Lib.hid (HCH2.out.below hb3 HCH2.out.lt)
          have HCN3 := Lib.hid (HCN2.out.below hb3 HCN2.out.lt)
          have HCK3 := Lib.hid (HCK2.out.below hb3 HCK2.out.lt)
          have HCO3 := Lib.hid (HCO2.out.below hb3 HCO2.out.lt)
          clear y0 yH yK yO c0 c1 c2 c3 c4 c5 c6 HCA2 HCH2 HCN2 HCK2 HCO2
          have y0 := cel1 HCA3.out
          have yH := cel1 HCH3.out
          have yK := cel1 HCK3.out
          have yO := cel1 HCO3.out
          obtain ⟨c0, c1, c2, c3, c4, c5, c6⟩ := cel7N HCN3.out
          go_wp2
          go_ret
          exact ⟨ret_bool HT.out.symm, HB3.out⟩
/-- What permission answers: a function over four blocks. -/
def PmR (d : Nd) (hA : Option Addr) (hn hc : Nat) (own : Int) (kept : Bool) (w : World) (e : Ending) (w' : World) : Prop := ∃ gH gN gK gO, e = .returned (.func (.func 45) #[] #[.pointer (some ⟨gH, 0, none⟩), .pointer (some ⟨gN, 0, none⟩), .pointer (some ⟨gK, 0, none⟩), .pointer (some ⟨gO, 0, none⟩)]) ∧
  Cel w' gH 45 #[.slice hA hn hc] ∧ Cel w' gN 44 d.cs ∧ Cel w' gK 4 #[.bool kept] ∧ Cel w' gO 3 #[.int .i64 own] ∧ Below w.heap.size w w'
set_option maxHeartbeats 4000000 in
theorem permission_any (d : Nd) (U : Nat) (hA : Option Addr) (hn hc : Nat) (w : World) (h : d.ok U w) (hU : U ≤ w.heap.size) :
    Calls Tryz.prog 24 #[d.v, .slice hA hn hc] w (PmR d hA hn hc (keptC d.x.cf d.net d.k).1 (keptC d.x.cf d.net d.k).2 w) := by
  obtain ⟨w0, hw0⟩ : ∃ w0, w0 = (w.alloc (.cells d.cs 44)).alloc (.cells #[.slice hA hn hc] 45) := ⟨_, rfl⟩
  have hs : (w.alloc (.cells d.cs 44)).heap.size = w.heap.size + 1 := by simp
  have hcn : Cel w0 w.heap.size 44 d.cs := by rw [hw0]; exact (Cel.born w 44 d.cs).below (alloc_more _ _) (by rw [hs]; omega)
  have hch : Cel w0 (w.heap.size + 1) 45 #[.slice hA hn hc] := by
    have := Cel.born (w.alloc (.cells d.cs 44)) 45 #[.slice hA hn hc]
    rw [hs] at this
    rw [hw0]
    exact this
  have hb0 : Below w.heap.size w w0 := by rw [hw0]; exact (alloc_more _ _).trans ((alloc_more _ _).mono (by rw [hs]; omega))
  have HK := Lib.hid (fun W (hW : Below w.heap.size w W) => kept_any d.x d.net d.k U W (h.x.below (hW.mono hU)) (Nat.le_trans hU hW.size) h.s)
  have HB0 := Lib.hid hb0
  have HCN := Lib.hid hcn
  have HCH := Lib.hid hch
  generalize keptC d.x.cf d.net d.k = u at HK ⊢
  obtain ⟨own, kept⟩ := u
  clear h hU hb0 hcn hch hs
  go_enter Tryz.func24, Tryz.ntmps24
  go_upto_region 1 with fail
  rw [← hw0]
  clear hw0
  obtain ⟨c0, c1, c2, c3, c4, c5, c6⟩ := cel7N HCN.out
  go_wp2_with fail
  refine (HK.out _ HB0.out).mono ?_
  rintro e w1 ⟨rfl, hb1⟩
  have HB1 := Lib.hid (HB0.out.trans (hb1.mono HB0.out.size))
  have HCN1 := Lib.hid (HCN.out.below hb1 HCN.out.lt)
  have HCH1 := Lib.hid (HCH.out.below hb1 HCH.out.lt)
  obtain ⟨w2, hw2⟩ : ∃ w2, w2 = (w1.alloc (.cells #[.int .i64 own] 3)).alloc (.cells #[.bool kept] 4) := ⟨_, rfl⟩
  have hs1 : (w1.alloc (.cells #[.int .i64 own] 3)).heap.size = w1.heap.size + 1 := by simp
  have hb2 : Below w1.heap.size w1 w2 := by rw [hw2]; exact (alloc_more _ _).trans ((alloc_more _ _).mono (by rw [hs1]; omega))
  have HCO := Lib.hid (show Cel w2 w1.heap.size 3 #[.int .i64 own] by rw [hw2]; exact (Cel.born w1 3 #[.int .i64 own]).below (alloc_more _ _) (by rw [hs1]; omega))
  have HCK := Lib.hid (show Cel w2 (w1.heap.size + 1) 4 #[.bool kept] by
    have := Cel.born (w1.alloc (.cells #[.int .i64 own] 3)) 4 #[.bool kept]
    rw [hs1] at this
    rw [hw2]
    exact this)
  have HB2 := Lib.hid (HB1.out.trans (hb2.mono HB1.out.size))
  have HCN2 := Lib.hid (HCN1.out.below hb2 HCN1.out.lt)
  have HCH2 := Lib.hid (HCH1.out.below hb2 HCH1.out.lt)
  clear HCN HCH HCN1 HCH1 hb1 hb2 hs1 HK c0 c1 c2 c3 c4 c5 c6
  go_wp2
  rw [← hw2]
  clear hw2
  go_ret
  exact ⟨w.heap.size + 1, w.heap.size, w1.heap.size + 1, w1.heap.size, rfl, HCH2.out, HCN2.out, HCK.out, HCO.out, HB2.out⟩
end Go.Proofs.YtpdjdaoclpeffaaGreat.Xw
