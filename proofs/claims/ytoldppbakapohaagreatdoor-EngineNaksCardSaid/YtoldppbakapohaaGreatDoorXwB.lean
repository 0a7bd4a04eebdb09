/- What alloc's permission comes to: a function that says whether the client may get an address. Conditions: the configuration is small and the keys fit (Nd.ok). -/
import Derived.Test.YtoldppbakapohaaGreatDoorXwA
import Derived.Deep.QuietTactic
import Derived.BigQuiet
section
set_option maxRecDepth 8000
namespace Go.Proofs.YtoldppbakapohaaGreatDoor.Xw
open Go.RowKit Co By Ky Rc Ew Jw La Tb Lw Cf Al Bw
open Vw (Cx RdPl layP atP FiR AdR KeR isI app1)
open Dw (ba ba_size ba_data ba_list alloc_more)

/-- What the function says: none of those that are held is another one, it is free, and it is kept for the client or in a pool. -/
def mayB (d : Nd) (hl : List Int) (own : Int) (kept : Bool) (a : Int) : Bool := !(hl.any fun h => decide (h ≠ a)) && (freeT d.l a d.k d.now && ((kept && decide (a = own)) || poolB d.x.cf d.net d.k a))
theorem app4 (x y z u v : Value) : #[x] ++ #[y, z, u, v] = #[x, y, z, u, v] := rfl
theorem cel1 {w : World} {g : Nat} {t : TypeId} {a : Value} (h : Cel w g t #[a]) : w.cell? ⟨g, 0, none⟩ = some a := by rw [h.cell]; rfl
set_option maxHeartbeats 4000000 in
theorem may_any (d : Nd) (U : Nat) (hA : Option Addr) (hn hc : Nat) (hl : List Int) (own : Int) (kept : Bool) (gH gN gK gO : Nat) (a : Int) (w : World) (h : d.ok U w) (hU : U ≤ w.heap.size) (hr : RdZ w.heap.size w hA hn hc hl)
    (cH : Cel w gH 118 #[.slice hA hn hc]) (cN : Cel w gN 117 d.cs) (cK : Cel w gK 4 #[.bool kept]) (cO : Cel w gO 3 #[.int .i64 own]) :
    Calls Tryz.prog 118 (#[.int .i64 a] ++ #[.pointer (some ⟨gH, 0, none⟩), .pointer (some ⟨gN, 0, none⟩), .pointer (some ⟨gK, 0, none⟩), .pointer (some ⟨gO, 0, none⟩)]) w (isB (mayB d hl own kept a) w) := by
  rw [app4]
  obtain ⟨w0, hw0⟩ : ∃ w0, w0 = w.alloc (.cells #[.int .i64 a] 3) := ⟨_, rfl⟩
  have hca : Cel w0 w.heap.size 3 #[.int .i64 a] := by rw [hw0]; exact Cel.born _ _ _
  have hb0 : Below w.heap.size w w0 := by rw [hw0]; exact alloc_more _ _
  have HHZ := Lib.hid (hasZ 120 (fun args W => by rfl) #[.pointer (some ⟨w.heap.size, 0, none⟩)] (fun h => decide (h ≠ a)) hA hn hc w.heap.size hl w0 (hr.below hb0) hb0.size
    (fun x _ W hW => by rw [app1]; exact another_any x a w.heap.size W (cel1 (hca.below hW hca.lt))))
  have HFR := Lib.hid (fun W (hW : Below w.heap.size w W) => Bw.free_any d.A d.n d.c U d.l a d.k d.now W (h.t.below (hW.mono hU)) (Nat.le_trans hU hW.size) h.f)
  have HPL := Lib.hid (fun W (hW : Below w.heap.size w W) => pooled_any d a U W (h.below (hW.mono hU)) (Nat.le_trans hU hW.size))
  have HB0 := Lib.hid hb0
  have HCA := Lib.hid hca
  have HCH := Lib.hid (cH.below hb0 cH.lt)
  have HCN := Lib.hid (cN.below hb0 cN.lt)
  have HCK := Lib.hid (cK.below hb0 cK.lt)
  have HCO := Lib.hid (cO.below hb0 cO.lt)
  have HM : Hid (mayB d hl own kept a = (!(hl.any fun h => decide (h ≠ a)) && (freeT d.l a d.k d.now && ((kept && decide (a = own)) || poolB d.x.cf d.net d.k a)))) := rfl
  generalize mayB d hl own kept a = m at HM ⊢
  generalize (hl.any fun h => decide (h ≠ a)) = b1 at HM HHZ
  generalize freeT d.l a d.k d.now = b2 at HM HFR
  generalize poolB d.x.cf d.net d.k a = b3 at HM HPL
  clear h hU hr cH cN cK cO hca hb0
  cases b1 with
  | true =>
    have HT : Hid (m = false) := HM.out
    clear HM
    go_enter Tryz.func118, Tryz.ntmps118
    go_upto_region 1 with fail
    rw [← hw0]
    clear hw0
    have y0 := cel1 HCA.out
    have yH := cel1 HCH.out
    have yK := cel1 HCK.out
    have yO := cel1 HCO.out
    obtain ⟨c0, c1, c2, c3, c4, c5, c6⟩ := cel7N HCN.out
    go_wp2_with fail
    refine HHZ.out.mono ?_
    rintro e w1 ⟨rfl, hb1⟩
    have HB1 := Lib.hid (HB0.out.trans (hb1.mono HB0.out.size))
    have HCA1 := Lib.hid (HCA.out.below hb1 HCA.out.lt)
    have HCH1 := Lib.hid (HCH.out.below hb1 HCH.out.lt)
    have HCN1 := Lib.hid (HCN.out.below hb1 HCN.out.lt)
    have HCK1 := Lib.hid (HCK.out.below hb1 HCK.out.lt)
    have HCO1 := Lib.hid (HCO.out.below hb1 HCO.out.lt)
    clear y0 yH yK yO c0 c1 c2 c3 c4 c5 c6 HCA HCH HCN HCK HCO
    have y0 := cel1 HCA1.out
    have yH := cel1 HCH1.out
    have yK := cel1 HCK1.out
    have yO := cel1 HCO1.out
    obtain ⟨c0, c1, c2, c3, c4, c5, c6⟩ := cel7N HCN1.out
    go_wp2
    go_ret
    exact ⟨ret_bool HT.out.symm, HB1.out⟩
  | false =>
    cases b2 with
    | false =>
      have HT : Hid (m = false) := HM.out
      clear HM
      go_enter Tryz.func118, Tryz.ntmps118
      go_upto_region 1 with fail
      rw [← hw0]
      clear hw0
      have y0 := cel1 HCA.out
      have yH := cel1 HCH.out
      have yK := cel1 HCK.out
      have yO := cel1 HCO.out
      obtain ⟨c0, c1, c2, c3, c4, c5, c6⟩ := cel7N HCN.out
      go_wp2_with fail
      refine HHZ.out.mono ?_
      rintro e w1 ⟨rfl, hb1⟩
      have HB1 := Lib.hid (HB0.out.trans (hb1.mono HB0.out.size))
      have HCA1 := Lib.hid (HCA.out.below hb1 HCA.out.lt)
      have HCH1 := Lib.hid (HCH.out.below hb1 HCH.out.lt)
      have HCN1 := Lib.hid (HCN.out.below hb1 HCN.out.lt)
      have HCK1 := Lib.hid (HCK.out.below hb1 HCK.out.lt)
      have HCO1 := Lib.hid (HCO.out.below hb1 HCO.out.lt)
      clear y0 yH yK yO c0 c1 c2 c3 c4 c5 c6 HCA HCH HCN HCK HCO
      have y0 := cel1 HCA1.out
      have yH := cel1 HCH1.out
      have yK := cel1 HCK1.out
      have yO := cel1 HCO1.out
      obtain ⟨c0, c1, c2, c3, c4, c5, c6⟩ := cel7N HCN1.out
      go_wp2_with fail
      refine (HFR.out _ HB1.out).mono ?_
      rintro e w2 ⟨rfl, hb2⟩
      have HB2 := Lib.hid (HB1.out.trans (hb2.mono HB1.out.size))
      have HCA2 := Lib.hid (HCA1.out.below hb2 HCA1.out.lt)
      have HCH2 := Lib.hid (HCH1.out.below hb2 HCH1.out.lt)
      have HCN2 := Lib.hid (HCN1.out.below hb2 HCN1.out.lt)
      have HCK2 := Lib.hid (HCK1.out.below hb2 HCK1.out.lt)
      have HCO2 := Lib.hid (HCO1.out.below hb2 HCO1.out.lt)
      clear y0 yH yK yO c0 c1 c2 c3 c4 c5 c6 HCA1 HCH1 HCN1 HCK1 HCO1
      have y0 := cel1 HCA2.out
      have yH := cel1 HCH2.out
      have yK := cel1 HCK2.out
      have yO := cel1 HCO2.out
      obtain ⟨c0, c1, c2, c3, c4, c5, c6⟩ := cel7N HCN2.out
      go_wp2
      go_ret
      exact ⟨ret_bool HT.out.symm, HB2.out⟩
    | true =>
      cases kept with
      | false =>
        have HT : Hid (m = b3) := HM.out
        clear HM
        go_enter Tryz.func118, Tryz.ntmps118
        go_upto_region 1 with fail
        rw [← hw0]
        clear hw0
        have y0 := cel1 HCA.out
        have yH := cel1 HCH.out
        have yK := cel1 HCK.out
        have yO := cel1 HCO.out
        obtain ⟨c0, c1, c2, c3, c4, c5, c6⟩ := cel7N HCN.out
        go_wp2_with fail
        refine HHZ.out.mono ?_
        rintro e w1 ⟨rfl, hb1⟩
        have HB1 := Lib.hid (HB0.out.trans (hb1.mono HB0.out.size))
        have HCA1 := Lib.hid (HCA.out.below hb1 HCA.out.lt)
        have HCH1 := Lib.hid (HCH.out.below hb1 HCH.out.lt)
        have HCN1 := Lib.hid (HCN.out.below hb1 HCN.out.lt)
        have HCK1 := Lib.hid (HCK.out.below hb1 HCK.out.lt)
        have HCO1 := Lib.hid (HCO.out.below hb1 HCO.out.lt)
        clear y0 yH yK yO c0 c1 c2 c3 c4 c5 c6 HCA HCH HCN HCK HCO
        have y0 := cel1 HCA1.out
        have yH := cel1 HCH1.out
        have yK := cel1 HCK1.out
        have yO := cel1 HCO1.out
        obtain ⟨c0, c1, c2, c3, c4, c5, c6⟩ := cel7N HCN1.out
        go_wp2_with fail
        refine (HFR.out _ HB1.out).mono ?_
        rintro e w2 ⟨rfl, hb2⟩
        have HB2 := Lib.hid (HB1.out.trans (hb2.mono HB1.out.size))
        have HCA2 := Lib.hid (HCA1.out.below hb2 HCA1.out.lt)
        have HCH2 := Lib.hid (HCH1.out.below hb2 HCH1.out.lt)
        have HCN2 := Lib.hid (HCN1.out.below hb2 HCN1.out.lt)
        have HCK2 := Lib.hid (HCK1.out.below hb2 HCK1.out.lt)
        have HCO2 := Lib.hid (HCO1.out.below hb2 HCO1.out.lt)
        clear y0 yH yK yO c0 c1 c2 c3 c4 c5 c6 HCA1 HCH1 HCN1 HCK1 HCO1
        have y0 := cel1 HCA2.out
        have yH := cel1 HCH2.out
        have yK := cel1 HCK2.out
        have yO := cel1 HCO2.out
        obtain ⟨c0, c1, c2, c3, c4, c5, c6⟩ := cel7N HCN2.out
        go_wp2_with fail
        refine (HPL.out _ HB2.out).mono ?_
        rintro e w3 ⟨rfl, hb3⟩
        have HB3 := Lib.hid (HB2.out.trans (hb3.mono HB2.out.size))
        have HCA3 := Lib.hid (HCA2.out.below hb3 HCA2.out.lt)
        have HCH3 := Lib.hid (HCH2.out.below hb3 HCH2.out.lt)
        have HCN3 := Lib.hid (HCN2.out.below hb3 HCN2.out.lt)
        have HCK3 := Lib.hid (HCK2.out.below hb3 HCK2.out.lt)
        have HCO3 := Lib.hid (HCO2.out.below hb3 HCO2.out.lt)
        clear y0 yH yK yO c0 c1 c2 c3 c4 c5 c6 HCA2 HCH2 HCN2 HCK2 HCO2
        have y0 := cel1 HCA3.out
        have yH := cel1 HCH3.out
        have yK := cel1 HCK3.out
        have yO := cel1 HCO3.out
        obtain ⟨c0, c1, c2, c3, c4, c5, c6⟩ := cel7N HCN3.out
        go_wp2
        go_ret
        exact ⟨ret_bool HT.out.symm, HB3.out⟩
      | true =>
        by_cases hq : a = own
        · have HT : Hid (m = true) := HM.out.trans (by rw [decide_eq_true hq]; rfl)
          have hqz : (a == own) = true := by simpa using hq
          clear HM hq
          go_enter Tryz.func118, Tryz.ntmps118
          go_upto_region 1 with fail
          rw [← hw0]
          clear hw0
          have y0 := cel1 HCA.out
          have yH := cel1 HCH.out
          have yK := cel1 HCK.out
          have yO := cel1 HCO.out
          obtain ⟨c0, c1, c2, c3, c4, c5, c6⟩ := cel7N HCN.out
          go_wp2_with fail
          refine HHZ.out.mono ?_
          rintro e w1 ⟨rfl, hb1⟩
          have HB1 := Lib.hid (HB0.out.trans (hb1.mono HB0.out.size))
          have HCA1 := Lib.hid (HCA.out.below hb1 HCA.out.lt)
          have HCH1 := Lib.hid (HCH.out.below hb1 HCH.out.lt)
          have HCN1 := Lib.hid (HCN.out.below hb1 HCN.out.lt)
          have HCK1 := Lib.hid (HCK.out.below hb1 HCK.out.lt)
          have HCO1 := Lib.hid (HCO.out.below hb1 HCO.out.lt)
          clear y0 yH yK yO c0 c1 c2 c3 c4 c5 c6 HCA HCH HCN HCK HCO
          have y0 := cel1 HCA1.out
          have yH := cel1 HCH1.out
          have yK := cel1 HCK1.out
          have yO := cel1 HCO1.out
          obtain ⟨c0, c1, c2, c3, c4, c5, c6⟩ := cel7N HCN1.out
          go_wp2_with fail
          refine (HFR.out _ HB1.out).mono ?_
          rintro e w2 ⟨rfl, hb2⟩
          have HB2 := Lib.hid (HB1.out.trans (hb2.mono HB1.out.size))
          have HCA2 := Lib.hid (HCA1.out.below hb2 HCA1.out.lt)
          have HCH2 := Lib.hid (HCH1.out.below hb2 HCH1.out.lt)
          have HCN2 := Lib.hid (HCN1.out.below hb2 HCN1.out.lt)
          have HCK2 := Lib.hid (HCK1.out.below hb2 HCK1.out.lt)
          have HCO2 := Lib.hid (HCO1.out.below hb2 HCO1.out.lt)
          clear y0 yH yK yO c0 c1 c2 c3 c4 c5 c6 HCA1 HCH1 HCN1 HCK1 HCO1
          have y0 := cel1 HCA2.out
          have yH := cel1 HCH2.out
          have yK := cel1 HCK2.out
          have yO := cel1 HCO2.out
          obtain ⟨c0, c1, c2, c3, c4, c5, c6⟩ := cel7N HCN2.out
          go_wp2
          go_ret
          exact ⟨ret_bool HT.out.symm, HB2.out⟩
        · have HT : Hid (m = b3) := HM.out.trans (by rw [decide_eq_false hq]; rfl)
          have hqz : (a == own) = false := by simpa using hq
          clear HM hq
          go_enter Tryz.func118, Tryz.ntmps118
          go_upto_region 1 with fail
          rw [← hw0]
          clear hw0
          have y0 := cel1 HCA.out
          have yH := cel1 HCH.out
          have yK := cel1 HCK.out
          have yO := cel1 HCO.out
          obtain ⟨c0, c1, c2, c3, c4, c5, c6⟩ := cel7N HCN.out
          go_wp2_with fail
          refine HHZ.out.mono ?_
          rintro e w1 ⟨rfl, hb1⟩
          have HB1 := Lib.hid (HB0.out.trans (hb1.mono HB0.out.size))
          have HCA1 := Lib.hid (HCA.out.below hb1 HCA.out.lt)
          have HCH1 := Lib.hid (HCH.out.below hb1 HCH.out.lt)
          have HCN1 := Lib.hid (HCN.out.below hb1 HCN.out.lt)
          have HCK1 := Lib.hid (HCK.out.below hb1 HCK.out.lt)
          have HCO1 := Lib.hid (HCO.out.below hb1 HCO.out.lt)
          clear y0 yH yK yO c0 c1 c2 c3 c4 c5 c6 HCA HCH HCN HCK HCO
          have y0 := cel1 HCA1.out
          have yH := cel1 HCH1.out
          have yK := cel1 HCK1.out
          have yO := cel1 HCO1.out
          obtain ⟨c0, c1, c2, c3, c4, c5, c6⟩ := cel7N HCN1.out
          go_wp2_with fail
          refine (HFR.out _ HB1.out).mono ?_
          rintro e w2 ⟨rfl, hb2⟩
          have HB2 := Lib.hid (HB1.out.trans (hb2.mono HB1.out.size))
          have HCA2 := Lib.hid (HCA1.out.below hb2 HCA1.out.lt)
          have HCH2 := Lib.hid (HCH1.out.below hb2 HCH1.out.lt)
          have HCN2 := Lib.hid (HCN1.out.below hb2 HCN1.out.lt)
          have HCK2 := Lib.hid (HCK1.out.below hb2 HCK1.out.lt)
          have HCO2 := Lib.hid (HCO1.out.below hb2 HCO1.out.lt)
          clear y0 yH yK yO c0 c1 c2 c3 c4 c5 c6 HCA1 HCH1 HCN1 HCK1 HCO1
          have y0 := cel1 HCA2.out
          have yH := cel1 HCH2.out
          have yK := cel1 HCK2.out
          have yO := cel1 HCO2.out
          obtain ⟨c0, c1, c2, c3, c4, c5, c6⟩ := cel7N HCN2.out
          go_wp2_with fail
          refine (HPL.out _ HB2.out).mono ?_
          rintro e w3 ⟨rfl, hb3⟩
          have HB3 := Lib.hid (HB2.out.trans (hb3.mono HB2.out.size))
          have HCA3 := Lib.hid (HCA2.out.below hb3 HCA2.out.lt)
          have HCH3 := Lib.hid (HCH2.out.below hb3 HCH2.out.lt)
          have HCN3 := Lib.hid (HCN2.out.below hb3 HCN2.out.lt)
          have HCK3 := Lib.hid (HCK2.out.below hb3 HCK2.out.lt)
          have HCO3 := Lib.hid (HCO2.out.below hb3 HCO2.out.lt)
          clear y0 yH yK yO c0 c1 c2 c3 c4 c5 c6 HCA2 HCH2 HCN2 HCK2 HCO2
          have y0 := cel1 HCA3.out
          have yH := cel1 HCH3.out
          have yK := cel1 HCK3.out
          have yO := cel1 HCO3.out
          obtain ⟨c0, c1, c2, c3, c4, c5, c6⟩ := cel7N HCN3.out
          go_wp2
          go_ret
          exact ⟨ret_bool HT.out.symm, HB3.out⟩
/-- What permission answers: a function over four blocks. -/
def PmR (d : Nd) (hA : Option Addr) (hn hc : Nat) (own : Int) (kept : Bool) (w : World) (e : Ending) (w' : World) : Prop := ∃ gH gN gK gO, e = .returned (.func (.func 118) #[] #[.pointer (some ⟨gH, 0, none⟩), .pointer (some ⟨gN, 0, none⟩), .pointer (some ⟨gK, 0, none⟩), .pointer (some ⟨gO, 0, none⟩)]) ∧
  Cel w' gH 118 #[.slice hA hn hc] ∧ Cel w' gN 117 d.cs ∧ Cel w' gK 4 #[.bool kept] ∧ Cel w' gO 3 #[.int .i64 own] ∧ Below w.heap.size w w'
set_option maxHeartbeats 4000000 in
theorem permission_any (d : Nd) (U : Nat) (hA : Option Addr) (hn hc : Nat) (w : World) (h : d.ok U w) (hU : U ≤ w.heap.size) :
    Calls Tryz.prog 71 #[d.v, .slice hA hn hc] w (PmR d hA hn hc (keptC d.x.cf d.net d.k).1 (keptC d.x.cf d.net d.k).2 w) := by
  obtain ⟨w0, hw0⟩ : ∃ w0, w0 = (w.alloc (.cells d.cs 117)).alloc (.cells #[.slice hA hn hc] 118) := ⟨_, rfl⟩
  have hs : (w.alloc (.cells d.cs 117)).heap.size = w.heap.size + 1 := by simp
  have hcn : Cel w0 w.heap.size 117 d.cs := by rw [hw0]; exact (Cel.born w 117 d.cs).below (alloc_more _ _) (by rw [hs]; omega)
  have hch : Cel w0 (w.heap.size + 1) 118 #[.slice hA hn hc] := by
    have := Cel.born (w.alloc (.cells d.cs 117)) 118 #[.slice hA hn hc]
    rw [hs] at this
    rw [hw0]
    exact this
  have hb0 : Below w.heap.size w w0 := by rw [hw0]; exact (alloc_more _ _).trans ((alloc_more _ _).mono (by rw [hs]; omega))
  have HK := Lib.hid (fun W (hW : Below w.heap.size w W) => kept_any d.x d.net d.k U W (h.x.below (hW.mono hU)) (Nat.le_trans hU hW.size) h.s)
  have HB0 := Lib.hid hb0
  have HCN := Lib.hid hcn
  have HCH := Lib.hid hch
  generalize keptC d.x.cf d.net d.k = u at HK ⊢
  obtain ⟨own, kept⟩ := u
  clear h hU hb0 hcn hch hs
  go_enter Tryz.func71, Tryz.ntmps71
  go_upto_region 1 with fail
  rw [← hw0]
  clear hw0
  obtain ⟨c0, c1, c2, c3, c4, c5, c6⟩ := cel7N HCN.out
  go_wp2_with fail
  refine (HK.out _ HB0.out).mono ?_
  rintro e w1 ⟨rfl, hb1⟩
  have HB1 := Lib.hid (HB0.out.trans (hb1.mono HB0.out.size))
  have HCN1 := Lib.hid (HCN.out.below hb1 HCN.out.lt)
  have HCH1 := Lib.hid (HCH.out.below hb1 HCH.out.lt)
  obtain ⟨w2, hw2⟩ : ∃ w2, w2 = (w1.alloc (.cells #[.int .i64 own] 3)).alloc (.cells #[.bool kept] 4) := ⟨_, rfl⟩
  have hs1 : (w1.alloc (.cells #[.int .i64 own] 3)).heap.size = w1.heap.size + 1 := by simp
  have hb2 : Below w1.heap.size w1 w2 := by rw [hw2]; exact (alloc_more _ _).trans ((alloc_more _ _).mono (by rw [hs1]; omega))
  have HCO := Lib.hid (show Cel w2 w1.heap.size 3 #[.int .i64 own] by rw [hw2]; exact (Cel.born w1 3 #[.int .i64 own]).below (alloc_more _ _) (by rw [hs1]; omega))
  have HCK := Lib.hid (show Cel w2 (w1.heap.size + 1) 4 #[.bool kept] by
    have := Cel.born (w1.alloc (.cells #[.int .i64 own] 3)) 4 #[.bool kept]
    rw [hs1] at this
    rw [hw2]
    exact this)
  have HB2 := Lib.hid (HB1.out.trans (hb2.mono HB1.out.size))
  have HCN2 := Lib.hid (HCN1.out.below hb2 HCN1.out.lt)
  have HCH2 := Lib.hid (HCH1.out.below hb2 HCH1.out.lt)
  clear HCN HCH HCN1 HCH1 hb1 hb2 hs1 HK c0 c1 c2 c3 c4 c5 c6
  go_wp2
  rw [← hw2]
  clear hw2
  go_ret
  exact ⟨w.heap.size + 1, w.heap.size, w1.heap.size + 1, w1.heap.size, rfl, HCH2.out, HCN2.out, HCK.out, HCO.out, HB2.out⟩
end Go.Proofs.YtoldppbakapohaaGreatDoor.Xw
end
/- What alloc.sources comes to: the ranges that are tried, in their order. Conditions: the configuration is small, valid and has the network; the keys fit; at most 64 addresses are handed in. -/
section
set_option maxRecDepth 8000
namespace Go.Proofs.YtoldppbakapohaaGreatDoor.Xw
open Go.RowKit Co By Ky Rc Ew Jw La Tb Lw Cf Al Bw
open Vw (Cx Nx Sx RdPl RdSx RdNx layP atP atN atS cel7 AdR snsOf netsOf nets_get small_sns)
open Dw (ba ba_size ba_data ba_list alloc_more)

theorem parts3 {w : World} {b n1 c1 n2 c2 n3 c3 : Nat} {t : TypeId} {A1 A2 A3 : Option Addr} {l1 l2 l3 : List Pl} (hc : Cel w b t #[.slice A1 n1 c1, .slice A2 n2 c2, .slice A3 n3 c3]) (h1 : RdPl w.heap.size w A1 n1 c1 l1) (h2 : RdPl w.heap.size w A2 n2 c2 l2) (h3 : RdPl w.heap.size w A3 n3 c3 l3) : PartsQ w b 0 [⟨A1, c1, l1⟩, ⟨A2, c2, l2⟩, ⟨A3, c3, l3⟩] := by
  obtain rfl := h1.len
  obtain rfl := h2.len
  obtain rfl := h3.len
  intro i hi
  rw [Nat.zero_add, hc.cell]
  match i, hi with
  | 0, _ => exact ⟨rfl, h1⟩
  | 1, _ => exact ⟨rfl, h2⟩
  | 2, _ => exact ⟨rfl, h3⟩
theorem cat3 {A1 A2 A3 : Option Addr} {c1 c2 c3 : Nat} {l1 l2 l3 : List Pl} : catQ [⟨A1, c1, l1⟩, ⟨A2, c2, l2⟩, ⟨A3, c3, l3⟩] = l1 ++ (l2 ++ l3) := by simp [catQ]
theorem tot3 {A1 A2 A3 : Option Addr} {c1 c2 c3 : Nat} {l1 l2 l3 : List Pl} : totQ [⟨A1, c1, l1⟩, ⟨A2, c2, l2⟩, ⟨A3, c3, l3⟩] = l1.length + (l2.length + l3.length) := by simp [totQ]
/-- What is tried by a client that holds none. -/
def srcL (c : Cf) (net : Int) (k : List UInt8) (ol : List Int) (want : Int) : List Pl := (keptL c net k).map sgl ++ (ol.map sgl ++ (sgl want :: (netC c net).flatMap fun s => s.pools))
theorem net_at {x : Cx} {y : Nx} {k : Nat} (h0 : checkC x.cf = 0) (hk : x.ns[k]? = some y) : netC x.cf (k : Int) = snsOf y.xs := by
  obtain ⟨hlt, _⟩ := List.getElem?_eq_some_iff.1 (nets_get hk)
  unfold netC
  rw [if_pos ⟨h0, by omega, by show (k : Int) < ((netsOf x.ns).length : Int); omega⟩, List.getD_eq_getElem?_getD, Int.toNat_natCast, show x.cf.nets = netsOf x.ns from rfl, nets_get hk]
  rfl
theorem src_at {x : Cx} {y : Nx} {k : Nat} {key : List UInt8} {ol : List Int} {want : Int} (h0 : checkC x.cf = 0) (hk : x.ns[k]? = some y) (hl : List Pl) (h1 : hl = (keptL x.cf (k : Int) key).map sgl) : (hl ++ (ol.map sgl ++ [sgl want])) ++ y.xs.flatMap (fun s => s.pools) = srcL x.cf (k : Int) key ol want := by
  unfold srcL
  rw [net_at h0 hk, h1]
  have : (snsOf y.xs).flatMap (fun s => s.pools) = y.xs.flatMap fun s => s.pools := by
    unfold snsOf
    rw [List.flatMap_map]
    rfl
  rw [this]
  simp
theorem take_pools {xs : List Sx} {j : Nat} {x : Sx} (h : xs[j]? = some x) (l : List Pl) : l ++ (xs.take (j + 1)).flatMap (fun s => s.pools) = (l ++ (xs.take j).flatMap fun s => s.pools) ++ x.pools := by
  rw [take_nextL h, List.flatMap_append]
  simp
/-- A slice of ranges of the call's own. -/
def SrR (w : World) (l : List Pl) (e : Ending) (w' : World) : Prop := ∃ A n c, e = .returned (.slice A n c) ∧ OwnPl w.heap.size w' A n c l ∧ Below w.heap.size w w'
set_option maxHeartbeats 8000000 in
theorem sources_any (d : Nd) (k : Nat) (U : Nat) (oA : Option Addr) (on oc : Nat) (ol : List Int) (want : Int) (w : World) (h : d.ok U w) (hU : U ≤ w.heap.size) (h0 : checkC d.x.cf = 0) (hk : d.net = (k : Int)) (hkn : k < d.x.n) (ho : RdZ w.heap.size w oA on oc ol) (hon : on ≤ 64) :
    Calls Tryz.prog 201 #[d.v, .slice oA on oc, .int .i64 want] w (SrR w (srcL d.x.cf d.net d.k ol want)) := by
  obtain ⟨w0, hw0, hc0, hb0, hz⟩ := boxedN w d
  have HK := Lib.hid (fun W (hW : Below w.heap.size w W) => kept_any d.x d.net d.k U W (h.x.below (hW.mono hU)) (Nat.le_trans hU hW.size) h.s)
  have HO := Lib.hid (fun W (hW : Below w.heap.size w W) => singly_any oA on oc w.heap.size ol W (ho.below hW) hW.size (by omega))
  have HS1 := Lib.hid (fun (a : Int) W => singly_any (some ⟨W.heap.size, 0, none⟩) 1 1 (W.heap.size + 1) [a] (W.alloc (.cells #[.int .i64 a] 3)) (litZ W a) (by simp) (by omega))
  have HOL := Lib.hid ho.len
  have HB0 := Lib.hid hb0
  have HC0 := Lib.hid hc0
  have HUU := Lib.hid hU
  have HNX := Lib.hid h.x.rd
  have HSM := Lib.hid h.s
  obtain ⟨nb, no, y, m, hA, hnU, HY, hyx, hcell⟩ := atN h.x.rd hkn
  have HSX := Lib.hid hyx
  have hm10 : m ≤ 10 := by rw [← hyx.len]; exact small_sns h.s y (List.mem_of_getElem? HY.out)
  have HPN : Hid (∀ x ∈ y.xs, x.pools.length ≤ 20) := fun x hx => h.s.pools _ (List.mem_map.2 ⟨y, List.mem_of_getElem? HY.out, rfl⟩) x.s (List.mem_map.2 ⟨x, hx, rfl⟩)
  have HSRC := Lib.hid (fun hl h1 => src_at (x := d.x) (y := y) (k := k) (key := d.k) (ol := ol) (want := want) h0 HY.out hl h1)
  have HKL : Hid (keptL d.x.cf (k : Int) d.k = if (keptC d.x.cf (k : Int) d.k).2 = true then [(keptC d.x.cf (k : Int) d.k).1] else []) := rfl
  have hmcap := hyx.cap
  have hmmax := hyx.max
  have hncap := HNX.out.cap
  have hnmax := HNX.out.max
  rw [hk]
  rw [hk] at HK
  generalize hsr : srcL d.x.cf (k : Int) d.k ol want = sr at HSRC ⊢
  clear hsr
  generalize keptL d.x.cf (k : Int) d.k = kl at HKL HSRC
  generalize keptC d.x.cf (k : Int) d.k = u at HK HKL
  obtain ⟨own, kept⟩ := u
  obtain ⟨x, tA, tn, tc, tl, net, key, now⟩ := d
  obtain ⟨srv, prob, cA, cn, cc, ns⟩ := x
  simp only at hA hk hkn hncap hnmax
  subst hA hk
  have HCE := Lib.hid hcell
  have hkz : (k : Int) < (cn : Int) := by omega
  clear h hU ho hb0 hc0 hz hyx hcell h0
  cases kept with
  | true =>
    go_enter Tryz.func201, Tryz.ntmps201
    go_upto_region 1 with fail
    rw [← hw0]
    clear hw0
    obtain ⟨c0, c1, c2, c3, c4, c5, c6⟩ := cel7N HC0.out
    go_wp2_with fail
    refine (HK.out _ HB0.out).mono ?_
    rintro e w1 ⟨rfl, hb1⟩
    have HB1 := Lib.hid (HB0.out.trans (hb1.mono HB0.out.size))
    have HC1 := Lib.hid (HC0.out.below hb1 HC0.out.lt)
    clear c0 c1 c2 c3 c4 c5 c6 HC0 HK hb1
    have hba : Below w1.heap.size w1 (w1.alloc (.cells #[.int .i64 own] 3)) := alloc_more _ _
    go_wp2_with fail
    refine (HS1.out own w1).mono ?_
    rintro e w2 ⟨A1, c1, rfl, hown1, hb2⟩
    have hbb := hba.trans (hb2.mono hba.size)
    have HB2 := Lib.hid (HB1.out.trans (hbb.mono HB1.out.size))
    have HC2 := Lib.hid (HC1.out.below hbb HC1.out.lt)
    have HR1 := Lib.hid hown1.rd
    clear hba hbb hown1 hb2 HC1
    go_wp2_with fail
    refine (HO.out _ HB2.out).mono ?_
    rintro e w3 ⟨A2, c2, rfl, hown2, hb3⟩
    have HB3 := Lib.hid (HB2.out.trans (hb3.mono HB2.out.size))
    have HC3 := Lib.hid (HC2.out.below hb3 HC2.out.lt)
    have HR13 := Lib.hid ((HR1.out.below hb3).mono hb3.size)
    have HR2 := Lib.hid hown2.rd
    have hba3 : Below w3.heap.size w3 (w3.alloc (.cells #[.int .i64 want] 3)) := alloc_more _ _
    clear hown2 hb3 HR1 HC2
    go_wp2_with fail
    refine (HS1.out want w3).mono ?_
    rintro e w4 ⟨A3, c3, rfl, hown3, hb4⟩
    have hbb4 := hba3.trans (hb4.mono hba3.size)
    have HB4 := Lib.hid (HB3.out.trans (hbb4.mono HB3.out.size))
    have HC4 := Lib.hid (HC3.out.below hbb4 HC3.out.lt)
    have hr1 := ((HR13.out.below hbb4).mono hbb4.size)
    have hr2 := ((HR2.out.below hbb4).mono hbb4.size)
    have hr3 := hown3.rd
    obtain ⟨w5, hw5⟩ : ∃ w5, w5 = w4.alloc (.cells #[.slice A1 1 c1, .slice A2 on c2, .slice A3 1 c3] 112) := ⟨_, rfl⟩
    have hb5 : Below w4.heap.size w4 w5 := by rw [hw5]; exact alloc_more _ _
    have hc5 : Cel w5 w4.heap.size 112 #[.slice A1 1 c1, .slice A2 on c2, .slice A3 1 c3] := by rw [hw5]; exact Cel.born _ _ _
    have hpt := parts3 hc5 ((hr1.below hb5).mono hb5.size) ((hr2.below hb5).mono hb5.size) ((hr3.below hb5).mono hb5.size)
    have htt := hr2.len
    have HCC := Lib.hid (concatQ_any w4.heap.size 0 3 3 _ w5 hpt rfl (by omega) (by omega) (by rw [tot3]; simp only [List.length_map, List.length_cons, List.length_nil]; rw [HOL.out]; omega))
    have HB5 := Lib.hid (HB4.out.trans (hb5.mono HB4.out.size))
    have HC5 := Lib.hid (HC4.out.below hb5 HC4.out.lt)
    have HKE := Lib.hid (HSRC.out ([own].map sgl) (by rw [HKL.out]; rfl))
    rw [cat3, tot3] at HCC
    rw [show (ol.map sgl).length = on from htt] at HCC
    clear hba3 hown3 hb4 hbb4 hr1 hr2 hr3 hc5 hpt htt HC3 HR13 HR2 hb5 HC4 HKL
    go_wp2_with fail
    rw [← hw5]
    clear hw5
    refine HCC.out.mono ?_
    rintro e w6 ⟨A4, c4, rfl, hown4, hb6⟩
    have HB6 := Lib.hid (HB5.out.trans (hb6.mono HB5.out.size))
    have HC6 := Lib.hid (HC5.out.below hb6 HC5.out.lt)
    have HO4 := Lib.hid (hown4.mono HB5.out.size)
    obtain ⟨c0, c1', c2', c3', c4', c5', c6'⟩ := cel7N HC6.out
    have hce := (HB6.out.cell (p := ⟨nb, no + k, none⟩) (Nat.lt_of_lt_of_le hnU HUU.out)).trans HCE.out
    obtain ⟨nT, hnT⟩ : ∃ nT, nT = ([own].map sgl).length + (on + ([want].map sgl).length) := ⟨_, rfl⟩
    have hnT2 : nT ≤ 66 := by rw [hnT]; simp; omega
    rw [← hnT] at HO4 ⊢
    obtain ⟨lT, hlT⟩ : ∃ lT, lT = ([own].map sgl) ++ (ol.map sgl ++ [want].map sgl) := ⟨_, rfl⟩
    have HKT : Hid (lT ++ y.xs.flatMap (fun s => s.pools) = sr) := by show _ = _; rw [hlT]; exact HKE.out
    rw [← hlT] at HO4
    clear hown4 hb6 HC5 HCC HKE hnT hlT
    go_wp2
    clear c0 c1' c2' c3' c4' c5' c6' hce
    go_loopw [7, 43] (fun v i wr => ∃ (j : Nat) (A5 : Option Addr) (n5 c5 : Nat), j ≤ m ∧ n5 ≤ 66 + 20 * j ∧ i = .int .i64 j ∧ v = .slice A5 n5 c5 ∧ Hid (OwnPl w.heap.size wr A5 n5 c5 (lT ++ (y.xs.take j).flatMap fun s => s.pools)) ∧ Hid (Below w.heap.size w wr)) (fun _ i _ => m - (intOf i).toNat)
    case atStart => exact ⟨0, A4, nT, c4, by omega, by omega, rfl, rfl, Lib.hid (by simpa using HO4.out), HB6.out⟩
    case round =>
      obtain ⟨j, A5, n5, c5, hj, hn5, rfl, rfl, HOW, HB⟩ := hrel
      by_cases hlt : j < m
      · obtain ⟨b, o, x, pn, rn, hyA, hbU, HA, hok, HP, HR, d0, d1, d2, d3, d4, d5, d6⟩ := atS (HSX.out.below (HB.out.mono HUU.out)) hlt
        have hjz : (j : Int) < (m : Int) := by omega
        obtain ⟨wB, hwB⟩ : ∃ wB, wB = wr.alloc (.cells (x.cs pn rn) 115) := ⟨_, rfl⟩
        have hbB : Below wr.heap.size wr wB := by rw [hwB]; exact alloc_more _ _
        have HCB := Lib.hid (show Cel wB wr.heap.size 115 (x.cs pn rn) by rw [hwB]; exact Cel.born _ _ _)
        have hpn : pn ≤ 20 := by rw [← HP.out]; exact HPN.out x (List.mem_of_getElem? HA.out)
        have hrd := hok.p.below (hbB.mono (Nat.le_trans HUU.out HB.out.size))
        have hown := HOW.out.below hbB
        have HTK := Lib.hid (take_pools HA.out lT)
        have HBB := Lib.hid (HB.out.trans (hbB.mono HB.out.size))
        have hszB := HBB.out.size
        rw [hyA]
        clear hbB HOW hok HP HR
        go_upto_region 9 with fail
        rw [← hwB]
        clear hwB d0 d1 d2 d3 d4 d5 d6
        obtain ⟨e0, e1, e2, e3, e4, e5, e6⟩ := cel7 HCB.out
        go_wp2_with (at_builtin; refine wpList_appG plP (by decide) (by decide) (by kernel_rfl) rfl (.tmp 47) (.tmp 49) rfl rfl hown rfl hrd (by omega) hszB ?_; intro A6 c6 w9 happ)
        go_roundw
        case rel => exact ⟨j + 1, A6, n5 + pn, c6, by omega, by omega, by go_num, rfl, by rw [HTK.out]; exact happ.1, HBB.out.trans happ.2.1⟩
        case measure => simp [intOf]; omega
      · obtain rfl : j = m := by omega
        have HT : Hid (y.xs.take j = y.xs) := List.take_of_length_le (by rw [HSX.out.len]; exact Nat.le_refl _)
        have hjz : ¬ (j : Int) < (j : Int) := by omega
        rw [HT.out, HKT.out] at HOW
        clear hlt
        go_wp2
        go_ret
        exact ⟨A5, n5, c5, rfl, HOW.out, HB.out⟩
  | false =>
    go_enter Tryz.func201, Tryz.ntmps201
    go_upto_region 1 with fail
    rw [← hw0]
    clear hw0
    obtain ⟨c0, c1, c2, c3, c4, c5, c6⟩ := cel7N HC0.out
    go_wp2_with fail
    refine (HK.out _ HB0.out).mono ?_
    rintro e w1 ⟨rfl, hb1⟩
    have HB1 := Lib.hid (HB0.out.trans (hb1.mono HB0.out.size))
    have HC1 := Lib.hid (HC0.out.below hb1 HC0.out.lt)
    clear c0 c1 c2 c3 c4 c5 c6 HC0 HK hb1
    have HB2 := HB1
    have HC2 := HC1
    have HR1 : Hid (RdPl w1.heap.size w1 none 0 0 []) := RdG.nil _ _
    clear HC1
    go_wp2_with fail
    refine (HO.out _ HB2.out).mono ?_
    rintro e w3 ⟨A2, c2, rfl, hown2, hb3⟩
    have HB3 := Lib.hid (HB2.out.trans (hb3.mono HB2.out.size))
    have HC3 := Lib.hid (HC2.out.below hb3 HC2.out.lt)
    have HR13 := Lib.hid ((HR1.out.below hb3).mono hb3.size)
    have HR2 := Lib.hid hown2.rd
    have hba3 : Below w3.heap.size w3 (w3.alloc (.cells #[.int .i64 want] 3)) := alloc_more _ _
    clear hown2 hb3 HR1 HC2
    go_wp2_with fail
    refine (HS1.out want w3).mono ?_
    rintro e w4 ⟨A3, c3, rfl, hown3, hb4⟩
    have hbb4 := hba3.trans (hb4.mono hba3.size)
    have HB4 := Lib.hid (HB3.out.trans (hbb4.mono HB3.out.size))
    have HC4 := Lib.hid (HC3.out.below hbb4 HC3.out.lt)
    have hr1 := ((HR13.out.below hbb4).mono hbb4.size)
    have hr2 := ((HR2.out.below hbb4).mono hbb4.size)
    have hr3 := hown3.rd
    obtain ⟨w5, hw5⟩ : ∃ w5, w5 = w4.alloc (.cells #[.slice none 0 0, .slice A2 on c2, .slice A3 1 c3] 112) := ⟨_, rfl⟩
    have hb5 : Below w4.heap.size w4 w5 := by rw [hw5]; exact alloc_more _ _
    have hc5 : Cel w5 w4.heap.size 112 #[.slice none 0 0, .slice A2 on c2, .slice A3 1 c3] := by rw [hw5]; exact Cel.born _ _ _
    have hpt := parts3 hc5 ((hr1.below hb5).mono hb5.size) ((hr2.below hb5).mono hb5.size) ((hr3.below hb5).mono hb5.size)
    have htt := hr2.len
    have HCC := Lib.hid (concatQ_any w4.heap.size 0 3 3 _ w5 hpt rfl (by omega) (by omega) (by rw [tot3]; simp only [List.length_map, List.length_cons, List.length_nil]; rw [HOL.out]; omega))
    have HB5 := Lib.hid (HB4.out.trans (hb5.mono HB4.out.size))
    have HC5 := Lib.hid (HC4.out.below hb5 HC4.out.lt)
    have HKE := Lib.hid (HSRC.out ([] : List Pl) (by rw [HKL.out]; rfl))
    rw [cat3, tot3] at HCC
    rw [show (ol.map sgl).length = on from htt] at HCC
    clear hba3 hown3 hb4 hbb4 hr1 hr2 hr3 hc5 hpt htt HC3 HR13 HR2 hb5 HC4 HKL
    go_wp2_with fail
    rw [← hw5]
    clear hw5
    refine HCC.out.mono ?_
    rintro e w6 ⟨A4, c4, rfl, hown4, hb6⟩
    have HB6 := Lib.hid (HB5.out.trans (hb6.mono HB5.out.size))
    have HC6 := Lib.hid (HC5.out.below hb6 HC5.out.lt)
    have HO4 := Lib.hid (hown4.mono HB5.out.size)
    obtain ⟨c0, c1', c2', c3', c4', c5', c6'⟩ := cel7N HC6.out
    have hce := (HB6.out.cell (p := ⟨nb, no + k, none⟩) (Nat.lt_of_lt_of_le hnU HUU.out)).trans HCE.out
    obtain ⟨nT, hnT⟩ : ∃ nT, nT = ([] : List Pl).length + (on + ([want].map sgl).length) := ⟨_, rfl⟩
    have hnT2 : nT ≤ 66 := by rw [hnT]; simp; omega
    rw [← hnT] at HO4 ⊢
    obtain ⟨lT, hlT⟩ : ∃ lT, lT = ([] : List Pl) ++ (ol.map sgl ++ [want].map sgl) := ⟨_, rfl⟩
    have HKT : Hid (lT ++ y.xs.flatMap (fun s => s.pools) = sr) := by show _ = _; rw [hlT]; exact HKE.out
    rw [← hlT] at HO4
    clear hown4 hb6 HC5 HCC HKE hnT hlT
    go_wp2
    clear c0 c1' c2' c3' c4' c5' c6' hce
    go_loopw [7, 43] (fun v i wr => ∃ (j : Nat) (A5 : Option Addr) (n5 c5 : Nat), j ≤ m ∧ n5 ≤ 66 + 20 * j ∧ i = .int .i64 j ∧ v = .slice A5 n5 c5 ∧ Hid (OwnPl w.heap.size wr A5 n5 c5 (lT ++ (y.xs.take j).flatMap fun s => s.pools)) ∧ Hid (Below w.heap.size w wr)) (fun _ i _ => m - (intOf i).toNat)
    case atStart => exact ⟨0, A4, nT, c4, by omega, by omega, rfl, rfl, Lib.hid (by simpa using HO4.out), HB6.out⟩
    case round =>
      obtain ⟨j, A5, n5, c5, hj, hn5, rfl, rfl, HOW, HB⟩ := hrel
      by_cases hlt : j < m
      · obtain ⟨b, o, x, pn, rn, hyA, hbU, HA, hok, HP, HR, d0, d1, d2, d3, d4, d5, d6⟩ := atS (HSX.out.below (HB.out.mono HUU.out)) hlt
        have hjz : (j : Int) < (m : Int) := by omega
        obtain ⟨wB, hwB⟩ : ∃ wB, wB = wr.alloc (.cells (x.cs pn rn) 115) := ⟨_, rfl⟩
        have hbB : Below wr.heap.size wr wB := by rw [hwB]; exact alloc_more _ _
        have HCB := Lib.hid (show Cel wB wr.heap.size 115 (x.cs pn rn) by rw [hwB]; exact Cel.born _ _ _)
        have hpn : pn ≤ 20 := by rw [← HP.out]; exact HPN.out x (List.mem_of_getElem? HA.out)
        have hrd := hok.p.below (hbB.mono (Nat.le_trans HUU.out HB.out.size))
        have hown := HOW.out.below hbB
        have HTK := Lib.hid (take_pools HA.out lT)
        have HBB := Lib.hid (HB.out.trans (hbB.mono HB.out.size))
        have hszB := HBB.out.size
        rw [hyA]
        clear hbB HOW hok HP HR
        go_upto_region 9 with fail
        rw [← hwB]
        clear hwB d0 d1 d2 d3 d4 d5 d6
        obtain ⟨e0, e1, e2, e3, e4, e5, e6⟩ := cel7 HCB.out
        go_wp2_with (at_builtin; refine wpList_appG plP (by decide) (by decide) (by kernel_rfl) rfl (.tmp 47) (.tmp 49) rfl rfl hown rfl hrd (by omega) hszB ?_; intro A6 c6 w9 happ)
        go_roundw
        case rel => exact ⟨j + 1, A6, n5 + pn, c6, by omega, by omega, by go_num, rfl, by rw [HTK.out]; exact happ.1, HBB.out.trans happ.2.1⟩
        case measure => simp [intOf]; omega
      · obtain rfl : j = m := by omega
        have HT : Hid (y.xs.take j = y.xs) := List.take_of_length_le (by rw [HSX.out.len]; exact Nat.le_refl _)
        have hjz : ¬ (j : Int) < (j : Int) := by omega
        rw [HT.out, HKT.out] at HOW
        clear hlt
        go_wp2
        go_ret
        exact ⟨A5, n5, c5, rfl, HOW.out, HB.out⟩
end Go.Proofs.YtoldppbakapohaaGreatDoor.Xw
end
/- What alloc's own words come to in the words of the mathematics: the addresses that are held, the ranges that are tried. No program. -/
section
set_option maxRecDepth 8000
namespace Go.Proofs.YtoldppbakapohaaGreatDoor.Xw
open Go.RowKit Co By Ky Rc Ew Jw La Tb Lw Cf Al Ad

theorem find_right {c : Cf} {a : Int} (h : (findC c a).2.2 = true) : 0 ≤ a ∧ a ≤ 4294967295 := by
  unfold findC at h
  split at h
  · cases hf : findN (fun s => hasB s.base s.bits a) 0 c.nets with
    | none => rw [hf] at h; cases h
    | some y =>
      obtain ⟨s, _, h2, _⟩ := find_some hf
      exact (hasB_iff.1 h2).2.1
  · cases h
theorem kept_right {c : Cf} {net : Int} {k : List UInt8} (h : (keptC c net k).2 = true) : 0 ≤ (keptC c net k).1 ∧ (keptC c net k).1 ≤ 4294967295 := by
  obtain ⟨⟨j, e⟩, _⟩ := kept_one h
  exact find_right (by rw [e])
theorem okr_sgl {a : Int} (h1 : -9223372036854775808 ≤ a) (h2 : a ≤ 9223372036854775807) : Okr (sgl a) := ⟨h1, Int.le_refl _, h2, by show a - a < 4294967296; omega⟩
theorem okr_pool {c : Cf} {net : Int} {s : Sn} {p : Pl} (hs : s ∈ netC c net) (hp : p ∈ s.pools) : Okr p := by
  obtain ⟨h0, i, rfl, hi, hm⟩ := Cf.net_at hs
  have hx : (i, s) ∈ flatN 0 c.nets := mem_flat.2 ⟨hi, hm⟩
  have hle : p.first ≤ p.last := by
    have h1 := (sn_form h0 hx).1
    unfold snF at h1
    simp only [Bool.and_eq_true, List.all_eq_true] at h1
    have := h1.1.2 p hp
    unfold poolF at this
    exact of_decide_eq_true this
  have hf := (hasB_iff.1 (pool_has h0 hx hp (a := p.first) (by unfold inPl; exact decide_eq_true ⟨Int.le_refl _, hle⟩)).1).2.1
  have hl := (hasB_iff.1 (pool_has h0 hx hp (a := p.last) (by unfold inPl; exact decide_eq_true ⟨hle, Int.le_refl _⟩)).1).2.1
  exact ⟨by omega, hle, by omega, by omega⟩
theorem okr_src {c : Cf} {net : Int} {k : List UInt8} {ol : List Int} {want : Int} (h1 : -9223372036854775808 ≤ want) (h2 : want ≤ 9223372036854775807) (ho : ∀ a ∈ ol, 0 ≤ a ∧ a ≤ 4294967295) : ∀ p ∈ srcL c net k ol want, Okr p := by
  intro p hp
  unfold srcL at hp
  rcases List.mem_append.1 hp with hp | hp
  · obtain ⟨a, ha, rfl⟩ := List.mem_map.1 hp
    unfold keptL at ha
    split at ha
    · next hk =>
      rw [List.mem_singleton] at ha
      have := kept_right hk
      exact okr_sgl (by omega) (by omega)
    · cases ha
  · rcases List.mem_append.1 hp with hp | hp
    · obtain ⟨a, ha, rfl⟩ := List.mem_map.1 hp
      have := ho a ha
      exact okr_sgl (by omega) (by omega)
    · rcases List.mem_cons.1 hp with rfl | hp
      · exact okr_sgl h1 h2
      · obtain ⟨s, hs, hp⟩ := List.mem_flatMap.1 hp
        exact okr_pool hs hp
theorem sgl_addrs (a : Int) : addrsP (sgl a) = [a] := by
  unfold addrsP sgl
  show (List.range (a + 1 - a).toNat).map _ = _
  rw [show (a + 1 - a).toNat = 1 by omega]
  show [a + 0] = [a]
  rw [Int.add_zero]
theorem sgl_flat : ∀ l : List Int, (l.map sgl).flatMap addrsP = l
  | [] => rfl
  | a :: l => by rw [List.map_cons, List.flatMap_cons, sgl_addrs, sgl_flat l]; rfl
theorem src_flat (c : Cf) (net : Int) (k : List UInt8) (ol : List Int) (want : Int) : (srcL c net k ol want).flatMap addrsP = keptL c net k ++ (ol ++ (want :: addrsN (netC c net))) := by
  unfold srcL addrsN
  rw [List.flatMap_append, List.flatMap_append, List.flatMap_cons, sgl_flat, sgl_flat, sgl_addrs, List.flatMap_assoc]
  rfl
section
variable {d : Nd} (h : FairA d.x.cf d.l d.net d.k)
include h
theorem held_eq : heldL d = (heldA d.x.cf d.l d.net d.k d.now).map fun l => l.addr := by
  unfold heldL heldA ofT
  rw [good_of h.2.1, List.filter_filter]
  congr 1
  refine List.filter_congr fun a _ => ?_
  unfold heldB
  rw [Bool.and_comm (inA _ _ _), Bool.and_comm, Bool.and_assoc]
theorem other_eq (a : Int) : otherA d.x.cf d.l d.net d.k a d.now = (heldL d).any fun x => decide (x ≠ a) := by
  rw [held_eq h, List.any_map]
  unfold otherA heldA
  rw [List.any_filter]
  congr 1
  funext l
  unfold heldB
  show _ = (_ && decide (l.addr ≠ a))
  cases decide (l.key = d.k) <;> cases decide (l.addr ≠ a) <;> cases holdsT l d.now <;> cases inA d.x.cf d.net l.addr <;> rfl
theorem may_eq (a : Int) : mayA d.x.cf d.l d.net d.k a d.now = mayB d (heldL d) (keptC d.x.cf d.net d.k).1 (keptC d.x.cf d.net d.k).2 a := by
  unfold mayA mayB openA poolB
  rw [other_eq h, decide_eq_true h, Bool.true_and, Bool.and_assoc]
theorem choose_held (hne : heldL d ≠ []) (want : Int) : chooseA d.x.cf d.l d.net d.k want d.now = ansI ((((heldL d).map sgl).flatMap addrsP).find? (mayB d (heldL d) (keptC d.x.cf d.net d.k).1 (keptC d.x.cf d.net d.k).2)) := by
  have hn : heldA d.x.cf d.l d.net d.k d.now ≠ [] := fun e => hne (by rw [held_eq h, e]; rfl)
  unfold chooseA
  rw [keeps hn, sgl_flat, ← held_eq h, funext (may_eq h)]
theorem choose_rest (hn : heldL d = []) (want : Int) : chooseA d.x.cf d.l d.net d.k want d.now = ansI (((srcL d.x.cf d.net d.k (restL d) want).flatMap addrsP).find? (mayB d (heldL d) (keptC d.x.cf d.net d.k).1 (keptC d.x.cf d.net d.k).2)) := by
  have h0 : heldA d.x.cf d.l d.net d.k d.now = [] := by
    have := held_eq h
    rw [hn] at this
    exact List.map_eq_nil_iff.1 this.symm
  have hr : restL d = leftA d.x.cf d.l d.net d.k := by
    unfold restL leftA ofT
    rw [good_of h.2.1, List.filter_filter]
    congr 1
    refine List.filter_congr fun a ha => ?_
    unfold heldA at h0
    have := List.filter_eq_nil_iff.1 h0 a ha
    unfold heldB at this
    cases h1 : decide (a.key = d.k) <;> cases h2 : holdsT a d.now <;> cases h3 : inA d.x.cf d.net a.addr <;> simp_all
  unfold chooseA chooseO triedA
  rw [if_pos h0, src_flat, hr, funext (may_eq h)]
theorem rest_right : ∀ a ∈ restL d, 0 ≤ a ∧ a ≤ 4294967295 := by
  intro a ha
  unfold restL ofT at ha
  rw [good_of h.2.1] at ha
  obtain ⟨l, hl, rfl⟩ := List.mem_map.1 ha
  exact (h.2.1.2.1 l ((List.mem_filter.1 (List.mem_filter.1 hl).1).1)).1
theorem held_right : ∀ a ∈ heldL d, 0 ≤ a ∧ a ≤ 4294967295 := by
  intro a ha
  unfold heldL ofT at ha
  rw [good_of h.2.1] at ha
  obtain ⟨l, hl, rfl⟩ := List.mem_map.1 ha
  exact (h.2.1.2.1 l ((List.mem_filter.1 (List.mem_filter.1 hl).1).1)).1
end
theorem held_len (d : Nd) : (heldL d).length ≤ 64 := by
  unfold heldL ofT
  rw [List.length_map]
  exact Nat.le_trans (List.length_filter_le _ _) (Nat.le_trans (List.length_filter_le _ _) (good_len _))
theorem rest_len (d : Nd) : (restL d).length ≤ 64 := by
  unfold restL ofT
  rw [List.length_map]
  exact Nat.le_trans (List.length_filter_le _ _) (Nat.le_trans (List.length_filter_le _ _) (good_len _))
end Go.Proofs.YtoldppbakapohaaGreatDoor.Xw
end
/- What alloc.May and alloc.Choose come to. Conditions: the configuration is small and the keys fit (Nd.ok); what is wanted is a number of 64 bits. -/
section
set_option maxRecDepth 8000
namespace Go.Proofs.YtoldppbakapohaaGreatDoor.Xw
open Go.RowKit Co By Ky Rc Ew Jw La Tb Lw Cf Al Bw
open Vw (Cx RdPl layP atP FiR AdR KeR isI app1)
open Dw (ba ba_size ba_data ba_list alloc_more)

/-- Memory that has a configuration and a need in two new blocks. -/
theorem boxedT (w : World) (d : Nd) : ∃ w0, w0 = (w.alloc (.cells d.x.cs 24)).alloc (.cells d.cs 117) ∧ Cel w0 (w.heap.size + 1) 117 d.cs ∧ Below w.heap.size w w0 := by
  have hs : (w.alloc (.cells d.x.cs 24)).heap.size = w.heap.size + 1 := by simp
  have c1 := Cel.born (w.alloc (.cells d.x.cs 24)) 117 d.cs
  rw [hs] at c1
  exact ⟨_, rfl, c1, (alloc_more _ _).trans ((alloc_more _ _).mono (alloc_more _ _).size)⟩
set_option maxHeartbeats 4000000 in
theorem May_any (d : Nd) (a : Int) (U : Nat) (w : World) (h : d.ok U w) (hU : U ≤ w.heap.size) :
    Calls Tryz.prog 33 #[d.x.v, .slice d.A d.n d.c, .int .i64 d.net, .string (ba d.k), .int .i64 a, .int .i64 d.now] w (isB (mayA d.x.cf d.l d.net d.k a d.now) w) := by
  obtain ⟨w0, hw0, hcn, hb0⟩ := boxedT w d
  have HR := Lib.hid (right_any d U w0 (h.below (hb0.mono hU)) (Nat.le_trans hU hb0.size))
  have HL := Lib.hid (fun W (hW : Below w.heap.size w W) => leased_any d U W (h.below (hW.mono hU)) (Nat.le_trans hU hW.size))
  have HP := Lib.hid (fun A n c W (hW : Below w.heap.size w W) => permission_any d U A n c W (h.below (hW.mono hU)) (Nat.le_trans hU hW.size))
  have HM := Lib.hid (fun A n c g1 g2 g3 g4 W (hW : Below w.heap.size w W) => may_any d U A n c (heldL d) (keptC d.x.cf d.net d.k).1 (keptC d.x.cf d.net d.k).2 g1 g2 g3 g4 a W (h.below (hW.mono hU)) (Nat.le_trans hU hW.size))
  have HB0 := Lib.hid hb0
  have HCN := Lib.hid hcn
  clear h hU hb0 hcn
  by_cases hf : FairA d.x.cf d.l d.net d.k
  · have HF := Lib.hid (may_eq hf a)
    rw [decide_eq_true hf] at HR
    generalize mayA d.x.cf d.l d.net d.k a d.now = m at HF ⊢
    generalize keptC d.x.cf d.net d.k = u at HF HM HP
    generalize heldL d = hl at HF HM HL
    clear hf
    go_enter Tryz.func33, Tryz.ntmps33
    go_upto_region 2 with fail
    rw [← hw0]
    clear hw0
    obtain ⟨c0, c1, c2, c3, c4, c5, c6⟩ := cel7N HCN.out
    go_wp2_with fail
    refine HR.out.mono ?_
    rintro e w1 ⟨rfl, hb1⟩
    have HB1 := Lib.hid (HB0.out.trans (hb1.mono HB0.out.size))
    have HCN1 := Lib.hid (HCN.out.below hb1 HCN.out.lt)
    clear c0 c1 c2 c3 c4 c5 c6 HCN hb1 HR
    obtain ⟨c0, c1, c2, c3, c4, c5, c6⟩ := cel7N HCN1.out
    go_wp2_with fail
    refine (HL.out _ HB1.out).mono ?_
    rintro e w2 ⟨A1, n1, k1, A2, n2, k2, rfl, ho1, ho2, hb2⟩
    have HB2 := Lib.hid (HB1.out.trans (hb2.mono HB1.out.size))
    have HCN2 := Lib.hid (HCN1.out.below hb2 HCN1.out.lt)
    have HO1 := Lib.hid ho1.rd
    clear c0 c1 c2 c3 c4 c5 c6 HCN1 hb2 HL ho1 ho2
    obtain ⟨c0, c1, c2, c3, c4, c5, c6⟩ := cel7N HCN2.out
    go_wp2_with fail
    refine (HP.out A1 n1 k1 _ HB2.out).mono ?_
    rintro e w3 ⟨gH, gN, gK, gO, rfl, hcH, hcN, hcK, hcO, hb3⟩
    have HB3 := Lib.hid (HB2.out.trans (hb3.mono HB2.out.size))
    have HC := Lib.hid (HM.out A1 n1 k1 gH gN gK gO w3 HB3.out ((HO1.out.below hb3).mono hb3.size) hcH hcN hcK hcO)
    rw [← HF.out, app4] at HC
    clear c0 c1 c2 c3 c4 c5 c6 HCN2 hb3 HP HM HF hcH hcN hcK hcO HO1
    go_wp2_with fail
    refine HC.out.mono ?_
    rintro e w4 ⟨rfl, hb4⟩
    go_wp2
    go_ret
    exact ⟨rfl, HB3.out.trans (hb4.mono HB3.out.size)⟩
  · have HF := Lib.hid (may_unfair hf a d.now)
    rw [decide_eq_false hf] at HR
    generalize mayA d.x.cf d.l d.net d.k a d.now = m at HF ⊢
    clear hf
    go_enter Tryz.func33, Tryz.ntmps33
    go_upto_region 2 with fail
    rw [← hw0]
    clear hw0
    obtain ⟨c0, c1, c2, c3, c4, c5, c6⟩ := cel7N HCN.out
    go_wp2_with fail
    refine HR.out.mono ?_
    rintro e w1 ⟨rfl, hb1⟩
    go_wp2
    go_ret
    exact ⟨ret_bool HF.out.symm, HB0.out.trans (hb1.mono HB0.out.size)⟩
set_option maxHeartbeats 8000000 in
theorem Choose_any (d : Nd) (want : Int) (U : Nat) (w : World) (h : d.ok U w) (hU : U ≤ w.heap.size) (hw1 : -9223372036854775808 ≤ want) (hw2 : want ≤ 9223372036854775807) :
    Calls Tryz.prog 139 #[d.x.v, .slice d.A d.n d.c, .int .i64 d.net, .string (ba d.k), .int .i64 want, .int .i64 d.now] w (AdR (chooseA d.x.cf d.l d.net d.k want d.now) w) := by
  obtain ⟨w0, hw0, hcn, hb0⟩ := boxedT w d
  have HR := Lib.hid (right_any d U w0 (h.below (hb0.mono hU)) (Nat.le_trans hU hb0.size))
  have HB0 := Lib.hid hb0
  have HCN := Lib.hid hcn
  by_cases hf : FairA d.x.cf d.l d.net d.k
  · have HL := Lib.hid (fun W (hW : Below w.heap.size w W) => leased_any d U W (h.below (hW.mono hU)) (Nat.le_trans hU hW.size))
    have HP := Lib.hid (fun A n c W (hW : Below w.heap.size w W) => permission_any d U A n c W (h.below (hW.mono hU)) (Nat.le_trans hU hW.size))
    have HM := Lib.hid (fun x A n c g1 g2 g3 g4 W (hW : Below w.heap.size w W) => may_any d U A n c (heldL d) (keptC d.x.cf d.net d.k).1 (keptC d.x.cf d.net d.k).2 g1 g2 g3 g4 x W (h.below (hW.mono hU)) (Nat.le_trans hU hW.size))
    obtain ⟨k, hk⟩ : ∃ k : Nat, d.net = (k : Int) := ⟨d.net.toNat, by have := hf.2.2.2.1; omega⟩
    have hkn : k < d.x.n := by have := hf.2.2.2.2; rw [h.x.nets] at this; omega
    have HS := Lib.hid (fun oA on oc W (hW : Below w.heap.size w W) (hr : RdZ W.heap.size W oA on oc (restL d)) hon => sources_any d k U oA on oc (restL d) want W (h.below (hW.mono hU)) (Nat.le_trans hU hW.size) hf.1 hk hkn hr hon)
    have HLN := Lib.hid (held_len d)
    have HLM := Lib.hid (rest_len d)
    rw [decide_eq_true hf] at HR
    by_cases hne : heldL d = []
    · have HF := Lib.hid (choose_rest hf hne want)
      have HOK := Lib.hid (okr_src (c := d.x.cf) (net := d.net) (k := d.k) hw1 hw2 (rest_right hf))
      have HNE := Lib.hid hne
      generalize chooseA d.x.cf d.l d.net d.k want d.now = m at HF ⊢
      generalize srcL d.x.cf d.net d.k (restL d) want = sr at HF HOK HS
      generalize hq : mayB d (heldL d) (keptC d.x.cf d.net d.k).1 (keptC d.x.cf d.net d.k).2 = q at HF HM
      generalize keptC d.x.cf d.net d.k = u at HP HM
      generalize heldL d = hl at HL HM HLN HNE
      generalize restL d = rl at HL HS HLM
      clear hf hne h hU hb0 hcn hq hk hkn
      go_enter Tryz.func139, Tryz.ntmps139
      go_upto_region 2 with fail
      rw [← hw0]
      clear hw0
      obtain ⟨c0, c1, c2, c3, c4, c5, c6⟩ := cel7N HCN.out
      go_wp2_with fail
      refine HR.out.mono ?_
      rintro e w1 ⟨rfl, hb1⟩
      have HB1 := Lib.hid (HB0.out.trans (hb1.mono HB0.out.size))
      have HCN1 := Lib.hid (HCN.out.below hb1 HCN.out.lt)
      clear c0 c1 c2 c3 c4 c5 c6 HCN hb1 HR
      obtain ⟨c0, c1, c2, c3, c4, c5, c6⟩ := cel7N HCN1.out
      go_wp2_with fail
      refine (HL.out _ HB1.out).mono ?_
      rintro e w2 ⟨A1, n1, k1, A2, n2, k2, rfl, ho1, ho2, hb2⟩
      have HB2 := Lib.hid (HB1.out.trans (hb2.mono HB1.out.size))
      have HCN2 := Lib.hid (HCN1.out.below hb2 HCN1.out.lt)
      have hl1 := ho1.len
      have hl2 := ho2.len
      have hn1 : n1 ≤ 64 := by rw [← hl1]; exact HLN.out
      have hn2 : n2 ≤ 64 := by rw [← hl2]; exact HLM.out
      have HO1 := Lib.hid ho1.rd
      have HO2 := Lib.hid ho2.rd
      clear c0 c1 c2 c3 c4 c5 c6 HCN1 hb2 HL ho1 ho2
      obtain ⟨c0, c1, c2, c3, c4, c5, c6⟩ := cel7N HCN2.out
      go_wp2_with fail
      refine (HP.out A1 n1 k1 _ HB2.out).mono ?_
      rintro e w3 ⟨gH, gN, gK, gO, rfl, hcH, hcN, hcK, hcO, hb3⟩
      have HB3 := Lib.hid (HB2.out.trans (hb3.mono HB2.out.size))
      have HCN3 := Lib.hid (HCN2.out.below hb3 HCN2.out.lt)
      have HR1 := Lib.hid ((HO1.out.below hb3).mono hb3.size)
      have HR2 := Lib.hid ((HO2.out.below hb3).mono hb3.size)
      have HC := Lib.hid (fun x W (hW : Below w3.heap.size w3 W) => HM.out x A1 n1 k1 gH gN gK gO W (HB3.out.trans (hW.mono HB3.out.size)) ((HR1.out.below hW).mono hW.size) (hcH.below hW hcH.lt) (hcN.below hW hcN.lt) (hcK.below hW hcK.lt) (hcO.below hW hcO.lt))
      clear c0 c1 c2 c3 c4 c5 c6 HCN2 hb3 HP HM hcH hcN hcK hcO HO1 HO2
      obtain ⟨c0, c1, c2, c3, c4, c5, c6⟩ := cel7N HCN3.out
      have hpos : ¬ ((n1 : Int) > 0) := by
        rw [HNE.out] at hl1
        have : n1 = 0 := hl1.symm
        omega
      have HSG := Lib.hid (HS.out A2 n2 k2 w3 HB3.out HR2.out hn2)
      clear hl1 hl2
      go_wp2_with fail
      refine HSG.out.mono ?_
      rintro e w4 ⟨A4, n4, k4, rfl, hown, hb4⟩
      have HB4 := Lib.hid (HB3.out.trans (hb4.mono HB3.out.size))
      have HTR := Lib.hid (try_any 118 (fun args W => by rfl) #[.pointer (some ⟨gH, 0, none⟩), .pointer (some ⟨gN, 0, none⟩), .pointer (some ⟨gK, 0, none⟩), .pointer (some ⟨gO, 0, none⟩)] q A4 n4 k4 w4.heap.size _ w4 hown.rd (Nat.le_refl _) HOK.out (fun x W hW => HC.out x W (hb4.trans (hW.mono hb4.size))))
      rw [← HF.out] at HTR
      clear c0 c1 c2 c3 c4 c5 c6 HCN3 hown hb4 HC HSG HR1 HR2 HOK HF
      go_wp2_with fail
      refine HTR.out.mono ?_
      rintro e w5 ⟨rfl, hb5⟩
      go_wp2
      go_ret2
      exact ⟨rfl, HB4.out.trans (hb5.mono HB4.out.size)⟩
    · have HF := Lib.hid (choose_held hf hne want)
      have HOK : Hid (∀ p ∈ (heldL d).map sgl, Okr p) := fun p hp => by
        obtain ⟨a, ha, rfl⟩ := List.mem_map.1 hp
        have := held_right hf a ha
        exact okr_sgl (by omega) (by omega)
      have HNE := Lib.hid hne
      generalize chooseA d.x.cf d.l d.net d.k want d.now = m at HF ⊢
      generalize hq : mayB d (heldL d) (keptC d.x.cf d.net d.k).1 (keptC d.x.cf d.net d.k).2 = q at HF HM
      generalize keptC d.x.cf d.net d.k = u at HP HM
      generalize heldL d = hl at HL HM HLN HNE HF HOK
      generalize restL d = rl at HL HLM
      clear hf hne h hU hb0 hcn hq HS hk hkn
      go_enter Tryz.func139, Tryz.ntmps139
      go_upto_region 2 with fail
      rw [← hw0]
      clear hw0
      obtain ⟨c0, c1, c2, c3, c4, c5, c6⟩ := cel7N HCN.out
      go_wp2_with fail
      refine HR.out.mono ?_
      rintro e w1 ⟨rfl, hb1⟩
      have HB1 := Lib.hid (HB0.out.trans (hb1.mono HB0.out.size))
      have HCN1 := Lib.hid (HCN.out.below hb1 HCN.out.lt)
      clear c0 c1 c2 c3 c4 c5 c6 HCN hb1 HR
      obtain ⟨c0, c1, c2, c3, c4, c5, c6⟩ := cel7N HCN1.out
      go_wp2_with fail
      refine (HL.out _ HB1.out).mono ?_
      rintro e w2 ⟨A1, n1, k1, A2, n2, k2, rfl, ho1, ho2, hb2⟩
      have HB2 := Lib.hid (HB1.out.trans (hb2.mono HB1.out.size))
      have HCN2 := Lib.hid (HCN1.out.below hb2 HCN1.out.lt)
      have hl1 := ho1.len
      have hl2 := ho2.len
      have hn1 : n1 ≤ 64 := by rw [← hl1]; exact HLN.out
      have hn2 : n2 ≤ 64 := by rw [← hl2]; exact HLM.out
      have HO1 := Lib.hid ho1.rd
      have HO2 := Lib.hid ho2.rd
      clear c0 c1 c2 c3 c4 c5 c6 HCN1 hb2 HL ho1 ho2
      obtain ⟨c0, c1, c2, c3, c4, c5, c6⟩ := cel7N HCN2.out
      go_wp2_with fail
      refine (HP.out A1 n1 k1 _ HB2.out).mono ?_
      rintro e w3 ⟨gH, gN, gK, gO, rfl, hcH, hcN, hcK, hcO, hb3⟩
      have HB3 := Lib.hid (HB2.out.trans (hb3.mono HB2.out.size))
      have HCN3 := Lib.hid (HCN2.out.below hb3 HCN2.out.lt)
      have HR1 := Lib.hid ((HO1.out.below hb3).mono hb3.size)
      have HR2 := Lib.hid ((HO2.out.below hb3).mono hb3.size)
      have HC := Lib.hid (fun x W (hW : Below w3.heap.size w3 W) => HM.out x A1 n1 k1 gH gN gK gO W (HB3.out.trans (hW.mono HB3.out.size)) ((HR1.out.below hW).mono hW.size) (hcH.below hW hcH.lt) (hcN.below hW hcN.lt) (hcK.below hW hcK.lt) (hcO.below hW hcO.lt))
      clear c0 c1 c2 c3 c4 c5 c6 HCN2 hb3 HP HM hcH hcN hcK hcO HO1 HO2
      obtain ⟨c0, c1, c2, c3, c4, c5, c6⟩ := cel7N HCN3.out
      have hpos : (n1 : Int) > 0 := by
        rcases Nat.eq_zero_or_pos n1 with h0 | h0
        · rw [h0] at hl1
          exact absurd (List.length_eq_zero_iff.1 hl1) HNE.out
        · omega
      have HSG := Lib.hid (singly_any A1 n1 k1 w3.heap.size hl w3 HR1.out (Nat.le_refl _) (by omega))
      clear hl1 hl2
      go_wp2_with fail
      refine HSG.out.mono ?_
      rintro e w4 ⟨A4, k4, rfl, hown, hb4⟩
      have HB4 := Lib.hid (HB3.out.trans (hb4.mono HB3.out.size))
      have HTR := Lib.hid (try_any 118 (fun args W => by rfl) #[.pointer (some ⟨gH, 0, none⟩), .pointer (some ⟨gN, 0, none⟩), .pointer (some ⟨gK, 0, none⟩), .pointer (some ⟨gO, 0, none⟩)] q A4 n1 k4 w4.heap.size _ w4 hown.rd (Nat.le_refl _) HOK.out (fun x W hW => HC.out x W (hb4.trans (hW.mono hb4.size))))
      rw [← HF.out] at HTR
      clear c0 c1 c2 c3 c4 c5 c6 HCN3 hown hb4 HC HSG HR1 HR2 HOK HF
      go_wp2_with fail
      refine HTR.out.mono ?_
      rintro e w5 ⟨rfl, hb5⟩
      go_wp2
      go_ret2
      exact ⟨rfl, HB4.out.trans (hb5.mono HB4.out.size)⟩
  · have HF := Lib.hid (choose_unfair hf want d.now)
    rw [decide_eq_false hf] at HR
    rw [HF.out]
    clear hf h hU hb0 hcn
    go_enter Tryz.func139, Tryz.ntmps139
    go_upto_region 2 with fail
    rw [← hw0]
    clear hw0
    obtain ⟨c0, c1, c2, c3, c4, c5, c6⟩ := cel7N HCN.out
    go_wp2_with fail
    refine HR.out.mono ?_
    rintro e w1 ⟨rfl, hb1⟩
    go_wp2
    go_ret2
    exact ⟨rfl, HB0.out.trans (hb1.mono HB0.out.size)⟩
end Go.Proofs.YtoldppbakapohaaGreatDoor.Xw
end
