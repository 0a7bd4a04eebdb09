/- What boarderref08's Good and Get come to. -/
import Derived.Test.YtmgecfbfabhghaaDwRf3
set_option maxRecDepth 8000
namespace Go.Proofs.Ytmgecfbfabhghaa.Dw
open Go.RowKit By Dk

theorem ret_good {fn : Func} {p : Tmp} (hres : fn.results = #[.cell p 31]) (tmps : Array Value) (w : World) (g : Nat) (cs : Array Value) (hp : tmps.getD p undef = .pointer (some ⟨g, 0, none⟩)) (hc : Cel w g 31 cs) (hs : cs.size = 3) :
    (results fn tmps).run Try.prog w = .ok (.agg cs) w := results_cell_row hres tmps w g _ cs (0, 0) _ hp hc Try.underlying31 rfl (by rw [hs]; kernel_rfl)
set_option maxHeartbeats 1000000 in
theorem refGood_any (U : Nat) (x : Dv) (w : World) (h : RdD U w x) (hU : U ≤ w.heap.size) (hsm : Sm x.d) :
    Calls Try.prog 15 #[x.v] w (VaR U w x) := by
  obtain ⟨w1, hw1⟩ : ∃ w1, w1 = (w.alloc (.cells x.cs 31)).alloc (.cells #[.slice none 0 0, .slice none 0 0, .slice none 0 0] 31) := ⟨_, rfl⟩
  have hb1 : Below w.heap.size w w1 := by rw [hw1]; exact ((Below.refl _ _).alloc (Nat.le_refl _) _).alloc (by simp) _
  have hc1 : Cel w1 w.heap.size 31 x.cs := by rw [hw1]; exact (Cel.born w _ _).below ((Below.refl _ _).alloc (Nat.le_refl _) _) (by simp)
  have hc2 : Cel w1 (w.heap.size + 1) 31 #[.slice none 0 0, .slice none 0 0, .slice none 0 0] := by
    rw [hw1]
    have := Cel.born (w.alloc (.cells x.cs 31)) 31 #[.slice none 0 0, .slice none 0 0, .slice none 0 0]
    simpa using this
  have HRI := Lib.hid (refRight_any x w1 ((h.below (hb1.mono hU)).mono (Nat.le_trans hU hb1.size)) hsm)
  have HR := Lib.hid h
  have HB1 := Lib.hid hb1
  have HC1 := Lib.hid hc1
  have HC2 := Lib.hid hc2
  clear h hb1 hc1 hc2 hsm
  go_enter Try.func15, Try.ntmps15
  go_wp2_with fail
  rw [← hw1]
  clear hw1
  refine HRI.out.mono ?_
  rintro e w2 ⟨rfl, hb2⟩
  have hb02 := Lib.hid (HB1.out.trans (hb2.mono HB1.out.size))
  have hk1 := HC1.out.below hb2 HC1.out.lt
  have hk2 := HC2.out.below hb2 HC2.out.lt
  obtain ⟨r0, r1, r2⟩ := cel3 hk1
  obtain ⟨q0, q1, q2⟩ := cel3 hk2
  have f0 := cel_fr hk2 0
  have f1 := cel_fr hk2 1
  have f2 := cel_fr hk2 2
  have HK2 := Lib.hid hk2
  clear hk1 hk2 hb2
  by_cases hr : RightD x.d
  · have hd : decide (RightD x.d) = true := decide_eq_true hr
    have HG := Lib.hid (good_of hr)
    rw [hd]
    clear hd hr
    go_wp2
    (try simp only [Exit.inBlock, Exit.then])
    refine bodyPost_ret (ret_good rfl _ _ (w.heap.size + 1) x.cs rfl (cel_put3 HK2.out) rfl) rfl ?_
    have hb := below_put3 hb02.out (show w.heap.size ≤ w.heap.size + 1 by omega) (.slice x.fA x.fn x.fc) (.slice x.nA x.nn x.nc) (.slice x.kA x.kn x.kc)
    exact ⟨x, rfl, HG.out.symm, HR.out.below (hb.mono hU), hb⟩
  · have hd : decide (RightD x.d) = false := decide_eq_false hr
    have HG : Hid (goodD x.d = zeroD) := if_neg hr
    rw [hd]
    clear hd hr
    go_wp2
    (try simp only [Exit.inBlock, Exit.then])
    refine bodyPost_ret (ret_good rfl _ _ (w.heap.size + 1) zeroV.cs rfl (cel_put3 HK2.out) rfl) rfl ?_
    have hb := below_put3 hb02.out (show w.heap.size ≤ w.heap.size + 1 by omega) (.slice none 0 0) (.slice none 0 0) (.slice none 0 0)
    exact ⟨zeroV, rfl, HG.out.symm, RdD.zero _ _, hb⟩

set_option maxHeartbeats 1000000 in
theorem refGet_any (x : Dv) (t : N) (w : World) (h : RdD w.heap.size w x) (hsm : Sm x.d) :
    Calls Try.prog 13 #[x.v, .string (ba t)] w (GeR w (getK x.d t)) := by
  obtain ⟨w1, hw1⟩ : ∃ w1, w1 = w.alloc (.cells x.cs 31) := ⟨_, rfl⟩
  have hb1 : Below w.heap.size w w1 := by rw [hw1]; exact (Below.refl _ _).alloc (Nat.le_refl _) _
  have hc1 : Cel w1 w.heap.size 31 x.cs := by rw [hw1]; exact Cel.born w _ _
  have HV := Lib.hid (refGood_any w.heap.size x w1 (h.below hb1) hb1.size hsm)
  have HB1 := Lib.hid hb1
  have HC1 := Lib.hid hc1
  clear h hb1 hsm hc1
  go_enter Try.func13, Try.ntmps13
  go_wp2_with fail
  rw [← hw1]
  clear hw1
  refine HV.out.mono ?_
  rintro e w2 ⟨y, rfl, hy, hry, hb2⟩
  have hb02 := Lib.hid (HB1.out.trans (hb2.mono HB1.out.size))
  have HY := Lib.hid hy
  have hk1 := HC1.out.below hb2 HC1.out.lt
  obtain ⟨r0, r1, r2⟩ := cel3 hk1
  have f0 := cel_fr hk1 0
  have f1 := cel_fr hk1 1
  have f2 := cel_fr hk1 2
  have HC3 := Lib.hid (cel_put3 (a' := .slice y.fA y.fn y.fc) (b' := .slice y.nA y.nn y.nc) (c' := .slice y.kA y.kn y.kc) hk1)
  have HB3 := Lib.hid (below_put3 hb02.out (Nat.le_refl _) (.slice y.fA y.fn y.fc) (.slice y.nA y.nn y.nc) (.slice y.kA y.kn y.kc))
  have hr3 := hry.below (below_put3 (Below.refl w.heap.size w2) (Nat.le_refl _) (.slice y.fA y.fn y.fc) (.slice y.nA y.nn y.nc) (.slice y.kA y.kn y.kc))
  obtain ⟨w3, hw3⟩ : ∃ w3, w3 = (((w2.setCell ⟨w.heap.size, 0, none⟩ (.slice y.fA y.fn y.fc)).setCell ⟨w.heap.size, 1, none⟩ (.slice y.nA y.nn y.nc)).setCell ⟨w.heap.size, 2, none⟩ (.slice y.kA y.kn y.kc)) := ⟨_, rfl⟩
  rw [← hw3] at HC3 HB3 hr3
  have HFO := Lib.hid (refFind_any w.heap.size y.nA y.nn y.nc y.now t w3 hr3.n)
  have HR3 := Lib.hid hr3
  clear hry hb2 hk1 hr3
  go_wp2_with fail
  rw [← hw3]
  clear hw3
  refine HFO.out.mono ?_
  rintro e w4 ⟨rfl, hw4⟩
  subst hw4
  have hb4 := Below.refl w3.heap.size w3
  have HB4 := Lib.hid (HB3.out.trans (hb4.mono HB3.out.size))
  cases hf : findE y.now t with
  | none =>
    have H : Hid (getK x.d t = ([], 5)) := by
      show getK _ _ = _
      unfold getK
      rw [← HY.out, show y.d.now = y.now from rfl, hf]
    clear hb4
    rw [show fiV none = -1 from rfl]
    go_wp2
    go_ret2
    exact ⟨none, 0, 0, by rw [H.out]; rfl, by rw [H.out]; exact Bs.nil _, HB4.out⟩
  | some f =>
    have hrd : RightD y.d := by rw [HY.out]; exact good_right _
    obtain ⟨g0, g1⟩ := find_range hrd (show findE y.d.now t = some f from hf)
    obtain ⟨k, rfl⟩ := Int.eq_ofNat_of_zero_le g0
    have hfl : y.d.fs.length = y.fn := by show (fsOf y.xs).length = _; rw [fs_len, HR3.out.f.len]
    rw [hfl] at g1
    have hk : k < y.fn := by omega
    have hmx := HR3.out.f.max
    have hcp := HR3.out.f.cap
    have hrf := HR3.out.f.below (hb4.mono HB3.out.size)
    obtain ⟨b, o, v, eA, _, HE, hbs, c1, c2⟩ := atF hrf hk
    have r4 : w3.cell? ⟨w.heap.size, 0, none⟩ = some (.slice (some ⟨b, o, none⟩) y.fn y.fc) := by rw [← eA]; exact (cel3 (HC3.out.below hb4 HC3.out.lt)).1
    have H : Hid (getK x.d t = (v.l, 0)) := by
      show getK _ _ = _
      unfold getK
      rw [← HY.out, show y.d.now = y.now from rfl, hf]
      simp only
      rw [fileAt_get g0 (by simpa using HE.out)]
      rfl
    have HBS := Lib.hid hbs
    clear hb4 hrf hbs c2 HE hf hrd hfl
    rw [show fiV (some (k : Int)) = (k : Int) from rfl]
    go_wp2
    go_ret2
    exact ⟨v.A, v.l.length, v.c, by rw [H.out]; rfl, by rw [H.out]; exact HBS.out.bs, HB4.out⟩
end Go.Proofs.Ytmgecfbfabhghaa.Dw
