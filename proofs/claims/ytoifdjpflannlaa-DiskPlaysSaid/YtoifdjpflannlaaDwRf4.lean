/- What boarderref08's Good and Get come to. -/
import Derived.Test.YtoifdjpflannlaaDwRf3
set_option maxRecDepth 8000
namespace Go.Proofs.Ytoifdjpflannlaa.Dw
open Go.RowKit By Dk

theorem ret_good {fn : Func} {p : Tmp} (hres : fn.results = #[.cell p 32]) (tmps : Array Value) (w : World) (g : Nat) (cs : Array Value) (hp : tmps.getD p undef = .pointer (some ⟨g, 0, none⟩)) (hc : Cel w g 32 cs) (hs : cs.size = 3) :
    (results fn tmps).run Try.prog w = .ok (.agg cs) w := results_cell_row hres tmps w g _ cs (0, 0) _ hp hc Try.underlying32 rfl (by rw [hs]; kernel_rfl)
set_option maxHeartbeats 1000000 in
theorem refGood_any (U : Nat) (x : Dv) (w : World) (h : RdD U w x) (hU : U ≤ w.heap.size) (hsm : Sm x.d) :
    Calls Try.prog 66 #[x.v] w (VaR U w x) := by
  obtain ⟨w1, hw1⟩ : ∃ w1, w1 = (w.alloc (.cells x.cs 32)).alloc (.cells #[.slice none 0 0, .slice none 0 0, .slice none 0 0] 32) := ⟨_, rfl⟩
  have hb1 : Below w.heap.size w w1 := by rw [hw1]; exact ((Below.refl _ _).alloc (Nat.le_refl _) _).alloc (by simp) _
  have hc1 : Cel w1 w.heap.size 32 x.cs := by rw [hw1]; exact (Cel.born w _ _).below ((Below.refl _ _).alloc (Nat.le_refl _) _) (by simp)
  have hc2 : Cel w1 (w.heap.size + 1) 32 #[.slice none 0 0, .slice none 0 0, .slice none 0 0] := by
    rw [hw1]
    have := Cel.born (w.alloc (.cells x.cs 32)) 32 #[.slice none 0 0, .slice none 0 0, .slice none 0 0]
    simpa using this
  have HRI := Lib.hid (refRight_any x w1 ((h.below (hb1.mono hU)).mono (Nat.le_trans hU hb1.size)) hsm)
  have HR := Lib.hid h
  have HB1 := Lib.hid hb1
  have HC1 := Lib.hid hc1
  have HC2 := Lib.hid hc2
  clear h hb1 hc1 hc2 hsm
  go_enter Try.func66, Try.ntmps66
  go_wp2_with fail
  rw [← hw1]
  clear hw1
  refine HRI.out.mono ?_
  rintro e w2 ⟨rfl, hb2⟩
  have hb02 := Lib.hid (HB1.out.trans (hb2.mono HB1.out.size))
  have hk1 := HC1.out.below hb2 HC1.out.lt
  have hk2 := HC2.out.below hb2 HC2.out.lt
  obtain ⟨r0, r1, r2⟩ := cel3 hk1
  obtain ⟨q0, q1, q2⟩ := cel3 hk2
  have f0 := cel_fr hk2 0
  have f1 := cel_fr hk2 1
  have f2 := cel_fr hk2 2
  have HK2 := Lib.hid hk2
  clear hk1 hk2 hb2
  by_cases hr : RightD x.d
  · have hd : decide (RightD x.d) = true := decide_eq_true hr
    have HG := Lib.hid (good_of hr)
    rw [hd]
    clear hd hr
    go_wp2
    (try simp only [Exit.inBlock, Exit.then])
    refine bodyPost_ret (ret_good rfl _ _ (w.heap.size + 1) x.cs rfl (cel_put3 HK2.out) rfl) rfl ?_
    have hb := below_put3 hb02.out (show w.heap.size ≤ w.heap.size + 1 by omega) (.slice x.fA x.fn x.fc) (.slice x.nA x.nn x.nc) (.slice x.kA x.kn x.kc)
    exact ⟨x, rfl, HG.out.symm, HR.out.below (hb.mono hU), hb⟩
  · have hd : decide (RightD x.d) = false := decide_eq_false hr
    have HG : Hid (goodD x.d = zeroD) := if_neg hr
    rw [hd]
    clear hd hr
    go_wp2
    (try simp only [Exit.inBlock, Exit.then])
    refine bodyPost_ret (ret_good rfl _ _ (w.heap.size + 1) zeroV.cs rfl (cel_put3 HK2.out) rfl) rfl ?_
    have hb := below_put3 hb02.out (show w.heap.size ≤ w.heap.size + 1 by omega) (.slice none 0 0) (.slice none 0 0) (.slice none 0 0)
    exact ⟨zeroV, rfl, HG.out.symm, RdD.zero _ _, hb⟩

end Go.Proofs.Ytoifdjpflannlaa.Dw
