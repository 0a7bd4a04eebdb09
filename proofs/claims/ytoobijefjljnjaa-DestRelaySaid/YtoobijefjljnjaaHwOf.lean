/- What dest.Of, and the document's own, come to. No conditions. -/
import Derived.Test.YtoobijefjljnjaaClMath
import Derived.Test.YtoobijefjljnjaaPwBox
import Derived.Test.YtoobijefjljnjaaMwCel
import Derived.Deep.RegionHeld3
import Derived.Deep.Cut
set_option maxRecDepth 8000
namespace Go.Proofs.Ytoobijefjljnjaa.Hw
open Go.RowKit Go.ChangeMaps Tl Co Ms By Cl
open Pw (boxM celM_all alloc_more)
open Mw (Cel.set Cel.frozen)

section
variable {w v : World} {g B : Nat} {t : TypeId} {a b c a' b' c' : Value}
theorem celK3 (h : Cel w g t #[a, b, c]) : w.cell? ⟨g, 0, none⟩ = some a ∧ w.cell? ⟨g, 1, none⟩ = some b ∧ w.cell? ⟨g, 2, none⟩ = some c := ⟨by rw [h.cell]; rfl, by rw [h.cell]; rfl, by rw [h.cell]; rfl⟩
theorem celFr3 (h : Cel w g t #[a, b, c]) : w.frozen? ⟨g, 0, none⟩ = false ∧ w.frozen? ⟨g, 1, none⟩ = false ∧ w.frozen? ⟨g, 2, none⟩ = false := ⟨Cel.frozen h 0, Cel.frozen h 1, Cel.frozen h 2⟩
theorem celPut3 (h : Cel w g t #[a', b', c']) : Cel (((w.setCell ⟨g, 0, none⟩ a).setCell ⟨g, 1, none⟩ b).setCell ⟨g, 2, none⟩ c) g t #[a, b, c] := Cel.set (Cel.set (Cel.set h 0 a) 1 b) 2 c
theorem belowPut3 (h : Below B v w) (hg : B ≤ g) (a b c : Value) : Below B v (((w.setCell ⟨g, 0, none⟩ a).setCell ⟨g, 1, none⟩ b).setCell ⟨g, 2, none⟩ c) :=
  ((h.setCell (p := ⟨g, 0, none⟩) hg _).setCell (p := ⟨g, 1, none⟩) hg _).setCell (p := ⟨g, 2, none⟩) hg _
end
/-- A destination by value. -/
def dsC (d : Int × Int × Bool) : Array Value := #[.int .i64 d.1, .int .i64 d.2.1, .bool d.2.2]
def DsR (d : Int × Int × Bool) (w : World) (e : Ending) (w' : World) : Prop := e = .returned (.agg (dsC d)) ∧ Below w.heap.size w w'
theorem two (w : World) (x : Mv) (t u : TypeId) : ∃ w0, w0 = (w.alloc (.cells x.cells t)).alloc (.cells #[.int .i64 0, .int .i64 0, .bool false] u) ∧ Cel w0 w.heap.size t x.cells ∧ Cel w0 (w.heap.size + 1) u #[.int .i64 0, .int .i64 0, .bool false] ∧ Below w.heap.size w w0 := by
  have c0 := Cel.born w t x.cells
  have c1 := Cel.born (w.alloc (.cells x.cells t)) u #[.int .i64 0, .int .i64 0, .bool false]
  have b1 := alloc_more (w.alloc (.cells x.cells t)) (.cells #[.int .i64 0, .int .i64 0, .bool false] u)
  have hz : (w.alloc (.cells x.cells t)).heap.size = w.heap.size + 1 := by simp
  refine ⟨_, rfl, c0.below b1 c0.lt, ?_, (alloc_more w _).trans (b1.mono (by omega))⟩
  rw [hz] at c1
  exact c1
theorem ret_dest {fn : Func} {p : Tmp} (hres : fn.results = #[.cell p 29]) (tmps : Array Value) (w : World) (g : Nat) (cs : Array Value) (hp : tmps.getD p undef = .pointer (some ⟨g, 0, none⟩)) (hc : Cel w g 29 cs) (hs : cs.size = 3) :
    (results fn tmps).run Try.prog w = .ok (.agg cs) w := results_cell_row hres tmps w g _ cs (0, 0) _ hp hc Try.underlying29 rfl (by rw [hs]; kernel_rfl)
theorem ret_rdest {fn : Func} {p : Tmp} (hres : fn.results = #[.cell p 31]) (tmps : Array Value) (w : World) (g : Nat) (cs : Array Value) (hp : tmps.getD p undef = .pointer (some ⟨g, 0, none⟩)) (hc : Cel w g 31 cs) (hs : cs.size = 3) :
    (results fn tmps).run Try.prog w = .ok (.agg cs) w := results_cell_row hres tmps w g _ cs (0, 0) _ hp hc Try.underlying31 rfl (by rw [hs]; kernel_rfl)
def bcast (f : Int) : Bool := decide (32768 ≤ f) && decide (f ≤ 65535)
theorem bcast_iff (f : Int) : bcast f = true ↔ 32768 ≤ f ∧ f ≤ 65535 := by unfold bcast; simp
theorem bcast_cases (f : Int) : (bcast f = true ∧ decide (32768 ≤ f) = true ∧ decide (f ≤ 65535) = true) ∨ (bcast f = false ∧ decide (32768 ≤ f) = false) ∨ (bcast f = false ∧ decide (32768 ≤ f) = true ∧ decide (f ≤ 65535) = false) := by
  unfold bcast
  cases decide (32768 ≤ f) <;> cases decide (f ≤ 65535) <;> simp
theorem dest_eq (m : M) (kd yi : Int) : destL m kd yi = if (m.gi != 0) = true then (m.gi, 67, false) else if (kd == 6) = true then (4294967295, 68, false) else if (m.ci != 0) = true then (m.ci, 68, false) else
    if bcast m.flags = true then (4294967295, 68, false) else (yi, 68, true) := by
  unfold destL
  simp only [bne_iff_ne, beq_iff_eq, bcast_iff]

set_option maxHeartbeats 1000000 in
theorem broadcast_any (x : Mv) (w : World) : Calls Try.prog 12 #[x.v] w fun e w' => e = .returned (.bool (bcast x.flags)) ∧ Below w.heap.size w w' := by
  obtain ⟨w0, hw0, hc0, hb0, hz⟩ := boxM w x 25
  have HB := Lib.hid hb0
  obtain ⟨⟨m0, m1, m2, m3, m4, m5, m6⟩, m7, m8, m9, m10, m11, m12⟩ := celM_all hc0
  clear hb0 hc0 hz
  rcases bcast_cases x.flags with ⟨hf, h1, h2⟩ | ⟨hf, h1⟩ | ⟨hf, h1, h2⟩
  all_goals (
    rw [hf]
    clear hf
    go_enter Try.func12, Try.ntmps12
    go_upto_region 1 with fail
    rw [← hw0]
    clear hw0
    go_wp2
    go_ret
    exact ⟨rfl, HB.out⟩)

set_option maxHeartbeats 4000000 in
theorem of_any (x : Mv) (kd yi : Int) (w : World) : Calls Try.prog 8 #[x.v, .int .i64 kd, .int .i64 yi] w (DsR (destL x.mm kd yi) w) := by
  obtain ⟨w0, hw0, hc0, hd0, hb0⟩ := two w x 25 29
  have HR := Lib.hid (dest_eq x.mm kd yi)
  rw [show x.mm.gi = x.gi from rfl, show x.mm.ci = x.ci from rfl, show x.mm.flags = x.flags from rfl] at HR
  generalize destL x.mm kd yi = t at HR ⊢
  have HB := Lib.hid hb0
  have HM := Lib.hid hc0
  have HD := Lib.hid hd0
  have HX := Lib.hid (fun W (hW : Below w0.heap.size w0 W) => hb0.trans (hW.mono hb0.size))
  clear hb0 hc0 hd0
  cases h1 : (x.gi != 0) with
  | true =>
    have HT : Hid (t = (x.gi, 67, false)) := by have := HR.out; rw [if_pos h1] at this; exact this
    clear HR
    obtain ⟨⟨m0, m1, m2, m3, m4, m5, m6⟩, m7, m8, m9, m10, m11, m12⟩ := celM_all HM.out
    obtain ⟨d0, d1, d2⟩ := celK3 HD.out
    obtain ⟨f0, f1, f2⟩ := celFr3 HD.out
    go_enter Try.func8, Try.ntmps8
    go_upto_region 1 with fail
    rw [← hw0]
    clear hw0
    go_wp2
    (try simp only [Exit.inBlock, Exit.then])
    refine bodyPost_ret (ret_dest rfl _ _ (w.heap.size + 1) _ rfl (celPut3 HD.out) rfl) rfl ?_
    exact ⟨by rw [HT.out]; rfl, belowPut3 HB.out (by omega) _ _ _⟩
  | false =>
  cases h2 : (kd == 6) with
  | true =>
    have HT : Hid (t = (4294967295, 68, false)) := by have := HR.out; rw [if_neg (by rw [h1]; exact Bool.false_ne_true), if_pos h2] at this; exact this
    clear HR
    obtain ⟨⟨m0, m1, m2, m3, m4, m5, m6⟩, m7, m8, m9, m10, m11, m12⟩ := celM_all HM.out
    obtain ⟨d0, d1, d2⟩ := celK3 HD.out
    obtain ⟨f0, f1, f2⟩ := celFr3 HD.out
    go_enter Try.func8, Try.ntmps8
    go_upto_region 1 with fail
    rw [← hw0]
    clear hw0
    go_wp2
    (try simp only [Exit.inBlock, Exit.then])
    refine bodyPost_ret (ret_dest rfl _ _ (w.heap.size + 1) _ rfl (celPut3 HD.out) rfl) rfl ?_
    exact ⟨by rw [HT.out]; rfl, belowPut3 HB.out (by omega) _ _ _⟩
  | false =>
  cases h3 : (x.ci != 0) with
  | true =>
    have HT : Hid (t = (x.ci, 68, false)) := by have := HR.out; rw [if_neg (by rw [h1]; exact Bool.false_ne_true), if_neg (by rw [h2]; exact Bool.false_ne_true), if_pos h3] at this; exact this
    clear HR
    have h4 : (x.ci == 0) = false := by simpa using h3
    obtain ⟨⟨m0, m1, m2, m3, m4, m5, m6⟩, m7, m8, m9, m10, m11, m12⟩ := celM_all HM.out
    obtain ⟨d0, d1, d2⟩ := celK3 HD.out
    obtain ⟨f0, f1, f2⟩ := celFr3 HD.out
    go_enter Try.func8, Try.ntmps8
    go_upto_region 1 with fail
    rw [← hw0]
    clear hw0
    go_wp2
    (try simp only [Exit.inBlock, Exit.then])
    refine bodyPost_ret (ret_dest rfl _ _ (w.heap.size + 1) _ rfl (celPut3 HD.out) rfl) rfl ?_
    exact ⟨by rw [HT.out]; rfl, belowPut3 HB.out (by omega) _ _ _⟩
  | false =>
  have h4 : (x.ci == 0) = true := by simpa using h3
  have HC := Lib.hid (broadcast_any x)
  cases hf : bcast x.flags with
  | true =>
    have HT : Hid (t = (4294967295, 68, false)) := by have := HR.out; rw [if_neg (by rw [h1]; exact Bool.false_ne_true), if_neg (by rw [h2]; exact Bool.false_ne_true), if_neg (by rw [h3]; exact Bool.false_ne_true), if_pos hf] at this; exact this
    clear HR
    rw [hf] at HC
    clear hf
    obtain ⟨⟨m0, m1, m2, m3, m4, m5, m6⟩, m7, m8, m9, m10, m11, m12⟩ := celM_all HM.out
    obtain ⟨d0, d1, d2⟩ := celK3 HD.out
    obtain ⟨f0, f1, f2⟩ := celFr3 HD.out
    go_enter Try.func8, Try.ntmps8
    go_upto_region 1 with fail
    rw [← hw0]
    clear hw0
    go_wp2_with fail
    refine (HC.out _).mono ?_
    rintro e w1 ⟨rfl, hb1⟩
    have hbk : Below w0.heap.size w0 w1 := by first | exact hb1 | exact (Below.refl _ _).drew.trans (hb1.mono (Below.refl _ _).drew.size)
    have HD1 := Lib.hid (HD.out.below hbk HD.out.lt)
    have HB1 := Lib.hid (HX.out _ hbk)
    have HM1 := Lib.hid (HM.out.below hbk HM.out.lt)
    clear hb1 hbk m0 m1 m2 m3 m4 m5 m6 m7 m8 m9 m10 m11 m12 d0 d1 d2 f0 f1 f2
    obtain ⟨⟨m0, m1, m2, m3, m4, m5, m6⟩, m7, m8, m9, m10, m11, m12⟩ := celM_all HM1.out
    obtain ⟨d0, d1, d2⟩ := celK3 HD1.out
    obtain ⟨f0, f1, f2⟩ := celFr3 HD1.out
    go_wp2
    (try simp only [Exit.inBlock, Exit.then])
    refine bodyPost_ret (ret_dest rfl _ _ (w.heap.size + 1) _ rfl (celPut3 HD1.out) rfl) rfl ?_
    exact ⟨by rw [HT.out]; rfl, belowPut3 HB1.out (by omega) _ _ _⟩
  | false =>
    have HT : Hid (t = (yi, 68, true)) := by have := HR.out; rw [if_neg (by rw [h1]; exact Bool.false_ne_true), if_neg (by rw [h2]; exact Bool.false_ne_true), if_neg (by rw [h3]; exact Bool.false_ne_true), if_neg (by rw [hf]; exact Bool.false_ne_true)] at this; exact this
    clear HR
    rw [hf] at HC
    clear hf
    obtain ⟨⟨m0, m1, m2, m3, m4, m5, m6⟩, m7, m8, m9, m10, m11, m12⟩ := celM_all HM.out
    obtain ⟨d0, d1, d2⟩ := celK3 HD.out
    obtain ⟨f0, f1, f2⟩ := celFr3 HD.out
    go_enter Try.func8, Try.ntmps8
    go_upto_region 1 with fail
    rw [← hw0]
    clear hw0
    go_wp2_with fail
    refine (HC.out _).mono ?_
    rintro e w1 ⟨rfl, hb1⟩
    have hbk : Below w0.heap.size w0 w1 := by first | exact hb1 | exact (Below.refl _ _).drew.trans (hb1.mono (Below.refl _ _).drew.size)
    have HD1 := Lib.hid (HD.out.below hbk HD.out.lt)
    have HB1 := Lib.hid (HX.out _ hbk)
    have HM1 := Lib.hid (HM.out.below hbk HM.out.lt)
    clear hb1 hbk m0 m1 m2 m3 m4 m5 m6 m7 m8 m9 m10 m11 m12 d0 d1 d2 f0 f1 f2
    obtain ⟨⟨m0, m1, m2, m3, m4, m5, m6⟩, m7, m8, m9, m10, m11, m12⟩ := celM_all HM1.out
    obtain ⟨d0, d1, d2⟩ := celK3 HD1.out
    obtain ⟨f0, f1, f2⟩ := celFr3 HD1.out
    go_wp2
    (try simp only [Exit.inBlock, Exit.then])
    refine bodyPost_ret (ret_dest rfl _ _ (w.heap.size + 1) _ rfl (celPut3 HD1.out) rfl) rfl ?_
    exact ⟨by rw [HT.out]; rfl, belowPut3 HB1.out (by omega) _ _ _⟩

set_option maxHeartbeats 4000000 in
theorem refOf_any (x : Mv) (kd yi : Int) (w : World) : Calls Try.prog 9 #[x.v, .int .i64 kd, .int .i64 yi] w (DsR (destL x.mm kd yi) w) := by
  obtain ⟨w0, hw0, hc0, hd0, hb0⟩ := two w x 33 31
  have HR := Lib.hid (dest_eq x.mm kd yi)
  rw [show x.mm.gi = x.gi from rfl, show x.mm.ci = x.ci from rfl, show x.mm.flags = x.flags from rfl] at HR
  generalize destL x.mm kd yi = t at HR ⊢
  have HB := Lib.hid hb0
  have HM := Lib.hid hc0
  have HD := Lib.hid hd0
  have HX := Lib.hid (fun W (hW : Below w0.heap.size w0 W) => hb0.trans (hW.mono hb0.size))
  clear hb0 hc0 hd0
  cases h1 : (x.gi != 0) with
  | true =>
    have HT : Hid (t = (x.gi, 67, false)) := by have := HR.out; rw [if_pos h1] at this; exact this
    clear HR
    obtain ⟨⟨m0, m1, m2, m3, m4, m5, m6⟩, m7, m8, m9, m10, m11, m12⟩ := celM_all HM.out
    obtain ⟨d0, d1, d2⟩ := celK3 HD.out
    obtain ⟨f0, f1, f2⟩ := celFr3 HD.out
    go_enter Try.func9, Try.ntmps9
    go_upto_region 1 with fail
    rw [← hw0]
    clear hw0
    go_wp2
    (try simp only [Exit.inBlock, Exit.then])
    refine bodyPost_ret (ret_rdest rfl _ _ (w.heap.size + 1) _ rfl (celPut3 HD.out) rfl) rfl ?_
    exact ⟨by rw [HT.out]; rfl, belowPut3 HB.out (by omega) _ _ _⟩
  | false =>
  cases h2 : (kd == 6) with
  | true =>
    have HT : Hid (t = (4294967295, 68, false)) := by have := HR.out; rw [if_neg (by rw [h1]; exact Bool.false_ne_true), if_pos h2] at this; exact this
    clear HR
    obtain ⟨⟨m0, m1, m2, m3, m4, m5, m6⟩, m7, m8, m9, m10, m11, m12⟩ := celM_all HM.out
    obtain ⟨d0, d1, d2⟩ := celK3 HD.out
    obtain ⟨f0, f1, f2⟩ := celFr3 HD.out
    go_enter Try.func9, Try.ntmps9
    go_upto_region 1 with fail
    rw [← hw0]
    clear hw0
    go_wp2
    (try simp only [Exit.inBlock, Exit.then])
    refine bodyPost_ret (ret_rdest rfl _ _ (w.heap.size + 1) _ rfl (celPut3 HD.out) rfl) rfl ?_
    exact ⟨by rw [HT.out]; rfl, belowPut3 HB.out (by omega) _ _ _⟩
  | false =>
  cases h3 : (x.ci != 0) with
  | true =>
    have HT : Hid (t = (x.ci, 68, false)) := by have := HR.out; rw [if_neg (by rw [h1]; exact Bool.false_ne_true), if_neg (by rw [h2]; exact Bool.false_ne_true), if_pos h3] at this; exact this
    clear HR
    obtain ⟨⟨m0, m1, m2, m3, m4, m5, m6⟩, m7, m8, m9, m10, m11, m12⟩ := celM_all HM.out
    obtain ⟨d0, d1, d2⟩ := celK3 HD.out
    obtain ⟨f0, f1, f2⟩ := celFr3 HD.out
    go_enter Try.func9, Try.ntmps9
    go_upto_region 1 with fail
    rw [← hw0]
    clear hw0
    go_wp2
    (try simp only [Exit.inBlock, Exit.then])
    refine bodyPost_ret (ret_rdest rfl _ _ (w.heap.size + 1) _ rfl (celPut3 HD.out) rfl) rfl ?_
    exact ⟨by rw [HT.out]; rfl, belowPut3 HB.out (by omega) _ _ _⟩
  | false =>
  rcases bcast_cases x.flags with ⟨hf, h5, h6⟩ | ⟨hf, h5⟩ | ⟨hf, h5, h6⟩
  · have HT : Hid (t = (4294967295, 68, false)) := by have := HR.out; rw [if_neg (by rw [h1]; exact Bool.false_ne_true), if_neg (by rw [h2]; exact Bool.false_ne_true), if_neg (by rw [h3]; exact Bool.false_ne_true), if_pos hf] at this; exact this
    clear HR hf
    obtain ⟨⟨m0, m1, m2, m3, m4, m5, m6⟩, m7, m8, m9, m10, m11, m12⟩ := celM_all HM.out
    obtain ⟨d0, d1, d2⟩ := celK3 HD.out
    obtain ⟨f0, f1, f2⟩ := celFr3 HD.out
    go_enter Try.func9, Try.ntmps9
    go_upto_region 1 with fail
    rw [← hw0]
    clear hw0
    go_wp2
    (try simp only [Exit.inBlock, Exit.then])
    refine bodyPost_ret (ret_rdest rfl _ _ (w.heap.size + 1) _ rfl (celPut3 HD.out) rfl) rfl ?_
    exact ⟨by rw [HT.out]; rfl, belowPut3 HB.out (by omega) _ _ _⟩
  · have HT : Hid (t = (yi, 68, true)) := by have := HR.out; rw [if_neg (by rw [h1]; exact Bool.false_ne_true), if_neg (by rw [h2]; exact Bool.false_ne_true), if_neg (by rw [h3]; exact Bool.false_ne_true), if_neg (by rw [hf]; exact Bool.false_ne_true)] at this; exact this
    clear HR hf
    obtain ⟨⟨m0, m1, m2, m3, m4, m5, m6⟩, m7, m8, m9, m10, m11, m12⟩ := celM_all HM.out
    obtain ⟨d0, d1, d2⟩ := celK3 HD.out
    obtain ⟨f0, f1, f2⟩ := celFr3 HD.out
    go_enter Try.func9, Try.ntmps9
    go_upto_region 1 with fail
    rw [← hw0]
    clear hw0
    go_wp2
    (try simp only [Exit.inBlock, Exit.then])
    refine bodyPost_ret (ret_rdest rfl _ _ (w.heap.size + 1) _ rfl (celPut3 HD.out) rfl) rfl ?_
    exact ⟨by rw [HT.out]; rfl, belowPut3 HB.out (by omega) _ _ _⟩
  · have HT : Hid (t = (yi, 68, true)) := by have := HR.out; rw [if_neg (by rw [h1]; exact Bool.false_ne_true), if_neg (by rw [h2]; exact Bool.false_ne_true), if_neg (by rw [h3]; exact Bool.false_ne_true), if_neg (by rw [hf]; exact Bool.false_ne_true)] at this; exact this
    clear HR hf
    obtain ⟨⟨m0, m1, m2, m3, m4, m5, m6⟩, m7, m8, m9, m10, m11, m12⟩ := celM_all HM.out
    obtain ⟨d0, d1, d2⟩ := celK3 HD.out
    obtain ⟨f0, f1, f2⟩ := celFr3 HD.out
    go_enter Try.func9, Try.ntmps9
    go_upto_region 1 with fail
    rw [← hw0]
    clear hw0
    go_wp2
    (try simp only [Exit.inBlock, Exit.then])
    refine bodyPost_ret (ret_rdest rfl _ _ (w.heap.size + 1) _ rfl (celPut3 HD.out) rfl) rfl ?_
    exact ⟨by rw [HT.out]; rfl, belowPut3 HB.out (by omega) _ _ _⟩

end Go.Proofs.Ytoobijefjljnjaa.Hw
