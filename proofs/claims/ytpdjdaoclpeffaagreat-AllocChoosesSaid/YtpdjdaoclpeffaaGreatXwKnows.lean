/- What boarderlaw15's Great and knows come to. Conditions: the configuration and the leases read; the keys fit. -/
import Derived.Test.YtpdjdaoclpeffaaGreatXwTop
import Derived.Test.YtpdjdaoclpeffaaGreatVwF
import Derived.Test.YtpdjdaoclpeffaaGreatBwB
import Derived.BigQuiet
import Derived.Deep.QuietTactic
set_option maxRecDepth 8000
namespace Go.Proofs.YtpdjdaoclpeffaaGreat.Xw
open Go.RowKit Co By Ky Rc Ew Jw La Tb Lw Cf Al Bw
open Vw (Cx RdPl layP atP FiR AdR KeR isI PlA plCx plCs plain_any cfP i01 ex_small cel3C)
open Dw (ba ba_size ba_data ba_list alloc_more)

/-- Is it more than is looked at? -/
def greatA (c : Cf) (t : List L) (k : List UInt8) : Bool := greatC c || (greatL t || decide (1000 < k.length))
theorem boxC1 (w : World) (x : Cx) : ∃ w0, w0 = w.alloc (.cells x.cs 24) ∧ Cel w0 w.heap.size 24 x.cs ∧ Below w.heap.size w w0 := ⟨_, rfl, Cel.born _ _ _, alloc_more _ _⟩
set_option maxHeartbeats 2000000 in
theorem great_any (x : Cx) (A : Option Addr) (n c U : Nat) (l : List L) (k : List UInt8) (w : World) (hx : x.ok U w) (h : RdLs U w A n c l) (hU : U ≤ w.heap.size) (hf : ∀ a ∈ l, Fk a) (hk : k.length ≤ 9223372036854775807) :
    Calls Tryz.prog 7 #[x.v, .slice A n c, .string (ba k)] w (isB (greatA x.cf l k) w) := by
  obtain ⟨w0, hw0, hc0, hb0⟩ := boxC1 w x
  have HC := Lib.hid (Vw.great_any x U w0 (hx.below (hb0.mono hU)) (Nat.le_trans hU hb0.size))
  have HT := Lib.hid (fun W (hW : Below w.heap.size w W) => Bw.greatT_any A n c U l W (h.below (hW.mono hU)) hf)
  have HB0 := Lib.hid hb0
  have HC0 := Lib.hid hc0
  have hkz : (ba k).size ≤ 9223372036854775807 := by rw [ba_size]; exact hk
  have HG : Hid (greatA x.cf l k = (greatC x.cf || (greatL l || decide (1000 < k.length)))) := rfl
  generalize greatA x.cf l k = g at HG ⊢
  clear hx h hU hf hk hb0 hc0
  cases hg : greatC x.cf with
  | true =>
    rw [hg] at HC HG
    have HF : Hid (g = true) := HG.out
    clear hg HG HT
    go_enter Tryz.func7, Tryz.ntmps7
    go_upto_region 1 with fail
    rw [← hw0]
    clear hw0
    obtain ⟨c0, c1, c2⟩ := cel3C HC0.out
    go_wp2_with fail
    refine HC.out.mono ?_
    rintro e w1 ⟨rfl, hb1⟩
    go_wp2
    go_ret
    exact ⟨ret_bool HF.out.symm, HB0.out.trans (hb1.mono HB0.out.size)⟩
  | false =>
    rw [hg] at HC HG
    cases ht : greatL l with
    | true =>
      rw [ht] at HT HG
      have HF : Hid (g = true) := HG.out
      clear hg ht HG
      go_enter Tryz.func7, Tryz.ntmps7
      go_upto_region 1 with fail
      rw [← hw0]
      clear hw0
      obtain ⟨c0, c1, c2⟩ := cel3C HC0.out
      go_wp2_with fail
      refine HC.out.mono ?_
      rintro e w1 ⟨rfl, hb1⟩
      have HB1 := Lib.hid (HB0.out.trans (hb1.mono HB0.out.size))
      go_wp2_with fail
      refine (HT.out _ HB1.out).mono ?_
      rintro e w2 ⟨rfl, rfl⟩
      go_wp2
      go_ret
      exact ⟨ret_bool HF.out.symm, HB1.out⟩
    | false =>
      rw [ht] at HT HG
      have HF : Hid (g = decide (((ba k).size : Int) > 1000)) := by
        show _ = _
        rw [HG.out, ba_size, Bool.false_or, Bool.false_or, decide_eq_decide]
        omega
      clear hg ht HG
      go_enter Tryz.func7, Tryz.ntmps7
      go_upto_region 1 with fail
      rw [← hw0]
      clear hw0
      obtain ⟨c0, c1, c2⟩ := cel3C HC0.out
      go_wp2_with fail
      refine HC.out.mono ?_
      rintro e w1 ⟨rfl, hb1⟩
      have HB1 := Lib.hid (HB0.out.trans (hb1.mono HB0.out.size))
      go_wp2_with fail
      refine (HT.out _ HB1.out).mono ?_
      rintro e w2 ⟨rfl, rfl⟩
      go_wp2
      go_ret
      exact ⟨ret_bool HF.out.symm, HB1.out⟩

/-! ### The document's examples -/
def i02 : List UInt8 := [105, 48, 50]
def exD (b : Nat) (k : List UInt8) : Nd := ⟨plCx b 167772170, none, 0, 0, [], 0, k, 5⟩
@[reducible] def cf3 (b : Nat) : Value := .agg #[.int .i64 167772161, .int .i64 300, .slice (some ⟨b + 5, 0, none⟩) 1 1]
theorem ex_c1 : chooseA (cfP 167772170) [] 0 i01 0 5 = (167772165, true) := by kernel_rfl
theorem ex_c2 : chooseA (cfP 167772170) [] 0 i02 0 5 = (167772170, true) := by kernel_rfl
theorem ex_c3 : chooseA (cfP 167772170) [] 0 i02 167772175 5 = (167772175, true) := by kernel_rfl
theorem ex_m1 : mayA (cfP 167772170) [] 0 i01 167772165 5 = true := by kernel_rfl
theorem ex_m2 : mayA (cfP 167772170) [] 0 i02 167772165 5 = false := by kernel_rfl
section
variable {W : World} {b U : Nat}
theorem exD_ok {k : List UInt8} (h : (plCx b 167772170).ok U W) (hk : k.length ≤ 9223372036854775807) : (exD b k).ok U W := ⟨h, RdG.nil _ _, (fun a ha => by cases ha), ex_small 167772170, hk⟩
theorem plX_c1 (h : (plCx b 167772170).ok U W) (hU : U ≤ W.heap.size) : Calls Tryz.prog 11 #[cf3 b, .slice none 0 0, .int .i64 0, .string ⟨#[105, 48, 49]⟩, .int .i64 0, .int .i64 5] W (AdR (167772165, true) W) := by
  have := Choose_any (exD b i01) 0 U W (exD_ok h (by decide)) hU (by omega) (by omega)
  rw [show chooseA (exD b i01).x.cf (exD b i01).l (exD b i01).net (exD b i01).k 0 (exD b i01).now = (167772165, true) from ex_c1] at this
  exact this
theorem plX_c2 (h : (plCx b 167772170).ok U W) (hU : U ≤ W.heap.size) : Calls Tryz.prog 11 #[cf3 b, .slice none 0 0, .int .i64 0, .string ⟨#[105, 48, 50]⟩, .int .i64 0, .int .i64 5] W (AdR (167772170, true) W) := by
  have := Choose_any (exD b i02) 0 U W (exD_ok h (by decide)) hU (by omega) (by omega)
  rw [show chooseA (exD b i02).x.cf (exD b i02).l (exD b i02).net (exD b i02).k 0 (exD b i02).now = (167772170, true) from ex_c2] at this
  exact this
theorem plX_c3 (h : (plCx b 167772170).ok U W) (hU : U ≤ W.heap.size) : Calls Tryz.prog 11 #[cf3 b, .slice none 0 0, .int .i64 0, .string ⟨#[105, 48, 50]⟩, .int .i64 167772175, .int .i64 5] W (AdR (167772175, true) W) := by
  have := Choose_any (exD b i02) 167772175 U W (exD_ok h (by decide)) hU (by omega) (by omega)
  rw [show chooseA (exD b i02).x.cf (exD b i02).l (exD b i02).net (exD b i02).k 167772175 (exD b i02).now = (167772175, true) from ex_c3] at this
  exact this
theorem plX_m1 (h : (plCx b 167772170).ok U W) (hU : U ≤ W.heap.size) : Calls Tryz.prog 9 #[cf3 b, .slice none 0 0, .int .i64 0, .string ⟨#[105, 48, 49]⟩, .int .i64 167772165, .int .i64 5] W (isB true W) := by
  have := May_any (exD b i01) 167772165 U W (exD_ok h (by decide)) hU
  rw [show mayA (exD b i01).x.cf (exD b i01).l (exD b i01).net (exD b i01).k 167772165 (exD b i01).now = true from ex_m1] at this
  exact this
theorem plX_m2 (h : (plCx b 167772170).ok U W) (hU : U ≤ W.heap.size) : Calls Tryz.prog 9 #[cf3 b, .slice none 0 0, .int .i64 0, .string ⟨#[105, 48, 50]⟩, .int .i64 167772165, .int .i64 5] W (isB false W) := by
  have := May_any (exD b i02) 167772165 U W (exD_ok h (by decide)) hU
  rw [show mayA (exD b i02).x.cf (exD b i02).l (exD b i02).net (exD b i02).k 167772165 (exD b i02).now = false from ex_m2] at this
  exact this
end
set_option maxHeartbeats 4000000 in
theorem knows_yes (w : World) : Calls Tryz.prog 8 #[] w (isTrue w) := by
  go_enter Tryz.func8, Tryz.ntmps8
  go_wp2_with fail
  refine (plain_any w).mono ?_
  rintro e w1 ⟨rfl, hp, hb1, hs1⟩
  obtain ⟨w2, hw2⟩ : ∃ w2, w2 = w1.alloc (.cells (plCs w.heap.size) 24) := ⟨_, rfl⟩
  have hb2 : Below w1.heap.size w1 w2 := by rw [hw2]; exact alloc_more _ _
  have HC := Lib.hid (show Cel w2 (w.heap.size + 6) 24 (plCs w.heap.size) by rw [← hs1, hw2]; exact Cel.born _ _ _)
  have HP := Lib.hid (hp.below hb2 (by omega))
  have HB := Lib.hid (hb1.trans (hb2.mono hb1.size))
  have HX := Lib.hid (fun W (hW : Below w2.heap.size w2 W) => ((HP.out.below (W' := W) hW (by have := hb2.size; omega)).ok (U := w2.heap.size) (by have := hb2.size; omega)))
  clear hp hb1 hb2
  go_upto_region 2 with fail
  rw [← hw2]
  clear hw2
  obtain ⟨c0, c1, c2⟩ := cel3C (x := plCx w.heap.size 167772170) HC.out
  go_wp2_with fail
  refine (plX_c1 (HX.out w2 (Below.refl _ _)) (Nat.le_refl _)).mono ?_
  rintro e w3 ⟨rfl, hb3⟩
  have HB3 := Lib.hid hb3
  have HC3 := Lib.hid (HC.out.below hb3 HC.out.lt)
  clear c0 c1 c2 hb3
  obtain ⟨c0, c1, c2⟩ := cel3C (x := plCx w.heap.size 167772170) HC3.out
  go_wp2_with fail
  refine (plX_c2 (HX.out _ HB3.out) HB3.out.size).mono ?_
  rintro e w4 ⟨rfl, hb4⟩
  have HB4 := Lib.hid (HB3.out.trans (hb4.mono HB3.out.size))
  have HC4 := Lib.hid (HC3.out.below hb4 HC3.out.lt)
  clear c0 c1 c2 hb4 HC3
  obtain ⟨c0, c1, c2⟩ := cel3C (x := plCx w.heap.size 167772170) HC4.out
  go_wp2_with fail
  refine (plX_c3 (HX.out _ HB4.out) HB4.out.size).mono ?_
  rintro e w5 ⟨rfl, hb5⟩
  have HB5 := Lib.hid (HB4.out.trans (hb5.mono HB4.out.size))
  have HC5 := Lib.hid (HC4.out.below hb5 HC4.out.lt)
  clear c0 c1 c2 hb5 HC4
  obtain ⟨c0, c1, c2⟩ := cel3C (x := plCx w.heap.size 167772170) HC5.out
  go_wp2_with fail
  refine (plX_m1 (HX.out _ HB5.out) HB5.out.size).mono ?_
  rintro e w6 ⟨rfl, hb6⟩
  have HB6 := Lib.hid (HB5.out.trans (hb6.mono HB5.out.size))
  have HC6 := Lib.hid (HC5.out.below hb6 HC5.out.lt)
  clear c0 c1 c2 hb6 HC5
  obtain ⟨c0, c1, c2⟩ := cel3C (x := plCx w.heap.size 167772170) HC6.out
  go_wp2_with fail
  refine (plX_m2 (HX.out _ HB6.out) HB6.out.size).mono ?_
  rintro e w7 ⟨rfl, hb7⟩
  go_wp2
  go_ret
  exact ⟨rfl, (HB.out.trans (HB6.out.mono HB.out.size)).trans (hb7.mono (Nat.le_trans HB.out.size HB6.out.size))⟩
end Go.Proofs.YtpdjdaoclpeffaaGreat.Xw
