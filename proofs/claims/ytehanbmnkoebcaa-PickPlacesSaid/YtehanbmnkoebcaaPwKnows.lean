/- boarderlaw14's knows: the document's examples come out. No conditions. -/
import Derived.Test.YtehanbmnkoebcaaPwSub
import Derived.Test.YtehanbmnkoebcaaVwF
import Derived.Test.YtehanbmnkoebcaaMwCel
import Derived.Test.YtehanbmnkoebcaaByMake
import Derived.Deep.RegionHeld3
import Derived.Deep.RegionLaw
set_option maxRecDepth 8000
namespace Go.Proofs.Ytehanbmnkoebcaa.Pw
open Go.RowKit Tl Co Ms Ry Cf Ad By Pk
open Vw (Cx FiR cel3C PlA plCx plCs plain_any cfP)
open Mw (cels13)
/-- The message of the examples: its Gi is g. -/
def exV (g : Int) (A : Option Addr) : Mv := ⟨0, 0, 0, 0, 0, 0, 0, 0, 0, 0, g, A, 16, 16, List.replicate 16 0, none, 0, 0, []⟩
@[reducible] def exCs (g : Int) (A : Option Addr) : Array Value := #[.int .i64 0, .int .i64 0, .int .i64 0, .int .i64 0, .int .i64 0, .int .i64 0, .int .i64 0, .int .i64 0, .int .i64 0, .int .i64 0, .int .i64 g, .slice A 16 16, .slice none 0 0]
def exG (g : Int) : M := ⟨0, 0, 0, 0, 0, 0, 0, 0, 0, 0, g, List.replicate 16 0, []⟩
theorem ex_1 : subnetM (cfP 167772170) (exG 167772161) 9 = (0, 0, true) := by decide +kernel
theorem ex_2 : placeM (exG 167772161) = (167772161, true) := by decide +kernel
theorem ex_3 : subnetM (cfP 167772170) (exG 0) 1 = (0, 0, true) := by decide +kernel
theorem ex_4 : subnetM (cfP 167772170) (exG 0) 9 = (0, 0, false) := by decide +kernel
theorem plSub {W : World} {b U : Nat} {g i : Int} {A : Option Addr} {t : Int × Int × Bool} (h : (plCx b 167772170).ok U W) (hU : U ≤ W.heap.size) (hm : (exV g A).ok W) (ht : subnetM (cfP 167772170) (exG g) i = t) :
    Calls Try.prog 15 #[.agg (plCs b), .agg (exCs g A), .int .i64 i] W (FiR t W) := by
  have := subnet_any (plCx b 167772170) (exV g A) i U W h hU (Vw.ex_small 167772170) hm (fun p hp => by cases hp)
  rw [show subnetM (plCx b 167772170).cf (exV g A).mm i = subnetM (cfP 167772170) (exG g) i from rfl, ht] at this
  exact this
theorem plPlace {W : World} {g : Int} {A : Option Addr} {t : Int × Bool} (hm : (exV g A).ok W) (ht : placeM (exG g) = t) :
    Calls Try.prog 9 #[.agg (exCs g A)] W (PlR t W) := by
  have := place_any (exV g A) W hm (fun p hp => by cases hp)
  rw [show placeM (exV g A).mm = placeM (exG g) from rfl, ht] at this
  exact this
def PlE (b : Nat) (w : World) (e : Ending) (w' : World) : Prop := e = .returned (.agg (plCs b)) ∧ (plCx b 167772170).ok w'.heap.size w' ∧ Below w.heap.size w w'
theorem plain_at (w : World) : Calls Try.prog 21 #[] w.drew (PlE w.heap.size w) :=
  (plain_any w.drew).mono fun e w' h => ⟨h.1, h.2.1.ok (by rw [h.2.2.2]; show w.heap.size + 5 < w.heap.size + 6; omega), below_undrew h.2.2.1⟩
theorem exV_cells {w : World} {b : Nat} {g : Int} {A : Option Addr} (h : Cel w b 25 (exCs g A)) :
    w.cell? ⟨b, 0, none⟩ = some (.int .i64 0) ∧ w.cell? ⟨b, 1, none⟩ = some (.int .i64 0) ∧ w.cell? ⟨b, 2, none⟩ = some (.int .i64 0) ∧ w.cell? ⟨b, 3, none⟩ = some (.int .i64 0) ∧ w.cell? ⟨b, 4, none⟩ = some (.int .i64 0) ∧ w.cell? ⟨b, 5, none⟩ = some (.int .i64 0) ∧ w.cell? ⟨b, 6, none⟩ = some (.int .i64 0) ∧ w.cell? ⟨b, 7, none⟩ = some (.int .i64 0) ∧ w.cell? ⟨b, 8, none⟩ = some (.int .i64 0) ∧ w.cell? ⟨b, 9, none⟩ = some (.int .i64 0) ∧ w.cell? ⟨b, 10, none⟩ = some (.int .i64 g) ∧ w.cell? ⟨b, 11, none⟩ = some (.slice A 16 16) ∧ w.cell? ⟨b, 12, none⟩ = some (.slice none 0 0) := by
  obtain ⟨h0, h1, h2, h3, h4, h5, h6, h7, h8, h9, h10, h11, h12, _⟩ := cels13 h
  exact ⟨h0, h1, h2, h3, h4, h5, h6, h7, h8, h9, h10, h11, h12⟩
/-- The message of the examples, made. -/
theorem exV_made (w : World) : ∃ wa w2, wa = w.alloc (.cells (madeCells (Value.int .u8 0).cells 16) 5) ∧ w2 = wa.alloc (.cells (exCs 167772161 (some ⟨w.heap.size, 0, none⟩)) 25) ∧ Cel w2 (w.heap.size + 1) 25 (exCs 167772161 (some ⟨w.heap.size, 0, none⟩)) ∧ (∀ g, (exV g (some ⟨w.heap.size, 0, none⟩)).ok wa) ∧ Below w.heap.size w wa ∧ Below wa.heap.size wa w2 ∧ wa.heap.size = w.heap.size + 1 := by
  have hmade := Own.made 5 w 16 (by omega)
  have hs : (w.alloc (.cells (madeCells (Value.int .u8 0).cells 16) 5)).heap.size = w.heap.size + 1 := by simp
  have c1 := Cel.born (w.alloc (.cells (madeCells (Value.int .u8 0).cells 16) 5)) 25 (exCs 167772161 (some ⟨w.heap.size, 0, none⟩))
  rw [hs] at c1
  exact ⟨_, _, rfl, rfl, c1, fun _ => ⟨hmade.bs, RdO.nil _⟩, alloc_more _ _, alloc_more _ _, hs⟩

set_option maxHeartbeats 16000000 in
theorem knows_yes (w : World) : Calls Try.prog 8 #[] w (isTrue w) := by
  have hmk : ∀ W, (Instr.makeSlice 22 (.int .i64 16) (.int .i64 16)).run Try.prog W = .ok (.slice (some ⟨W.heap.size, 0, none⟩) 16 16) (W.alloc (.cells (madeCells (Value.int .u8 0).cells 16) 5)) := fun W => byP.make (P := Try.prog) 16 (by omega) W
  obtain ⟨wa, w2, hwa, hw2, hc2, hma, hb1, hb2, hza⟩ := exV_made w
  generalize madeCells (Value.int .u8 0).cells 16 = CS at hmk hwa
  have HMA := Lib.hid hma
  have HB := Lib.hid hb1
  have HA := Lib.hid hb2
  have HZ := Lib.hid hza
  have HC2 := Lib.hid hc2
  have HK2 := Lib.hid (fun W (hW : Below w2.heap.size w2 W) => exV_cells (hc2.below hW hc2.lt))
  have HPL := Lib.hid (plain_at w2)
  clear hc2 hma hb1 hb2 hza
  go_enter Try.func8, Try.ntmps8
  go_upto_region 2 with fail
  rw [← hwa, ← hw2]
  clear hwa hw2 hmk
  obtain ⟨x0, x1, x2, x3, x4, x5, x6, x7, x8, x9, x10, x11, x12⟩ := HK2.out w2 (Below.refl _ _)
  go_region_held3 (fun W => W.cell? ⟨w.heap.size + 1, 0, none⟩ = some (.int .i64 0) ∧ W.cell? ⟨w.heap.size + 1, 1, none⟩ = some (.int .i64 0) ∧ W.cell? ⟨w.heap.size + 1, 2, none⟩ = some (.int .i64 0) ∧ W.cell? ⟨w.heap.size + 1, 3, none⟩ = some (.int .i64 0) ∧ W.cell? ⟨w.heap.size + 1, 4, none⟩ = some (.int .i64 0) ∧ W.cell? ⟨w.heap.size + 1, 5, none⟩ = some (.int .i64 0) ∧ W.cell? ⟨w.heap.size + 1, 6, none⟩ = some (.int .i64 0) ∧ W.cell? ⟨w.heap.size + 1, 7, none⟩ = some (.int .i64 0) ∧ W.cell? ⟨w.heap.size + 1, 8, none⟩ = some (.int .i64 0) ∧ W.cell? ⟨w.heap.size + 1, 9, none⟩ = some (.int .i64 0) ∧ W.cell? ⟨w.heap.size + 1, 10, none⟩ = some (.int .i64 167772161) ∧ W.cell? ⟨w.heap.size + 1, 11, none⟩ = some (.slice (some ⟨w.heap.size, 0, none⟩) 16 16) ∧ W.cell? ⟨w.heap.size + 1, 12, none⟩ = some (.slice none 0 0))
    (first
      | exact HK2.out _ (Below.refl _ _)
      | exact HK2.out _ (Below.refl _ _).drew
      | exact HK2.out _ hbq2
      | exact HK2.out _ hbq1)
    (first
      | (go_simp; go_at_call 21; (with_reducible refine HPL.out.mono ?_); rintro ee wq1 ⟨rfl, hpa, hbq1⟩; have HPA := Lib.hid hpa; clear hpa)
      | (go_simp; go_at_call 15; (with_reducible refine (plSub HPA.out (Nat.le_refl _) ((HMA.out 167772161).below (HA.out.trans (hbq1.mono HA.out.size))) ex_1).mono ?_); rintro ee w3 ⟨rfl, hbv⟩; have hbq2 : Below w2.heap.size w2 w3 := hbq1.trans (hbv.mono hbq1.size)))
  all_goals (
    have HA1 := Lib.hid (HA.out.trans (hbq2.mono HA.out.size))
    have HK1 := Lib.hid hbq2
    clear HA HPL HPA hbq1 hbv x0 x1 x2 x3 x4 x5 x6 x7 x8 x9 x10 x11 x12
    obtain ⟨x0, x1, x2, x3, x4, x5, x6, x7, x8, x9, x10, x11, x12⟩ := HK2.out w3 HK1.out
    go_wp2_with fail
    refine (plPlace ((HMA.out 167772161).below HA1.out) ex_2).mono ?_
    rintro e w4 ⟨rfl, hb4⟩
    have HK4 := Lib.hid (HK1.out.trans (hb4.mono HK1.out.size))
    have HA4 := Lib.hid (HA1.out.trans (hb4.mono HA1.out.size))
    clear x0 x1 x2 x3 x4 x5 x6 x7 x8 x9 x10 x11 x12 hb4
    have hc4 := HC2.out.below HK4.out HC2.out.lt
    obtain ⟨x0, x1, x2, x3, x4, x5, x6, x7, x8, x9, x10, x11, x12, xf⟩ := cels13 hc4
    have xf10 := xf 10
    obtain ⟨w5, hw5⟩ : ∃ w5, w5 = w4.setCell ⟨w.heap.size + 1, 10, none⟩ (.int .i64 0) := ⟨_, rfl⟩
    have hc5 : Cel w5 (w.heap.size + 1) 25 (exCs 0 (some ⟨w.heap.size, 0, none⟩)) := by
      have h2 := Mw.Cel.set hc4 10 (.int .i64 0)
      rw [hw5]
      exact h2
    have HA5 : Hid (Below wa.heap.size wa w5) := by
      rw [hw5]
      exact HA4.out.setCell (p := ⟨w.heap.size + 1, 10, none⟩) (by rw [HZ.out]; exact Nat.le_refl _) _
    have HC5 := Lib.hid hc5
    have HK5 := Lib.hid (fun W (hW : Below w5.heap.size w5 W) => exV_cells (hc5.below hW hc5.lt))
    have HPL := Lib.hid (plain_at w5)
    have HA := HA5
    clear hc4 xf hc5
    go_upto_region 5 with fail
    rw [← hw5]
    clear hw5 xf10 x0 x1 x2 x3 x4 x5 x6 x7 x8 x9 x10 x11 x12 HK2 HC2 HK1 HA1 HK4 HA4 HA5
    obtain ⟨x0, x1, x2, x3, x4, x5, x6, x7, x8, x9, x10, x11, x12⟩ := HK5.out w5 (Below.refl _ _)
    go_region_held3 (fun W => W.cell? ⟨w.heap.size + 1, 0, none⟩ = some (.int .i64 0) ∧ W.cell? ⟨w.heap.size + 1, 1, none⟩ = some (.int .i64 0) ∧ W.cell? ⟨w.heap.size + 1, 2, none⟩ = some (.int .i64 0) ∧ W.cell? ⟨w.heap.size + 1, 3, none⟩ = some (.int .i64 0) ∧ W.cell? ⟨w.heap.size + 1, 4, none⟩ = some (.int .i64 0) ∧ W.cell? ⟨w.heap.size + 1, 5, none⟩ = some (.int .i64 0) ∧ W.cell? ⟨w.heap.size + 1, 6, none⟩ = some (.int .i64 0) ∧ W.cell? ⟨w.heap.size + 1, 7, none⟩ = some (.int .i64 0) ∧ W.cell? ⟨w.heap.size + 1, 8, none⟩ = some (.int .i64 0) ∧ W.cell? ⟨w.heap.size + 1, 9, none⟩ = some (.int .i64 0) ∧ W.cell? ⟨w.heap.size + 1, 10, none⟩ = some (.int .i64 0) ∧ W.cell? ⟨w.heap.size + 1, 11, none⟩ = some (.slice (some ⟨w.heap.size, 0, none⟩) 16 16) ∧ W.cell? ⟨w.heap.size + 1, 12, none⟩ = some (.slice none 0 0))
      (first
        | exact HK5.out _ (Below.refl _ _)
        | exact HK5.out _ (Below.refl _ _).drew
        | exact HK5.out _ hbq2
        | exact HK5.out _ hbq1)
      (first
        | (go_simp; go_at_call 21; (with_reducible refine HPL.out.mono ?_); rintro ee wq1 ⟨rfl, hpa, hbq1⟩; have HPA := Lib.hid hpa; clear hpa)
        | (go_simp; go_at_call 15; (with_reducible refine (plSub HPA.out (Nat.le_refl _) ((HMA.out 0).below (HA.out.trans (hbq1.mono HA.out.size))) ex_3).mono ?_); rintro ee w6 ⟨rfl, hbv⟩; have hbq2 : Below w5.heap.size w5 w6 := hbq1.trans (hbv.mono hbq1.size)))
    all_goals (
      have HA1 := Lib.hid (HA.out.trans (hbq2.mono HA.out.size))
      have HK1 := Lib.hid hbq2
      clear HA HPL HPA hbq1 hbv x0 x1 x2 x3 x4 x5 x6 x7 x8 x9 x10 x11 x12
      obtain ⟨x0, x1, x2, x3, x4, x5, x6, x7, x8, x9, x10, x11, x12⟩ := HK5.out w6 HK1.out
      have HPL := Lib.hid (plain_at w6)
      have HA := HA1
      have HKX := HK1
      have HK6 : Hid (∀ W : World, Below w6.heap.size w6 W → _) := fun W hW => HK5.out W (HKX.out.trans (hW.mono HKX.out.size))
      clear HA1 HK1
      go_wp2_with fail
      go_region_held3 (fun W => W.cell? ⟨w.heap.size + 1, 0, none⟩ = some (.int .i64 0) ∧ W.cell? ⟨w.heap.size + 1, 1, none⟩ = some (.int .i64 0) ∧ W.cell? ⟨w.heap.size + 1, 2, none⟩ = some (.int .i64 0) ∧ W.cell? ⟨w.heap.size + 1, 3, none⟩ = some (.int .i64 0) ∧ W.cell? ⟨w.heap.size + 1, 4, none⟩ = some (.int .i64 0) ∧ W.cell? ⟨w.heap.size + 1, 5, none⟩ = some (.int .i64 0) ∧ W.cell? ⟨w.heap.size + 1, 6, none⟩ = some (.int .i64 0) ∧ W.cell? ⟨w.heap.size + 1, 7, none⟩ = some (.int .i64 0) ∧ W.cell? ⟨w.heap.size + 1, 8, none⟩ = some (.int .i64 0) ∧ W.cell? ⟨w.heap.size + 1, 9, none⟩ = some (.int .i64 0) ∧ W.cell? ⟨w.heap.size + 1, 10, none⟩ = some (.int .i64 0) ∧ W.cell? ⟨w.heap.size + 1, 11, none⟩ = some (.slice (some ⟨w.heap.size, 0, none⟩) 16 16) ∧ W.cell? ⟨w.heap.size + 1, 12, none⟩ = some (.slice none 0 0))
        (first
          | exact HK6.out _ (Below.refl _ _)
          | exact HK6.out _ (Below.refl _ _).drew
          | exact HK6.out _ hbq2
          | exact HK6.out _ hbq1)
        (first
          | (go_simp; go_at_call 21; (with_reducible refine HPL.out.mono ?_); rintro ee wq1 ⟨rfl, hpa, hbq1⟩; have HPA := Lib.hid hpa; clear hpa)
          | (go_simp; go_at_call 15; (with_reducible refine (plSub HPA.out (Nat.le_refl _) ((HMA.out 0).below (HA.out.trans (hbq1.mono HA.out.size))) ex_4).mono ?_); rintro ee w7 ⟨rfl, hbv⟩; have hbq2 : Below w6.heap.size w6 w7 := hbq1.trans (hbv.mono hbq1.size)))
      all_goals (
        have HA1 := Lib.hid (HA.out.trans (hbq2.mono HA.out.size))
        have HK1 := Lib.hid hbq2
        clear HA HPL HPA hbq1 hbv x0 x1 x2 x3 x4 x5 x6 x7 x8 x9 x10 x11 x12
        go_wp2
        go_ret
        exact ⟨rfl, HB.out.trans (HA1.out.mono HB.out.size)⟩)))
end Go.Proofs.Ytehanbmnkoebcaa.Pw
