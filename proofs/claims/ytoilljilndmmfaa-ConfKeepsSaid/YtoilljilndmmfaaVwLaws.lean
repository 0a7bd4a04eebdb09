/- The walks of ConfChecks, ConfFinds and ConfKeeps: each returns true, and what was in memory stays. Conditions: the configuration reads; keys fit. -/
import Derived.Test.YtoilljilndmmfaaVwKnows
import Derived.Deep.RegionHeld3
set_option maxRecDepth 8000
namespace Go.Proofs.Ytoilljilndmmfaa
open Go.RowKit By Cf Ad Ky Vw
open Dw (ba ba_size ba_data ba_list alloc_more)

set_option maxHeartbeats 8000000 in
theorem confChecks_walk (x : Cx) (w : World) (h : x.ok w.heap.size w) : Calls Try.prog 3 #[x.v] w (isTrue w) := by
  obtain ⟨w0, hw0, hc0, hb0⟩ := boxedC w x
  have hz : w0.heap.size = w.heap.size + 1 := by rw [hw0]; simp
  have HG := Lib.hid (great_any x w.heap.size w0 (h.below hb0) (by omega))
  have HOK : Hid (∀ W, Below w0.heap.size w0 W → x.ok w.heap.size W ∧ w.heap.size ≤ W.heap.size) := fun W hW => ⟨(h.below hb0).below (hW.mono (by omega)), by have := hW.size; omega⟩
  have HCE : Hid (∀ W, Below w0.heap.size w0 W → W.cell? ⟨w.heap.size, 0, none⟩ = some (.int .i64 x.server) ∧ W.cell? ⟨w.heap.size, 1, none⟩ = some (.int .i64 x.prob) ∧ W.cell? ⟨w.heap.size, 2, none⟩ = some (.slice x.A x.n x.c)) := fun W hW => cel3C (hc0.below hW hc0.lt)
  have HB := Lib.hid hb0
  clear h hc0 hb0 hz
  cases hg : greatC x.cf with
  | true =>
    rw [hg] at HG
    clear hg
    go_enter Try.func3, Try.ntmps3
    go_wp2_with fail
    rw [← hw0]
    clear hw0
    refine HG.out.mono ?_
    rintro e w1 ⟨rfl, hb1⟩
    go_wp2_with fail
    refine (knows_yes _).mono ?_
    rintro e wz ⟨rfl, hbz⟩
    go_wp2
    go_ret
    exact ⟨rfl, HB.out.trans (((hb1).trans (hbz.mono (hb1).size)).mono HB.out.size)⟩
  | false =>
  have hS := small_iff.1 hg
  rw [hg] at HG
  have HC1 := Lib.hid (fun W (hW : Below w0.heap.size w0 W) => check_any x w.heap.size W (HOK.out W hW).1 (HOK.out W hW).2 hS)
  have HC2 := Lib.hid (fun W (hW : Below w0.heap.size w0 W) => refCheck_any x w.heap.size W (HOK.out W hW).1 (HOK.out W hW).2 hS)
  generalize checkC x.cf = z at HC1 HC2
  have hzz : (z == z) = true := beq_self_eq_true z
  clear hg hS
  go_enter Try.func3, Try.ntmps3
  go_wp2_with fail
  rw [← hw0]
  clear hw0
  refine HG.out.mono ?_
  rintro e w1 ⟨rfl, hb1⟩
  obtain ⟨x0, x1, x2⟩ := HCE.out w1 hb1
  have HBK := Lib.hid hb1
  have HD1 : Hid (∀ W, Below w1.heap.size w1 W → Calls Try.prog 10 #[x.v] W (isI z W)) := fun W hW => HC1.out W (HBK.out.trans (hW.mono HBK.out.size))
  have HD2 : Hid (∀ W, Below w1.heap.size w1 W → Calls Try.prog 11 #[x.v] W (isI z W)) := fun W hW => HC2.out W (HBK.out.trans (hW.mono HBK.out.size))
  clear hb1 HC1 HC2
  go_wp2_with fail
  go_region_held3 (fun W => W.cell? ⟨w.heap.size, 0, none⟩ = some (.int .i64 x.server) ∧ W.cell? ⟨w.heap.size, 1, none⟩ = some (.int .i64 x.prob) ∧ W.cell? ⟨w.heap.size, 2, none⟩ = some (.slice x.A x.n x.c))
    (first
      | exact HCE.out _ HBK.out
      | exact HCE.out _ (HBK.out).drew
      | exact HCE.out _ (HBK.out.trans (hbx3.mono HBK.out.size))
      | exact HCE.out _ (HBK.out.trans (hbx2.mono HBK.out.size))
      | exact HCE.out _ (HBK.out.trans (hbx1.mono HBK.out.size)))
    (first
      | (go_simp; go_at_call 10; (with_reducible refine (HD1.out _ (Below.refl _ _).drew).mono ?_); rintro ee wu1 ⟨rfl, hbu1⟩; have hbx1 : Below w1.heap.size w1 wu1 := below_undrew hbu1)
      | (go_simp; go_at_call 11; (with_reducible refine (HD2.out _ hbx1).mono ?_); rintro ee wu2 ⟨rfl, hbu2⟩; have hbx2 : Below w1.heap.size w1 wu2 := hbx1.trans (hbu2.mono hbx1.size))
      | (go_simp; go_at_call 9; (with_reducible refine (knows_yes _).mono ?_); rintro ee wu3 ⟨rfl, hbu3⟩; have hbx3 : Below w1.heap.size w1 wu3 := hbx2.trans (hbu3.mono hbx2.size)))
  all_goals (
    go_wp2
    go_ret
    exact ⟨rfl, HB.out.trans ((HBK.out.trans (hbx3.mono HBK.out.size)).mono HB.out.size)⟩)
set_option maxHeartbeats 8000000 in
theorem confFinds_walk (x : Cx) (a iface : Int) (w : World) (h : x.ok w.heap.size w) : Calls Try.prog 4 #[x.v, .int .i64 a, .int .i64 iface] w (isTrue w) := by
  obtain ⟨w0, hw0, hc0, hb0⟩ := boxedC w x
  have hz : w0.heap.size = w.heap.size + 1 := by rw [hw0]; simp
  have HG := Lib.hid (great_any x w.heap.size w0 (h.below hb0) (by omega))
  have HOK : Hid (∀ W, Below w0.heap.size w0 W → x.ok w.heap.size W ∧ w.heap.size ≤ W.heap.size) := fun W hW => ⟨(h.below hb0).below (hW.mono (by omega)), by have := hW.size; omega⟩
  have HCE : Hid (∀ W, Below w0.heap.size w0 W → W.cell? ⟨w.heap.size, 0, none⟩ = some (.int .i64 x.server) ∧ W.cell? ⟨w.heap.size, 1, none⟩ = some (.int .i64 x.prob) ∧ W.cell? ⟨w.heap.size, 2, none⟩ = some (.slice x.A x.n x.c)) := fun W hW => cel3C (hc0.below hW hc0.lt)
  have HB := Lib.hid hb0
  clear h hc0 hb0 hz
  cases hg : greatC x.cf with
  | true =>
    rw [hg] at HG
    clear hg
    go_enter Try.func4, Try.ntmps4
    go_wp2_with fail
    rw [← hw0]
    clear hw0
    refine HG.out.mono ?_
    rintro e w1 ⟨rfl, hb1⟩
    go_wp2_with fail
    refine (knows_yes _).mono ?_
    rintro e wz ⟨rfl, hbz⟩
    go_wp2
    go_ret
    exact ⟨rfl, HB.out.trans (((hb1).trans (hbz.mono (hb1).size)).mono HB.out.size)⟩
  | false =>
  have hS := small_iff.1 hg
  rw [hg] at HG
  have HC1 := Lib.hid (fun W (hW : Below w0.heap.size w0 W) => findX_any x a w.heap.size W (HOK.out W hW).1 (HOK.out W hW).2 hS)
  have HC2 := Lib.hid (fun W (hW : Below w0.heap.size w0 W) => refFind_any x a w.heap.size W (HOK.out W hW).1 (HOK.out W hW).2 hS)
  have HC3 := Lib.hid (fun W (hW : Below w0.heap.size w0 W) => wireX_any x iface w.heap.size W (HOK.out W hW).1 (HOK.out W hW).2 hS)
  have HC4 := Lib.hid (fun W (hW : Below w0.heap.size w0 W) => refWire_any x iface w.heap.size W (HOK.out W hW).1 (HOK.out W hW).2 hS)
  rw [find_doc] at HC1
  rw [wire_doc] at HC3
  generalize findC x.cf a = t at HC1 HC2
  generalize wireC x.cf iface = u at HC3 HC4
  obtain ⟨t1, t2, t3⟩ := t
  obtain ⟨u1, u2, u3⟩ := u
  have hz1 : (t1 == t1) = true := beq_self_eq_true _
  have hz2 : (t2 == t2) = true := beq_self_eq_true _
  have hz3 : (t3 == t3) = true := beq_self_eq_true _
  have hy1 : (u1 == u1) = true := beq_self_eq_true _
  have hy2 : (u2 == u2) = true := beq_self_eq_true _
  have hy3 : (u3 == u3) = true := beq_self_eq_true _
  clear hg hS
  go_enter Try.func4, Try.ntmps4
  go_wp2_with fail
  rw [← hw0]
  clear hw0
  refine HG.out.mono ?_
  rintro e w1 ⟨rfl, hb1⟩
  have HB1 := Lib.hid hb1
  clear hb1
  obtain ⟨x0, x1, x2⟩ := HCE.out w1 HB1.out
  go_wp2_with fail
  refine (HC1.out w1 HB1.out).mono ?_
  rintro e w2 ⟨rfl, hb⟩
  have HB2 := Lib.hid (HB1.out.trans (hb.mono HB1.out.size))
  clear x0 x1 x2 hb
  obtain ⟨x0, x1, x2⟩ := HCE.out w2 HB2.out
  go_wp2_with fail
  refine (HC2.out w2 HB2.out).mono ?_
  rintro e w3 ⟨rfl, hb⟩
  have HB3 := Lib.hid (HB2.out.trans (hb.mono HB2.out.size))
  clear x0 x1 x2 hb
  obtain ⟨x0, x1, x2⟩ := HCE.out w3 HB3.out
  go_wp2_with fail
  refine (HC3.out w3 HB3.out).mono ?_
  rintro e w4 ⟨rfl, hb⟩
  have HB4 := Lib.hid (HB3.out.trans (hb.mono HB3.out.size))
  clear x0 x1 x2 hb
  obtain ⟨x0, x1, x2⟩ := HCE.out w4 HB4.out
  go_wp2_with fail
  refine (HC4.out w4 HB4.out).mono ?_
  rintro e w5 ⟨rfl, hb⟩
  have HB5 := Lib.hid (HB4.out.trans (hb.mono HB4.out.size))
  clear x0 x1 x2 hb
  go_wp2_with fail
  refine (knows_yes _).mono ?_
  rintro e wz ⟨rfl, hbz⟩
  go_wp2
  go_ret
  exact ⟨rfl, HB.out.trans (((HB5.out).trans (hbz.mono (HB5.out).size)).mono HB.out.size)⟩
set_option maxHeartbeats 8000000 in
theorem confKeeps_walk (x : Cx) (net a : Int) (k : List UInt8) (w : World) (h : x.ok w.heap.size w) (hk : k.length ≤ 9223372036854775807) : Calls Try.prog 5 #[x.v, .int .i64 net, .int .i64 a, .string (ba k)] w (isTrue w) := by
  have hbs := ba_size k
  obtain ⟨w0, hw0, hc0, hb0⟩ := boxedC w x
  have hz : w0.heap.size = w.heap.size + 1 := by rw [hw0]; simp
  have HG := Lib.hid (great_any x w.heap.size w0 (h.below hb0) (by omega))
  have HOK : Hid (∀ W, Below w0.heap.size w0 W → x.ok w.heap.size W ∧ w.heap.size ≤ W.heap.size) := fun W hW => ⟨(h.below hb0).below (hW.mono (by omega)), by have := hW.size; omega⟩
  have HCE : Hid (∀ W, Below w0.heap.size w0 W → W.cell? ⟨w.heap.size, 0, none⟩ = some (.int .i64 x.server) ∧ W.cell? ⟨w.heap.size, 1, none⟩ = some (.int .i64 x.prob) ∧ W.cell? ⟨w.heap.size, 2, none⟩ = some (.slice x.A x.n x.c)) := fun W hW => cel3C (hc0.below hW hc0.lt)
  have HB := Lib.hid hb0
  clear h hc0 hb0 hz
  cases hg : greatC x.cf with
  | true =>
    rw [hg] at HG
    clear hg
    go_enter Try.func5, Try.ntmps5
    go_wp2_with fail
    rw [← hw0]
    clear hw0
    refine HG.out.mono ?_
    rintro e w1 ⟨rfl, hb1⟩
    go_wp2_with fail
    refine (knows_yes _).mono ?_
    rintro e wz ⟨rfl, hbz⟩
    go_wp2
    go_ret
    exact ⟨rfl, HB.out.trans (((hb1).trans (hbz.mono (hb1).size)).mono HB.out.size)⟩
  | false =>
  by_cases hbig : 1000 < k.length
  · have hvz : ((ba k).size : Int) > 1000 := by rw [hbs]; omega
    rw [hg] at HG
    clear hg
    go_enter Try.func5, Try.ntmps5
    go_wp2_with fail
    rw [← hw0]
    clear hw0
    refine HG.out.mono ?_
    rintro e w1 ⟨rfl, hb1⟩
    go_wp2_with fail
    refine (knows_yes _).mono ?_
    rintro e wz ⟨rfl, hbz⟩
    go_wp2
    go_ret
    exact ⟨rfl, HB.out.trans (((hb1).trans (hbz.mono (hb1).size)).mono HB.out.size)⟩
  have hvz : ¬ ((ba k).size : Int) > 1000 := by rw [hbs]; omega
  have hS := small_iff.1 hg
  rw [hg] at HG
  have HC1 := Lib.hid (fun W (hW : Below w0.heap.size w0 W) => keptX_any x net k w.heap.size W (HOK.out W hW).1 (HOK.out W hW).2 hS)
  have HC2 := Lib.hid (fun W (hW : Below w0.heap.size w0 W) => refKept_any x net k w.heap.size W (HOK.out W hW).1 (HOK.out W hW).2 hS)
  have HC3 := Lib.hid (fun W (hW : Below w0.heap.size w0 W) => keeperX_any x a w.heap.size W (HOK.out W hW).1 (HOK.out W hW).2 hS)
  have HC4 := Lib.hid (fun W (hW : Below w0.heap.size w0 W) => refKeeper_any x a w.heap.size W (HOK.out W hW).1 (HOK.out W hW).2 hS)
  have HC5 := Lib.hid (fun W (hW : Below w0.heap.size w0 W) => inPoolX_any x net a w.heap.size W (HOK.out W hW).1 (HOK.out W hW).2 hS)
  have HC6 := Lib.hid (fun W (hW : Below w0.heap.size w0 W) => refPool_any x net a w.heap.size W (HOK.out W hW).1 (HOK.out W hW).2 hS)
  rw [kept_doc] at HC1
  rw [keeper_doc] at HC3
  rw [pool_doc] at HC5
  generalize keptC x.cf net k = t at HC1 HC2
  generalize keeperC x.cf a = u at HC3 HC4
  generalize inPoolC x.cf net a = v at HC5 HC6
  obtain ⟨t1, t2⟩ := t
  obtain ⟨u1, u2⟩ := u
  have hz1 : (t1 == t1) = true := beq_self_eq_true _
  have hz2 : (t2 == t2) = true := beq_self_eq_true _
  have hy1 : ((ba u1).toList == (ba u1).toList) = true := beq_self_eq_true _
  have hy2 : (u2 == u2) = true := beq_self_eq_true _
  have hv : (v == v) = true := beq_self_eq_true _
  clear hg hS hbig
  go_enter Try.func5, Try.ntmps5
  go_wp2_with fail
  rw [← hw0]
  clear hw0
  refine HG.out.mono ?_
  rintro e w1 ⟨rfl, hb1⟩
  have HB1 := Lib.hid hb1
  clear hb1
  obtain ⟨x0, x1, x2⟩ := HCE.out w1 HB1.out
  go_wp2_with fail
  refine (HC1.out w1 HB1.out).mono ?_
  rintro e w2 ⟨rfl, hb⟩
  have HB2 := Lib.hid (HB1.out.trans (hb.mono HB1.out.size))
  clear x0 x1 x2 hb
  obtain ⟨x0, x1, x2⟩ := HCE.out w2 HB2.out
  go_wp2_with fail
  refine (HC2.out w2 HB2.out).mono ?_
  rintro e w3 ⟨rfl, hb⟩
  have HB3 := Lib.hid (HB2.out.trans (hb.mono HB2.out.size))
  clear x0 x1 x2 hb
  obtain ⟨x0, x1, x2⟩ := HCE.out w3 HB3.out
  go_wp2_with fail
  refine (HC3.out w3 HB3.out).mono ?_
  rintro e w4 ⟨rfl, hb⟩
  have HB4 := Lib.hid (HB3.out.trans (hb.mono HB3.out.size))
  clear x0 x1 x2 hb
  obtain ⟨x0, x1, x2⟩ := HCE.out w4 HB4.out
  go_wp2_with fail
  refine (HC4.out w4 HB4.out).mono ?_
  rintro e w5 ⟨rfl, hb⟩
  have HB5 := Lib.hid (HB4.out.trans (hb.mono HB4.out.size))
  clear x0 x1 x2 hb
  obtain ⟨x0, x1, x2⟩ := HCE.out w5 HB5.out
  have HBK := HB5
  have HD5 : Hid (∀ W, Below w5.heap.size w5 W → Calls Try.prog 20 #[x.v, .int .i64 net, .int .i64 a] W (isB v W)) := fun W hW => HC5.out W (HBK.out.trans (hW.mono HBK.out.size))
  have HD6 : Hid (∀ W, Below w5.heap.size w5 W → Calls Try.prog 21 #[x.v, .int .i64 net, .int .i64 a] W (isB v W)) := fun W hW => HC6.out W (HBK.out.trans (hW.mono HBK.out.size))
  clear HC1 HC2 HC3 HC4 HC5 HC6 HB1 HB2 HB3 HB4 HB5
  go_wp2_with fail
  go_region_held3 (fun W => W.cell? ⟨w.heap.size, 0, none⟩ = some (.int .i64 x.server) ∧ W.cell? ⟨w.heap.size, 1, none⟩ = some (.int .i64 x.prob) ∧ W.cell? ⟨w.heap.size, 2, none⟩ = some (.slice x.A x.n x.c))
    (first
      | exact HCE.out _ HBK.out
      | exact HCE.out _ (HBK.out).drew
      | exact HCE.out _ (HBK.out.trans (hbx3.mono HBK.out.size))
      | exact HCE.out _ (HBK.out.trans (hbx2.mono HBK.out.size))
      | exact HCE.out _ (HBK.out.trans (hbx1.mono HBK.out.size)))
    (first
      | (go_simp; go_at_call 20; (with_reducible refine (HD5.out _ (Below.refl _ _).drew).mono ?_); rintro ee wu1 ⟨rfl, hbu1⟩; have hbx1 : Below w5.heap.size w5 wu1 := below_undrew hbu1)
      | (go_simp; go_at_call 21; (with_reducible refine (HD6.out _ hbx1).mono ?_); rintro ee wu2 ⟨rfl, hbu2⟩; have hbx2 : Below w5.heap.size w5 wu2 := hbx1.trans (hbu2.mono hbx1.size))
      | (go_simp; go_at_call 9; (with_reducible refine (knows_yes _).mono ?_); rintro ee wu3 ⟨rfl, hbu3⟩; have hbx3 : Below w5.heap.size w5 wu3 := hbx2.trans (hbu3.mono hbx2.size)))
  all_goals (
    go_wp2
    go_ret
    exact ⟨rfl, HB.out.trans ((HBK.out.trans (hbx3.mono HBK.out.size)).mono HB.out.size)⟩)
end Go.Proofs.Ytoilljilndmmfaa
