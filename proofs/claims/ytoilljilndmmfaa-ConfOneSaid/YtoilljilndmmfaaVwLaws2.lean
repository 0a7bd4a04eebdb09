/- The walk of ConfOne: it returns true, and what was in memory stays. Conditions: the configuration reads; the key fits. -/
import Derived.Test.YtoilljilndmmfaaVwLaws
import Derived.Deep.RegionHeld3
set_option maxRecDepth 8000
namespace Go.Proofs.Ytoilljilndmmfaa
open Go.RowKit By Cf Ad Ky Vw
open Dw (ba ba_size ba_data ba_list alloc_more)

set_option maxHeartbeats 40000000 in
theorem confOne_walk (x : Cx) (net other a : Int) (k : List UInt8) (w : World) (h : x.ok w.heap.size w) (hk : k.length ≤ 9223372036854775807) : Calls Try.prog 6 #[x.v, .int .i64 net, .int .i64 other, .int .i64 a, .string (ba k)] w (isTrue w) := by
  have hbs := ba_size k
  obtain ⟨w0, hw0, hc0, hb0⟩ := boxedC w x
  have hz : w0.heap.size = w.heap.size + 1 := by rw [hw0]; simp
  have HG := Lib.hid (great_any x w.heap.size w0 (h.below hb0) (by omega))
  have HOK : Hid (∀ W, Below w0.heap.size w0 W → x.ok w.heap.size W ∧ w.heap.size ≤ W.heap.size) := fun W hW => ⟨(h.below hb0).below (hW.mono (by omega)), by have := hW.size; omega⟩
  have HCE : Hid (∀ W, Below w0.heap.size w0 W → W.cell? ⟨w.heap.size, 0, none⟩ = some (.int .i64 x.server) ∧ W.cell? ⟨w.heap.size, 1, none⟩ = some (.int .i64 x.prob) ∧ W.cell? ⟨w.heap.size, 2, none⟩ = some (.slice x.A x.n x.c)) := fun W hW => cel3C (hc0.below hW hc0.lt)
  have HB := Lib.hid hb0
  clear h hc0 hb0 hz
  cases hg : greatC x.cf with
  | true =>
    rw [hg] at HG
    clear hg
    go_enter Try.func6, Try.ntmps6
    go_wp2_with fail
    rw [← hw0]
    clear hw0
    refine HG.out.mono ?_
    rintro e w1 ⟨rfl, hb1⟩
    go_wp2_with fail
    refine (knows_yes _).mono ?_
    rintro e wz ⟨rfl, hbz⟩
    go_wp2
    go_ret
    exact ⟨rfl, HB.out.trans (((hb1).trans (hbz.mono (hb1).size)).mono HB.out.size)⟩
  | false =>
  by_cases hbig : 1000 < k.length
  · have hvz : ((ba k).size : Int) > 1000 := by rw [hbs]; omega
    rw [hg] at HG
    clear hg
    go_enter Try.func6, Try.ntmps6
    go_wp2_with fail
    rw [← hw0]
    clear hw0
    refine HG.out.mono ?_
    rintro e w1 ⟨rfl, hb1⟩
    go_wp2_with fail
    refine (knows_yes _).mono ?_
    rintro e wz ⟨rfl, hbz⟩
    go_wp2
    go_ret
    exact ⟨rfl, HB.out.trans (((hb1).trans (hbz.mono (hb1).size)).mono HB.out.size)⟩
  have hvz : ¬ ((ba k).size : Int) > 1000 := by rw [hbs]; omega
  have hS := small_iff.1 hg
  rw [hg] at HG
  clear hg hbig
  by_cases hno : net = other
  · have hz : (net == other) = true := by simpa using hno
    clear hno
    go_enter Try.func6, Try.ntmps6
    go_wp2_with fail
    rw [← hw0]
    clear hw0
    refine HG.out.mono ?_
    rintro e w1 ⟨rfl, hb1⟩
    go_wp2_with fail
    refine (knows_yes _).mono ?_
    rintro e wz ⟨rfl, hbz⟩
    go_wp2
    go_ret
    exact ⟨rfl, HB.out.trans (((hb1).trans (hbz.mono (hb1).size)).mono HB.out.size)⟩
  have hz : (net == other) = false := by simpa using hno
  have HC0 := Lib.hid (fun W (hW : Below w0.heap.size w0 W) => refCheck_any x w.heap.size W (HOK.out W hW).1 (HOK.out W hW).2 hS)
  by_cases hck : checkC x.cf = 0
  rotate_left
  · have hy : (checkC x.cf == 0) = false := by simpa using hck
    have hy2 : (checkC x.cf != 0) = true := by rw [bne, hy]; rfl
    generalize checkC x.cf = z at HC0 hy hy2
    clear hck
    go_enter Try.func6, Try.ntmps6
    go_wp2_with fail
    rw [← hw0]
    clear hw0
    refine HG.out.mono ?_
    rintro e w1 ⟨rfl, hb1⟩
    have HB1 := Lib.hid hb1
    clear hb1
    obtain ⟨x0, x1, x2⟩ := HCE.out w1 HB1.out
    go_wp2_with fail
    refine (HC0.out w1 HB1.out).mono ?_
    rintro e w2 ⟨rfl, hb⟩
    have HB2 := Lib.hid (HB1.out.trans (hb.mono HB1.out.size))
    clear x0 x1 x2 hb
    go_wp2_with fail
    refine (knows_yes _).mono ?_
    rintro e wz ⟨rfl, hbz⟩
    go_wp2
    go_ret
    exact ⟨rfl, HB.out.trans (((HB2.out).trans (hbz.mono (HB2.out).size)).mono HB.out.size)⟩
  rw [hck] at HC0
  have HC1 := Lib.hid (fun W (hW : Below w0.heap.size w0 W) => findX_any x a w.heap.size W (HOK.out W hW).1 (HOK.out W hW).2 hS)
  have HC2 := Lib.hid (fun W (hW : Below w0.heap.size w0 W) => inPoolX_any x net a w.heap.size W (HOK.out W hW).1 (HOK.out W hW).2 hS)
  have HC3 := Lib.hid (fun W (hW : Below w0.heap.size w0 W) => inPoolX_any x other a w.heap.size W (HOK.out W hW).1 (HOK.out W hW).2 hS)
  have HC4 := Lib.hid (fun W (hW : Below w0.heap.size w0 W) => keptX_any x net k w.heap.size W (HOK.out W hW).1 (HOK.out W hW).2 hS)
  have HC5 : Hid (∀ b W, Below w0.heap.size w0 W → Calls Try.prog 12 #[x.v, .int .i64 b] W (FiR (findC x.cf b) W)) := fun b W hW => by
    rw [← find_doc]
    exact findX_any x b w.heap.size W (HOK.out W hW).1 (HOK.out W hW).2 hS
  have HC6 : Hid (∀ b W, Below w0.heap.size w0 W → Calls Try.prog 18 #[x.v, .int .i64 b] W (KeR (keeperC x.cf b) W)) := fun b W hW => by
    rw [← keeper_doc]
    exact keeperX_any x b w.heap.size W (HOK.out W hW).1 (HOK.out W hW).2 hS
  have HC7 := Lib.hid (HC6.out a)
  rw [find_doc] at HC1
  rw [pool_doc] at HC2 HC3
  rw [kept_doc] at HC4
  have hnn : (net == net) = true := beq_self_eq_true _
  have hnb : (net != net) = false := by rw [bne, hnn]; rfl
  have hkk : ((ba k).toList == (ba k).toList) = true := beq_self_eq_true _
  have hkb : ((ba k).toList != (ba k).toList) = false := by rw [bne, hkk]; rfl
  have HHK := Lib.hid (keeper_one (c := x.cf) (a := a))
  have HPO := Lib.hid (fun hp => pool_one (c := x.cf) (net := net) (a := a) hp)
  have HKO := Lib.hid (fun hp => kept_one (c := x.cf) (net := net) (k := k) hp)
  have HNO := Lib.hid hno
  obtain ⟨kb, kt, hkp⟩ : ∃ kb kt, keptC x.cf net k = (kb, kt) := ⟨_, _, rfl⟩
  obtain ⟨ha, hh, hke⟩ : ∃ ha hh, keeperC x.cf a = (ha, hh) := ⟨_, _, rfl⟩
  rw [hkp] at HC4 HKO
  rw [hke] at HC7 HHK
  clear hS hck hkp hke hno HOK
  cases hp : inPoolC x.cf net a with
  | false =>
    rw [hp] at HC2
    clear hp HPO
    cases kt with
    | false =>
      cases hh with
      | true =>
        have h3 : (findC x.cf a).2.2 = true := HHK.out rfl
        obtain ⟨t1, t2, t3, ht⟩ : ∃ t1 t2 t3, findC x.cf a = (t1, t2, t3) := ⟨_, _, _, rfl⟩
        rw [ht] at HC1 h3
        obtain rfl : t3 = true := h3
        clear ht
        go_enter Try.func6, Try.ntmps6
        go_wp2_with fail
        rw [← hw0]
        clear hw0
        refine HG.out.mono ?_
        rintro e w1 ⟨rfl, hb1⟩
        have HB1 := Lib.hid hb1
        clear hb1
        obtain ⟨x0, x1, x2⟩ := HCE.out w1 HB1.out
        go_wp2_with fail
        refine (HC0.out w1 HB1.out).mono ?_
        rintro e w2 ⟨rfl, hb⟩
        have HB2 := Lib.hid (HB1.out.trans (hb.mono HB1.out.size))
        clear x0 x1 x2 hb
        obtain ⟨x0, x1, x2⟩ := HCE.out w2 HB2.out
        go_wp2_with fail
        refine (HC1.out w2 HB2.out).mono ?_
        rintro e w3 ⟨rfl, hb⟩
        have HB3 := Lib.hid (HB2.out.trans (hb.mono HB2.out.size))
        clear x0 x1 x2 hb
        obtain ⟨x0, x1, x2⟩ := HCE.out w3 HB3.out
        go_wp2_with fail
        refine (HC2.out w3 HB3.out).mono ?_
        rintro e w4 ⟨rfl, hb⟩
        have HB4 := Lib.hid (HB3.out.trans (hb.mono HB3.out.size))
        clear x0 x1 x2 hb
        obtain ⟨x0, x1, x2⟩ := HCE.out w4 HB4.out
        go_wp2_with fail
        refine (HC4.out w4 HB4.out).mono ?_
        rintro e w5 ⟨rfl, hb⟩
        have HB5 := Lib.hid (HB4.out.trans (hb.mono HB4.out.size))
        clear x0 x1 x2 hb
        obtain ⟨x0, x1, x2⟩ := HCE.out w5 HB5.out
        go_wp2_with fail
        refine (HC7.out w5 HB5.out).mono ?_
        rintro e w6 ⟨rfl, hb⟩
        have HB6 := Lib.hid (HB5.out.trans (hb.mono HB5.out.size))
        clear x0 x1 x2 hb
        go_wp2_with fail
        refine (knows_yes _).mono ?_
        rintro e wz ⟨rfl, hbz⟩
        go_wp2
        go_ret
        exact ⟨rfl, HB.out.trans (((HB6.out).trans (hbz.mono (HB6.out).size)).mono HB.out.size)⟩
      | false =>
        obtain ⟨t1, t2, t3, ht⟩ : ∃ t1 t2 t3, findC x.cf a = (t1, t2, t3) := ⟨_, _, _, rfl⟩
        rw [ht] at HC1
        clear ht
        go_enter Try.func6, Try.ntmps6
        go_wp2_with fail
        rw [← hw0]
        clear hw0
        refine HG.out.mono ?_
        rintro e w1 ⟨rfl, hb1⟩
        have HB1 := Lib.hid hb1
        clear hb1
        obtain ⟨x0, x1, x2⟩ := HCE.out w1 HB1.out
        go_wp2_with fail
        refine (HC0.out w1 HB1.out).mono ?_
        rintro e w2 ⟨rfl, hb⟩
        have HB2 := Lib.hid (HB1.out.trans (hb.mono HB1.out.size))
        clear x0 x1 x2 hb
        obtain ⟨x0, x1, x2⟩ := HCE.out w2 HB2.out
        go_wp2_with fail
        refine (HC1.out w2 HB2.out).mono ?_
        rintro e w3 ⟨rfl, hb⟩
        have HB3 := Lib.hid (HB2.out.trans (hb.mono HB2.out.size))
        clear x0 x1 x2 hb
        obtain ⟨x0, x1, x2⟩ := HCE.out w3 HB3.out
        go_wp2_with fail
        refine (HC2.out w3 HB3.out).mono ?_
        rintro e w4 ⟨rfl, hb⟩
        have HB4 := Lib.hid (HB3.out.trans (hb.mono HB3.out.size))
        clear x0 x1 x2 hb
        obtain ⟨x0, x1, x2⟩ := HCE.out w4 HB4.out
        go_wp2_with fail
        refine (HC4.out w4 HB4.out).mono ?_
        rintro e w5 ⟨rfl, hb⟩
        have HB5 := Lib.hid (HB4.out.trans (hb.mono HB4.out.size))
        clear x0 x1 x2 hb
        obtain ⟨x0, x1, x2⟩ := HCE.out w5 HB5.out
        go_wp2_with fail
        refine (HC7.out w5 HB5.out).mono ?_
        rintro e w6 ⟨rfl, hb⟩
        have HB6 := Lib.hid (HB5.out.trans (hb.mono HB5.out.size))
        clear x0 x1 x2 hb
        go_wp2_with fail
        refine (knows_yes _).mono ?_
        rintro e wz ⟨rfl, hbz⟩
        go_wp2
        go_ret
        exact ⟨rfl, HB.out.trans (((HB6.out).trans (hbz.mono (HB6.out).size)).mono HB.out.size)⟩
    | true =>
      obtain ⟨⟨j2, hf2⟩, hk2, hne2⟩ := HKO.out rfl
      have HCF := Lib.hid (HC5.out kb)
      have HCK := Lib.hid (HC6.out kb)
      rw [show findC x.cf kb = (net, (j2 : Int), true) from hf2] at HCF
      rw [show keeperC x.cf kb = (k, true) from hk2] at HCK
      have hsb : (kb == x.server) = false := by simpa using (show kb ≠ x.server from hne2)
      clear hf2 hk2 hne2
      cases hh with
      | true =>
        have h3 : (findC x.cf a).2.2 = true := HHK.out rfl
        obtain ⟨t1, t2, t3, ht⟩ : ∃ t1 t2 t3, findC x.cf a = (t1, t2, t3) := ⟨_, _, _, rfl⟩
        rw [ht] at HC1 h3
        obtain rfl : t3 = true := h3
        clear ht
        go_enter Try.func6, Try.ntmps6
        go_wp2_with fail
        rw [← hw0]
        clear hw0
        refine HG.out.mono ?_
        rintro e w1 ⟨rfl, hb1⟩
        have HB1 := Lib.hid hb1
        clear hb1
        obtain ⟨x0, x1, x2⟩ := HCE.out w1 HB1.out
        go_wp2_with fail
        refine (HC0.out w1 HB1.out).mono ?_
        rintro e w2 ⟨rfl, hb⟩
        have HB2 := Lib.hid (HB1.out.trans (hb.mono HB1.out.size))
        clear x0 x1 x2 hb
        obtain ⟨x0, x1, x2⟩ := HCE.out w2 HB2.out
        go_wp2_with fail
        refine (HC1.out w2 HB2.out).mono ?_
        rintro e w3 ⟨rfl, hb⟩
        have HB3 := Lib.hid (HB2.out.trans (hb.mono HB2.out.size))
        clear x0 x1 x2 hb
        obtain ⟨x0, x1, x2⟩ := HCE.out w3 HB3.out
        go_wp2_with fail
        refine (HC2.out w3 HB3.out).mono ?_
        rintro e w4 ⟨rfl, hb⟩
        have HB4 := Lib.hid (HB3.out.trans (hb.mono HB3.out.size))
        clear x0 x1 x2 hb
        obtain ⟨x0, x1, x2⟩ := HCE.out w4 HB4.out
        go_wp2_with fail
        refine (HC4.out w4 HB4.out).mono ?_
        rintro e w5 ⟨rfl, hb⟩
        have HB5 := Lib.hid (HB4.out.trans (hb.mono HB4.out.size))
        clear x0 x1 x2 hb
        obtain ⟨x0, x1, x2⟩ := HCE.out w5 HB5.out
        go_wp2_with fail
        refine (HCF.out w5 HB5.out).mono ?_
        rintro e w6 ⟨rfl, hb⟩
        have HB6 := Lib.hid (HB5.out.trans (hb.mono HB5.out.size))
        clear x0 x1 x2 hb
        obtain ⟨x0, x1, x2⟩ := HCE.out w6 HB6.out
        go_wp2_with fail
        refine (HCK.out w6 HB6.out).mono ?_
        rintro e w7 ⟨rfl, hb⟩
        have HB7 := Lib.hid (HB6.out.trans (hb.mono HB6.out.size))
        clear x0 x1 x2 hb
        obtain ⟨x0, x1, x2⟩ := HCE.out w7 HB7.out
        go_wp2_with fail
        refine (HC7.out w7 HB7.out).mono ?_
        rintro e w8 ⟨rfl, hb⟩
        have HB8 := Lib.hid (HB7.out.trans (hb.mono HB7.out.size))
        clear x0 x1 x2 hb
        go_wp2_with fail
        refine (knows_yes _).mono ?_
        rintro e wz ⟨rfl, hbz⟩
        go_wp2
        go_ret
        exact ⟨rfl, HB.out.trans (((HB8.out).trans (hbz.mono (HB8.out).size)).mono HB.out.size)⟩
      | false =>
        obtain ⟨t1, t2, t3, ht⟩ : ∃ t1 t2 t3, findC x.cf a = (t1, t2, t3) := ⟨_, _, _, rfl⟩
        rw [ht] at HC1
        clear ht
        go_enter Try.func6, Try.ntmps6
        go_wp2_with fail
        rw [← hw0]
        clear hw0
        refine HG.out.mono ?_
        rintro e w1 ⟨rfl, hb1⟩
        have HB1 := Lib.hid hb1
        clear hb1
        obtain ⟨x0, x1, x2⟩ := HCE.out w1 HB1.out
        go_wp2_with fail
        refine (HC0.out w1 HB1.out).mono ?_
        rintro e w2 ⟨rfl, hb⟩
        have HB2 := Lib.hid (HB1.out.trans (hb.mono HB1.out.size))
        clear x0 x1 x2 hb
        obtain ⟨x0, x1, x2⟩ := HCE.out w2 HB2.out
        go_wp2_with fail
        refine (HC1.out w2 HB2.out).mono ?_
        rintro e w3 ⟨rfl, hb⟩
        have HB3 := Lib.hid (HB2.out.trans (hb.mono HB2.out.size))
        clear x0 x1 x2 hb
        obtain ⟨x0, x1, x2⟩ := HCE.out w3 HB3.out
        go_wp2_with fail
        refine (HC2.out w3 HB3.out).mono ?_
        rintro e w4 ⟨rfl, hb⟩
        have HB4 := Lib.hid (HB3.out.trans (hb.mono HB3.out.size))
        clear x0 x1 x2 hb
        obtain ⟨x0, x1, x2⟩ := HCE.out w4 HB4.out
        go_wp2_with fail
        refine (HC4.out w4 HB4.out).mono ?_
        rintro e w5 ⟨rfl, hb⟩
        have HB5 := Lib.hid (HB4.out.trans (hb.mono HB4.out.size))
        clear x0 x1 x2 hb
        obtain ⟨x0, x1, x2⟩ := HCE.out w5 HB5.out
        go_wp2_with fail
        refine (HCF.out w5 HB5.out).mono ?_
        rintro e w6 ⟨rfl, hb⟩
        have HB6 := Lib.hid (HB5.out.trans (hb.mono HB5.out.size))
        clear x0 x1 x2 hb
        obtain ⟨x0, x1, x2⟩ := HCE.out w6 HB6.out
        go_wp2_with fail
        refine (HCK.out w6 HB6.out).mono ?_
        rintro e w7 ⟨rfl, hb⟩
        have HB7 := Lib.hid (HB6.out.trans (hb.mono HB6.out.size))
        clear x0 x1 x2 hb
        obtain ⟨x0, x1, x2⟩ := HCE.out w7 HB7.out
        go_wp2_with fail
        refine (HC7.out w7 HB7.out).mono ?_
        rintro e w8 ⟨rfl, hb⟩
        have HB8 := Lib.hid (HB7.out.trans (hb.mono HB7.out.size))
        clear x0 x1 x2 hb
        go_wp2_with fail
        refine (knows_yes _).mono ?_
        rintro e wz ⟨rfl, hbz⟩
        go_wp2
        go_ret
        exact ⟨rfl, HB.out.trans (((HB8.out).trans (hbz.mono (HB8.out).size)).mono HB.out.size)⟩
  | true =>
    obtain ⟨⟨j, hf⟩, hne, hoth⟩ := HPO.out hp
    rw [hf] at HC1
    rw [hp] at HC2
    rw [hoth other fun e => HNO.out e.symm] at HC3
    have hsa : (a == x.server) = false := by simpa using (show a ≠ x.server from hne)
    clear hp hf hne hoth HPO
    cases kt with
    | false =>
      cases hh with
      | true =>
        go_enter Try.func6, Try.ntmps6
        go_wp2_with fail
        rw [← hw0]
        clear hw0
        refine HG.out.mono ?_
        rintro e w1 ⟨rfl, hb1⟩
        have HB1 := Lib.hid hb1
        clear hb1
        obtain ⟨x0, x1, x2⟩ := HCE.out w1 HB1.out
        go_wp2_with fail
        refine (HC0.out w1 HB1.out).mono ?_
        rintro e w2 ⟨rfl, hb⟩
        have HB2 := Lib.hid (HB1.out.trans (hb.mono HB1.out.size))
        clear x0 x1 x2 hb
        obtain ⟨x0, x1, x2⟩ := HCE.out w2 HB2.out
        go_wp2_with fail
        refine (HC1.out w2 HB2.out).mono ?_
        rintro e w3 ⟨rfl, hb⟩
        have HB3 := Lib.hid (HB2.out.trans (hb.mono HB2.out.size))
        clear x0 x1 x2 hb
        obtain ⟨x0, x1, x2⟩ := HCE.out w3 HB3.out
        go_wp2_with fail
        refine (HC2.out w3 HB3.out).mono ?_
        rintro e w4 ⟨rfl, hb⟩
        have HB4 := Lib.hid (HB3.out.trans (hb.mono HB3.out.size))
        clear x0 x1 x2 hb
        obtain ⟨x0, x1, x2⟩ := HCE.out w4 HB4.out
        go_wp2_with fail
        refine (HC3.out w4 HB4.out).mono ?_
        rintro e w5 ⟨rfl, hb⟩
        have HB5 := Lib.hid (HB4.out.trans (hb.mono HB4.out.size))
        clear x0 x1 x2 hb
        obtain ⟨x0, x1, x2⟩ := HCE.out w5 HB5.out
        go_wp2_with fail
        refine (HC4.out w5 HB5.out).mono ?_
        rintro e w6 ⟨rfl, hb⟩
        have HB6 := Lib.hid (HB5.out.trans (hb.mono HB5.out.size))
        clear x0 x1 x2 hb
        obtain ⟨x0, x1, x2⟩ := HCE.out w6 HB6.out
        go_wp2_with fail
        refine (HC7.out w6 HB6.out).mono ?_
        rintro e w7 ⟨rfl, hb⟩
        have HB7 := Lib.hid (HB6.out.trans (hb.mono HB6.out.size))
        clear x0 x1 x2 hb
        go_wp2_with fail
        refine (knows_yes _).mono ?_
        rintro e wz ⟨rfl, hbz⟩
        go_wp2
        go_ret
        exact ⟨rfl, HB.out.trans (((HB7.out).trans (hbz.mono (HB7.out).size)).mono HB.out.size)⟩
      | false =>
        go_enter Try.func6, Try.ntmps6
        go_wp2_with fail
        rw [← hw0]
        clear hw0
        refine HG.out.mono ?_
        rintro e w1 ⟨rfl, hb1⟩
        have HB1 := Lib.hid hb1
        clear hb1
        obtain ⟨x0, x1, x2⟩ := HCE.out w1 HB1.out
        go_wp2_with fail
        refine (HC0.out w1 HB1.out).mono ?_
        rintro e w2 ⟨rfl, hb⟩
        have HB2 := Lib.hid (HB1.out.trans (hb.mono HB1.out.size))
        clear x0 x1 x2 hb
        obtain ⟨x0, x1, x2⟩ := HCE.out w2 HB2.out
        go_wp2_with fail
        refine (HC1.out w2 HB2.out).mono ?_
        rintro e w3 ⟨rfl, hb⟩
        have HB3 := Lib.hid (HB2.out.trans (hb.mono HB2.out.size))
        clear x0 x1 x2 hb
        obtain ⟨x0, x1, x2⟩ := HCE.out w3 HB3.out
        go_wp2_with fail
        refine (HC2.out w3 HB3.out).mono ?_
        rintro e w4 ⟨rfl, hb⟩
        have HB4 := Lib.hid (HB3.out.trans (hb.mono HB3.out.size))
        clear x0 x1 x2 hb
        obtain ⟨x0, x1, x2⟩ := HCE.out w4 HB4.out
        go_wp2_with fail
        refine (HC3.out w4 HB4.out).mono ?_
        rintro e w5 ⟨rfl, hb⟩
        have HB5 := Lib.hid (HB4.out.trans (hb.mono HB4.out.size))
        clear x0 x1 x2 hb
        obtain ⟨x0, x1, x2⟩ := HCE.out w5 HB5.out
        go_wp2_with fail
        refine (HC4.out w5 HB5.out).mono ?_
        rintro e w6 ⟨rfl, hb⟩
        have HB6 := Lib.hid (HB5.out.trans (hb.mono HB5.out.size))
        clear x0 x1 x2 hb
        obtain ⟨x0, x1, x2⟩ := HCE.out w6 HB6.out
        go_wp2_with fail
        refine (HC7.out w6 HB6.out).mono ?_
        rintro e w7 ⟨rfl, hb⟩
        have HB7 := Lib.hid (HB6.out.trans (hb.mono HB6.out.size))
        clear x0 x1 x2 hb
        go_wp2_with fail
        refine (knows_yes _).mono ?_
        rintro e wz ⟨rfl, hbz⟩
        go_wp2
        go_ret
        exact ⟨rfl, HB.out.trans (((HB7.out).trans (hbz.mono (HB7.out).size)).mono HB.out.size)⟩
    | true =>
      obtain ⟨⟨j2, hf2⟩, hk2, hne2⟩ := HKO.out rfl
      have HCF := Lib.hid (HC5.out kb)
      have HCK := Lib.hid (HC6.out kb)
      rw [show findC x.cf kb = (net, (j2 : Int), true) from hf2] at HCF
      rw [show keeperC x.cf kb = (k, true) from hk2] at HCK
      have hsb : (kb == x.server) = false := by simpa using (show kb ≠ x.server from hne2)
      clear hf2 hk2 hne2
      cases hh with
      | true =>
        go_enter Try.func6, Try.ntmps6
        go_wp2_with fail
        rw [← hw0]
        clear hw0
        refine HG.out.mono ?_
        rintro e w1 ⟨rfl, hb1⟩
        have HB1 := Lib.hid hb1
        clear hb1
        obtain ⟨x0, x1, x2⟩ := HCE.out w1 HB1.out
        go_wp2_with fail
        refine (HC0.out w1 HB1.out).mono ?_
        rintro e w2 ⟨rfl, hb⟩
        have HB2 := Lib.hid (HB1.out.trans (hb.mono HB1.out.size))
        clear x0 x1 x2 hb
        obtain ⟨x0, x1, x2⟩ := HCE.out w2 HB2.out
        go_wp2_with fail
        refine (HC1.out w2 HB2.out).mono ?_
        rintro e w3 ⟨rfl, hb⟩
        have HB3 := Lib.hid (HB2.out.trans (hb.mono HB2.out.size))
        clear x0 x1 x2 hb
        obtain ⟨x0, x1, x2⟩ := HCE.out w3 HB3.out
        go_wp2_with fail
        refine (HC2.out w3 HB3.out).mono ?_
        rintro e w4 ⟨rfl, hb⟩
        have HB4 := Lib.hid (HB3.out.trans (hb.mono HB3.out.size))
        clear x0 x1 x2 hb
        obtain ⟨x0, x1, x2⟩ := HCE.out w4 HB4.out
        go_wp2_with fail
        refine (HC3.out w4 HB4.out).mono ?_
        rintro e w5 ⟨rfl, hb⟩
        have HB5 := Lib.hid (HB4.out.trans (hb.mono HB4.out.size))
        clear x0 x1 x2 hb
        obtain ⟨x0, x1, x2⟩ := HCE.out w5 HB5.out
        go_wp2_with fail
        refine (HC4.out w5 HB5.out).mono ?_
        rintro e w6 ⟨rfl, hb⟩
        have HB6 := Lib.hid (HB5.out.trans (hb.mono HB5.out.size))
        clear x0 x1 x2 hb
        obtain ⟨x0, x1, x2⟩ := HCE.out w6 HB6.out
        go_wp2_with fail
        refine (HCF.out w6 HB6.out).mono ?_
        rintro e w7 ⟨rfl, hb⟩
        have HB7 := Lib.hid (HB6.out.trans (hb.mono HB6.out.size))
        clear x0 x1 x2 hb
        obtain ⟨x0, x1, x2⟩ := HCE.out w7 HB7.out
        go_wp2_with fail
        refine (HCK.out w7 HB7.out).mono ?_
        rintro e w8 ⟨rfl, hb⟩
        have HB8 := Lib.hid (HB7.out.trans (hb.mono HB7.out.size))
        clear x0 x1 x2 hb
        obtain ⟨x0, x1, x2⟩ := HCE.out w8 HB8.out
        go_wp2_with fail
        refine (HC7.out w8 HB8.out).mono ?_
        rintro e w9 ⟨rfl, hb⟩
        have HB9 := Lib.hid (HB8.out.trans (hb.mono HB8.out.size))
        clear x0 x1 x2 hb
        go_wp2_with fail
        refine (knows_yes _).mono ?_
        rintro e wz ⟨rfl, hbz⟩
        go_wp2
        go_ret
        exact ⟨rfl, HB.out.trans (((HB9.out).trans (hbz.mono (HB9.out).size)).mono HB.out.size)⟩
      | false =>
        go_enter Try.func6, Try.ntmps6
        go_wp2_with fail
        rw [← hw0]
        clear hw0
        refine HG.out.mono ?_
        rintro e w1 ⟨rfl, hb1⟩
        have HB1 := Lib.hid hb1
        clear hb1
        obtain ⟨x0, x1, x2⟩ := HCE.out w1 HB1.out
        go_wp2_with fail
        refine (HC0.out w1 HB1.out).mono ?_
        rintro e w2 ⟨rfl, hb⟩
        have HB2 := Lib.hid (HB1.out.trans (hb.mono HB1.out.size))
        clear x0 x1 x2 hb
        obtain ⟨x0, x1, x2⟩ := HCE.out w2 HB2.out
        go_wp2_with fail
        refine (HC1.out w2 HB2.out).mono ?_
        rintro e w3 ⟨rfl, hb⟩
        have HB3 := Lib.hid (HB2.out.trans (hb.mono HB2.out.size))
        clear x0 x1 x2 hb
        obtain ⟨x0, x1, x2⟩ := HCE.out w3 HB3.out
        go_wp2_with fail
        refine (HC2.out w3 HB3.out).mono ?_
        rintro e w4 ⟨rfl, hb⟩
        have HB4 := Lib.hid (HB3.out.trans (hb.mono HB3.out.size))
        clear x0 x1 x2 hb
        obtain ⟨x0, x1, x2⟩ := HCE.out w4 HB4.out
        go_wp2_with fail
        refine (HC3.out w4 HB4.out).mono ?_
        rintro e w5 ⟨rfl, hb⟩
        have HB5 := Lib.hid (HB4.out.trans (hb.mono HB4.out.size))
        clear x0 x1 x2 hb
        obtain ⟨x0, x1, x2⟩ := HCE.out w5 HB5.out
        go_wp2_with fail
        refine (HC4.out w5 HB5.out).mono ?_
        rintro e w6 ⟨rfl, hb⟩
        have HB6 := Lib.hid (HB5.out.trans (hb.mono HB5.out.size))
        clear x0 x1 x2 hb
        obtain ⟨x0, x1, x2⟩ := HCE.out w6 HB6.out
        go_wp2_with fail
        refine (HCF.out w6 HB6.out).mono ?_
        rintro e w7 ⟨rfl, hb⟩
        have HB7 := Lib.hid (HB6.out.trans (hb.mono HB6.out.size))
        clear x0 x1 x2 hb
        obtain ⟨x0, x1, x2⟩ := HCE.out w7 HB7.out
        go_wp2_with fail
        refine (HCK.out w7 HB7.out).mono ?_
        rintro e w8 ⟨rfl, hb⟩
        have HB8 := Lib.hid (HB7.out.trans (hb.mono HB7.out.size))
        clear x0 x1 x2 hb
        obtain ⟨x0, x1, x2⟩ := HCE.out w8 HB8.out
        go_wp2_with fail
        refine (HC7.out w8 HB8.out).mono ?_
        rintro e w9 ⟨rfl, hb⟩
        have HB9 := Lib.hid (HB8.out.trans (hb.mono HB8.out.size))
        clear x0 x1 x2 hb
        go_wp2_with fail
        refine (knows_yes _).mono ?_
        rintro e wz ⟨rfl, hbz⟩
        go_wp2
        go_ret
        exact ⟨rfl, HB.out.trans (((HB9.out).trans (hbz.mono (HB9.out).size)).mono HB.out.size)⟩
end Go.Proofs.Ytoilljilndmmfaa
