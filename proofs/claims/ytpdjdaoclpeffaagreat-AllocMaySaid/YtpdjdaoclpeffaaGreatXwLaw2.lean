/- The walk of the statement AllocMay. -/
import Derived.Test.YtpdjdaoclpeffaaGreatXwOk
import Derived.Test.YtpdjdaoclpeffaaGreatXwRef2
import Derived.BigQuiet
import Derived.Deep.QuietTactic
import Derived.Deep.RegionHeld3
set_option maxRecDepth 8000
namespace Go.Proofs.YtpdjdaoclpeffaaGreat.Xw
open Go.RowKit Co By Ky Rc Ew Jw La Tb Lw Cf Al Bw
open Vw (Cx RdPl layP atP FiR AdR KeR isI cel3C)
open Dw (ba ba_size ba_data ba_list alloc_more)

set_option maxHeartbeats 8000000 in
theorem may_walk (d : Nd) (a : Int) (w : World) (hx : d.x.ok w.heap.size w) (ht : RdLs w.heap.size w d.A d.n d.c d.l) (hf : ∀ a ∈ d.l, Fk a) (hk : d.k.length ≤ 9223372036854775807) :
    Calls Tryz.prog 3 #[d.x.v, .slice d.A d.n d.c, .int .i64 d.net, .string (ba d.k), .int .i64 a, .int .i64 d.now] w (isTrue w) := by
  obtain ⟨w0, hw0, hc0, hb0⟩ := boxC1 w d.x
  have HG := Lib.hid (Xw.great_any d.x d.A d.n d.c w.heap.size d.l d.k w0 (hx.below hb0) (ht.below hb0) hb0.size hf hk)
  have HC0 := Lib.hid hc0
  have HB0 := Lib.hid hb0
  cases hg : greatA d.x.cf d.l d.k with
  | true =>
    rw [hg] at HG
    clear hg hx ht hf hk hc0 hb0
    go_enter Tryz.func3, Tryz.ntmps3
    go_upto_region 1 with fail
    rw [← hw0]
    clear hw0
    obtain ⟨c0, c1, c2⟩ := cel3C HC0.out
    go_wp2_with fail
    refine (HG.out).mono ?_
    rintro e w1 ⟨rfl, hb1⟩
    have HB1 := Lib.hid (HB0.out.trans (hb1.mono HB0.out.size))
    have HC1 := Lib.hid (HC0.out.below hb1 HC0.out.lt)
    clear c0 c1 c2
    obtain ⟨c0, c1, c2⟩ := cel3C HC1.out
    clear hb1
    go_wp2_with fail
    refine (knows_yes _).mono ?_
    rintro e w2 ⟨rfl, hb2⟩
    have HB2 := Lib.hid (HB1.out.trans (hb2.mono HB1.out.size))
    have HC2 := Lib.hid (HC1.out.below hb2 HC1.out.lt)
    clear c0 c1 c2
    obtain ⟨c0, c1, c2⟩ := cel3C HC2.out
    clear hb2
    go_wp2
    go_ret
    exact ⟨rfl, HB2.out⟩
  | false =>
    rw [hg] at HG
    have hok := nd_ok hx ht hf hk hg
    have HM := Lib.hid (fun W (hW : Below w.heap.size w W) => May_any d a w.heap.size W (hok.below hW) hW.size)
    have HR := Lib.hid (fun W (hW : Below w.heap.size w W) => refMay_any d a w.heap.size W (hok.below hW) hW.size)
    generalize mayA d.x.cf d.l d.net d.k a d.now = z at HM HR
    have hzz : (z == z) = true := beq_self_eq_true z
    clear hg hx ht hf hk hc0 hb0 hok
    go_enter Tryz.func3, Tryz.ntmps3
    go_upto_region 1 with fail
    rw [← hw0]
    clear hw0
    obtain ⟨c0, c1, c2⟩ := cel3C HC0.out
    go_wp2_with fail
    refine (HG.out).mono ?_
    rintro e w1 ⟨rfl, hb1⟩
    have HB1 := Lib.hid (HB0.out.trans (hb1.mono HB0.out.size))
    have HC1 := Lib.hid (HC0.out.below hb1 HC0.out.lt)
    clear c0 c1 c2
    obtain ⟨c0, c1, c2⟩ := cel3C HC1.out
    clear hb1
    have KK : Hid (∀ W, Below w1.heap.size w1 W → W.cell? ⟨w.heap.size, 0, none⟩ = some (.int .i64 d.x.server) ∧ W.cell? ⟨w.heap.size, 1, none⟩ = some (.int .i64 d.x.prob) ∧ W.cell? ⟨w.heap.size, 2, none⟩ = some (.slice d.x.A d.x.n d.x.c)) := fun W hW => cel3C (HC1.out.below hW HC1.out.lt)
    have HD1 := Lib.hid (fun W (hW : Below w1.heap.size w1 W) => HM.out W (HB1.out.trans (hW.mono HB1.out.size)))
    have HD2 := Lib.hid (fun W (hW : Below w1.heap.size w1 W) => HR.out W (HB1.out.trans (hW.mono HB1.out.size)))
    clear HM HR c0 c1 c2
    go_wp2_with fail
    go_region_held3 (fun W => W.cell? ⟨w.heap.size, 0, none⟩ = some (.int .i64 d.x.server) ∧ W.cell? ⟨w.heap.size, 1, none⟩ = some (.int .i64 d.x.prob) ∧ W.cell? ⟨w.heap.size, 2, none⟩ = some (.slice d.x.A d.x.n d.x.c))
      (first
        | exact KK.out _ (Below.refl _ _)
        | exact KK.out _ (Below.refl _ _).drew
        | exact KK.out _ hbx3
        | exact KK.out _ hbx2
        | exact KK.out _ hbx1)
      (first
        | (go_simp; go_at_call 9; (with_reducible refine (HD1.out _ (Below.refl _ _).drew).mono ?_); rintro ee wu1 ⟨rfl, hbu1⟩; have hbx1 : Below w1.heap.size w1 wu1 := below_undrew hbu1)
        | (go_simp; go_at_call 10; (with_reducible refine (HD2.out _ hbx1).mono ?_); rintro ee wu2 ⟨rfl, hbu2⟩; have hbx2 : Below w1.heap.size w1 wu2 := hbx1.trans (hbu2.mono hbx1.size))
        | (go_simp; go_at_call 8; (with_reducible refine (knows_yes _).mono ?_); rintro ee wu3 ⟨rfl, hbu3⟩; have hbx3 : Below w1.heap.size w1 wu3 := hbx2.trans (hbu3.mono hbx2.size)))
    all_goals (
      go_wp2
      go_ret
      exact ⟨rfl, HB1.out.trans (hbx3.mono HB1.out.size)⟩)
end Go.Proofs.YtpdjdaoclpeffaaGreat.Xw
namespace Go.Proofs.YtpdjdaoclpeffaaGreat
open Go.RowKit Co By Rc Ew Jw Xw
open Vw (Cx)
open Dw (ba)
theorem allocMay_walk (x : Cx) (A : Option Addr) (n c : Nat) (l : List L) (net : Int) (k : List UInt8) (a now : Int) (w : World) (hx : x.ok w.heap.size w) (ht : RdLs w.heap.size w A n c l) (hf : ∀ a ∈ l, Fk a) (hk : k.length ≤ 9223372036854775807) :
    Calls Tryz.prog 3 #[x.v, .slice A n c, .int .i64 net, .string (ba k), .int .i64 a, .int .i64 now] w (isTrue w) := may_walk ⟨x, A, n, c, l, net, k, now⟩ a w hx ht hf hk
end Go.Proofs.YtpdjdaoclpeffaaGreat
