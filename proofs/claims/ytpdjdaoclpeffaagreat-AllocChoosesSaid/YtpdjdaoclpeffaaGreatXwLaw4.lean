/- The walk of the statement AllocChooses. -/
import Derived.Test.YtpdjdaoclpeffaaGreatXwOk
import Derived.Test.YtpdjdaoclpeffaaGreatXwRef3
import Derived.BigQuiet
import Derived.Deep.QuietTactic
import Derived.Deep.RegionHeld3
set_option maxRecDepth 8000
namespace Go.Proofs.YtpdjdaoclpeffaaGreat.Xw
open Go.RowKit Co By Ky Rc Ew Jw La Tb Lw Cf Al Bw
open Vw (Cx RdPl layP atP FiR AdR KeR isI cel3C)
open Dw (ba ba_size ba_data ba_list alloc_more)

set_option maxHeartbeats 8000000 in
theorem chooses_walk (d : Nd) (a : Int) (w : World) (hx : d.x.ok w.heap.size w) (ht : RdLs w.heap.size w d.A d.n d.c d.l) (hf : ∀ a ∈ d.l, Fk a) (hk : d.k.length ≤ 9223372036854775807) (ha : (Lit.int .i64 a).wf = true) :
    Calls Tryz.prog 4 #[d.x.v, .slice d.A d.n d.c, .int .i64 d.net, .string (ba d.k), .int .i64 a, .int .i64 d.now] w (isTrue w) := by
  obtain ⟨w0, hw0, hc0, hb0⟩ := boxC1 w d.x
  have HG := Lib.hid (Xw.great_any d.x d.A d.n d.c w.heap.size d.l d.k w0 (hx.below hb0) (ht.below hb0) hb0.size hf hk)
  have HC0 := Lib.hid hc0
  have HB0 := Lib.hid hb0
  cases hg : greatA d.x.cf d.l d.k with
  | true =>
    rw [hg] at HG
    clear hg hx ht hf hk hc0 hb0
    go_enter Tryz.func4, Tryz.ntmps4
    go_upto_region 1 with fail
    rw [← hw0]
    clear hw0
    obtain ⟨c0, c1, c2⟩ := cel3C HC0.out
    go_wp2_with fail
    refine (HG.out).mono ?_
    rintro e w1 ⟨rfl, hb1⟩
    have HB1 := Lib.hid (HB0.out.trans (hb1.mono HB0.out.size))
    have HC1 := Lib.hid (HC0.out.below hb1 HC0.out.lt)
    clear c0 c1 c2
    obtain ⟨c0, c1, c2⟩ := cel3C HC1.out
    clear hb1
    go_wp2_with fail
    refine (knows_yes _).mono ?_
    rintro e w2 ⟨rfl, hb2⟩
    have HB2 := Lib.hid (HB1.out.trans (hb2.mono HB1.out.size))
    have HC2 := Lib.hid (HC1.out.below hb2 HC1.out.lt)
    clear c0 c1 c2
    obtain ⟨c0, c1, c2⟩ := cel3C HC2.out
    clear hb2
    go_wp2
    go_ret
    exact ⟨rfl, HB2.out⟩
  | false =>
    rw [hg] at HG
    have hok := nd_ok hx ht hf hk hg
    have HCH := Lib.hid (fun W (hW : Below w.heap.size w W) => Choose_any d a w.heap.size W (hok.below hW) hW.size (i64_in ha).1 (i64_in ha).2)
    have HRC := Lib.hid (fun W (hW : Below w.heap.size w W) => refChoose_any d a w.heap.size W (hok.below hW) hW.size)
    generalize chooseA d.x.cf d.l d.net d.k a d.now = u at HCH HRC
    obtain ⟨b, ok⟩ := u
    have hz1 : (b == b) = true := beq_self_eq_true b
    have hz2 : (ok == ok) = true := beq_self_eq_true ok
    clear hg hx ht hf hk hc0 hb0 hok ha
    go_enter Tryz.func4, Tryz.ntmps4
    go_upto_region 1 with fail
    rw [← hw0]
    clear hw0
    obtain ⟨c0, c1, c2⟩ := cel3C HC0.out
    go_wp2_with fail
    refine (HG.out).mono ?_
    rintro e w1 ⟨rfl, hb1⟩
    have HB1 := Lib.hid (HB0.out.trans (hb1.mono HB0.out.size))
    have HC1 := Lib.hid (HC0.out.below hb1 HC0.out.lt)
    clear c0 c1 c2
    obtain ⟨c0, c1, c2⟩ := cel3C HC1.out
    clear hb1
    go_wp2_with fail
    refine (HCH.out _ HB1.out).mono ?_
    rintro e w2 ⟨rfl, hb2⟩
    have HB2 := Lib.hid (HB1.out.trans (hb2.mono HB1.out.size))
    have HC2 := Lib.hid (HC1.out.below hb2 HC1.out.lt)
    clear c0 c1 c2
    obtain ⟨c0, c1, c2⟩ := cel3C HC2.out
    clear hb2
    go_wp2_with fail
    refine (HRC.out _ HB2.out).mono ?_
    rintro e w3 ⟨rfl, hb3⟩
    have HB3 := Lib.hid (HB2.out.trans (hb3.mono HB2.out.size))
    have HC3 := Lib.hid (HC2.out.below hb3 HC2.out.lt)
    clear c0 c1 c2
    obtain ⟨c0, c1, c2⟩ := cel3C HC3.out
    clear hb3
    go_wp2_with fail
    refine (knows_yes _).mono ?_
    rintro e w4 ⟨rfl, hb4⟩
    have HB4 := Lib.hid (HB3.out.trans (hb4.mono HB3.out.size))
    have HC4 := Lib.hid (HC3.out.below hb4 HC3.out.lt)
    clear c0 c1 c2
    obtain ⟨c0, c1, c2⟩ := cel3C HC4.out
    clear hb4
    go_wp2
    go_ret
    exact ⟨rfl, HB4.out⟩
end Go.Proofs.YtpdjdaoclpeffaaGreat.Xw
namespace Go.Proofs.YtpdjdaoclpeffaaGreat
open Go.RowKit Co By Rc Ew Jw Xw
open Vw (Cx)
open Dw (ba)
theorem allocChooses_walk (x : Cx) (A : Option Addr) (n c : Nat) (l : List L) (net : Int) (k : List UInt8) (a now : Int) (w : World) (hx : x.ok w.heap.size w) (ht : RdLs w.heap.size w A n c l) (hf : ∀ a ∈ l, Fk a) (hk : k.length ≤ 9223372036854775807) (ha : (Lit.int .i64 a).wf = true) :
    Calls Tryz.prog 4 #[x.v, .slice A n c, .int .i64 net, .string (ba k), .int .i64 a, .int .i64 now] w (isTrue w) := chooses_walk ⟨x, A, n, c, l, net, k, now⟩ a w hx ht hf hk ha
end Go.Proofs.YtpdjdaoclpeffaaGreat
