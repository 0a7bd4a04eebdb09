/- What conf's Check comes to: what is wrong with a configuration. Condition: it is small (boarderlaw13's Great is false). -/
import Derived.Test.YtoilljilndmmfaaVwSn
import Derived.Test.YtoilljilndmmfaaVwGreat
set_option maxRecDepth 8000
namespace Go.Proofs.Ytoilljilndmmfaa.Vw
open Go.RowKit By Cf Ad Ky
open Dw (ba ba_size ba_data ba_list alloc_more)

theorem nets_any (f : List Sn → Bool) (ns : List Nx) : (netsOf ns).any f = ns.any fun y => f y.l := by unfold netsOf; rw [List.any_map]; rfl
/-- Memory that has a configuration in a new block. -/
theorem boxedC (w : World) (x : Cx) : ∃ w0, w0 = w.alloc (.cells x.cs 24) ∧ Cel w0 w.heap.size 24 x.cs ∧ Below w.heap.size w w0 := ⟨_, rfl, Cel.born _ _ _, alloc_more _ _⟩
set_option maxHeartbeats 4000000 in
theorem wrongC_any (x : Cx) (U : Nat) (w : World) (h : x.ok U w) (hU : U ≤ w.heap.size) : Calls Try.prog 24 #[x.v] w (isB (wrongC x.cf) w) := by
  obtain ⟨w0, hw0, hc0, hb0⟩ := boxedC w x
  have hz : w0.heap.size = w.heap.size + 1 := by rw [hw0]; simp
  have HN := Lib.hid (hasN 49 (fun args W => by rfl) #[] (fun y => !sizeN y.l) x.A x.n x.c U x.ns w0 (h.rd.below (hb0.mono hU)) (by omega) (fun y _ m hm W _ => by
    rw [app0]
    have := netSize_any y.A m y.c W (Nat.le_trans hm.cap hm.max)
    rw [show decide (1 ≤ m ∧ m ≤ 4) = sizeN y.l by unfold sizeN Nx.l; rw [sns_len, hm.len]] at this
    exact this))
  rw [← nets_any (fun n => !sizeN n)] at HN
  have HL := Lib.hid h.nets
  have hcap := h.rd.cap
  have hmax := h.rd.max
  have HR := Lib.hid (fun W => Aw.right_any x.server W)
  have HS := Lib.hid (fun W => span_any x.prob W)
  have HB := Lib.hid hb0
  have HC0 := Lib.hid hc0
  clear h hU hc0 hb0 hz
  have hdef : wrongC x.cf = (!rightB x.server || !spanB x.prob || decide (4 < x.cf.nets.length) || (netsOf x.ns).any fun n => !sizeN n) := rfl
  cases f0 : rightB x.server with
  | false =>
    have H : Hid (wrongC x.cf = true) := by show _ = _; rw [hdef, f0]; simp
    rw [f0] at HR
    clear hdef
    go_enter Try.func24, Try.ntmps24
    go_upto_region 1 with fail
    rw [← hw0]
    clear hw0
    obtain ⟨c0, c1, c2⟩ := cel3C HC0.out
    go_wp2_with fail
    refine (HR.out w0).mono ?_
    rintro e w1 ⟨rfl, rfl⟩
    go_wp2
    go_ret
    exact ⟨ret_bool H.out.symm, HB.out⟩
  | true =>
  rw [f0] at HR
  cases f1 : decide (1 ≤ x.prob ∧ x.prob ≤ 2147483648) with
  | false =>
    have H : Hid (wrongC x.cf = true) := by show _ = _; rw [hdef, f0, show spanB x.prob = false from f1]; simp
    rw [f1] at HS
    clear hdef
    go_enter Try.func24, Try.ntmps24
    go_upto_region 1 with fail
    rw [← hw0]
    clear hw0
    obtain ⟨c0, c1, c2⟩ := cel3C HC0.out
    go_wp2_with fail
    refine (HR.out w0).mono ?_
    rintro e w1 ⟨rfl, rfl⟩
    go_wp2_with fail
    refine (HS.out _).mono ?_
    rintro e w1 ⟨rfl, rfl⟩
    go_wp2
    go_ret
    exact ⟨ret_bool H.out.symm, HB.out⟩
  | true =>
  rw [f1] at HS
  by_cases g2 : (x.n : Int) > 4
  · have H : Hid (wrongC x.cf = true) := by show _ = _; rw [hdef, f0, show spanB x.prob = true from f1, decide_eq_true (show 4 < x.cf.nets.length by rw [HL.out]; omega)]; simp
    clear hdef
    go_enter Try.func24, Try.ntmps24
    go_upto_region 1 with fail
    rw [← hw0]
    clear hw0
    obtain ⟨c0, c1, c2⟩ := cel3C HC0.out
    go_wp2_with fail
    refine (HR.out w0).mono ?_
    rintro e w1 ⟨rfl, rfl⟩
    go_wp2_with fail
    refine (HS.out _).mono ?_
    rintro e w1 ⟨rfl, rfl⟩
    go_wp2
    go_ret
    exact ⟨ret_bool H.out.symm, HB.out⟩
  have K2 : Hid (decide ((4 : Int) < x.n) = false) := decide_eq_false g2
  have H : Hid (wrongC x.cf = (netsOf x.ns).any fun n => !sizeN n) := by show _ = _; rw [hdef, f0, show spanB x.prob = true from f1, decide_eq_false (show ¬ 4 < x.cf.nets.length by rw [HL.out]; omega)]; simp
  clear hdef
  go_enter Try.func24, Try.ntmps24
  go_upto_region 1 with fail
  rw [← hw0]
  clear hw0
  obtain ⟨c0, c1, c2⟩ := cel3C HC0.out
  go_wp2_with fail
  refine (HR.out w0).mono ?_
  rintro e w1 ⟨rfl, rfl⟩
  go_wp2_with fail
  refine (HS.out _).mono ?_
  rintro e w1 ⟨rfl, rfl⟩
  go_wp2_with fail
  refine HN.out.mono ?_
  rintro e w1 ⟨rfl, hb1⟩
  go_wp2
  go_ret
  exact ⟨ret_bool (by rw [H.out, K2.out]; rfl), HB.out.trans (hb1.mono HB.out.size)⟩
set_option maxHeartbeats 4000000 in
theorem check1_any (x : Cx) (p : Px) (pn rn U g : Nat) (w : World) (hok : p.x.ok U w pn rn) (hU : U ≤ w.heap.size) (hg : g < w.heap.size) (hc : Cel w g 24 x.cs) (hf : fairB p.x.base p.x.bits = true) :
    Calls Try.prog 27 #[p.v pn rn, .pointer (some ⟨g, 0, none⟩)] w (isB (strayB p.x.s || takesB p.x.s x.server) w) := by
  obtain ⟨w0, hw0, hc0, hb0⟩ := boxed w p pn rn
  have hz : w0.heap.size = w.heap.size + 1 := by rw [hw0]; simp
  have HS := Lib.hid (strays_any p pn rn U w0 (hok.below (hb0.mono hU)) (by omega) hf)
  have HT := Lib.hid (fun w1 (h1 : Below w0.heap.size w0 w1) => takes_any p pn rn U x.server w1 ((hok.below (hb0.mono hU)).below (h1.mono (by omega))) (by have := h1.size; omega))
  have HB := Lib.hid hb0
  have HC0 := Lib.hid hc0
  have HG := Lib.hid (hc.below hb0 hg)
  clear hok hU hg hc hf hc0 hb0 hz
  cases h1 : strayB p.x.s with
  | true =>
    rw [h1] at HS
    clear h1
    go_enter Try.func27, Try.ntmps27
    go_wp2_with fail
    rw [← hw0]
    clear hw0
    refine HS.out.mono ?_
    rintro e w1 ⟨rfl, hb1⟩
    go_wp2
    go_ret
    exact ⟨rfl, HB.out.trans (hb1.mono HB.out.size)⟩
  | false =>
    rw [h1] at HS
    clear h1
    go_enter Try.func27, Try.ntmps27
    go_wp2_with fail
    rw [← hw0]
    clear hw0
    refine HS.out.mono ?_
    rintro e w1 ⟨rfl, hb1⟩
    obtain ⟨c0, c1, c2, c3, c4, c5, c6, c7, c8⟩ := cel9 (HC0.out.below hb1 HC0.out.lt)
    obtain ⟨d0, d1, d2⟩ := cel3C (HG.out.below hb1 HG.out.lt)
    have HB1 := Lib.hid (HB.out.trans (hb1.mono HB.out.size))
    have HTT := Lib.hid (HT.out w1 hb1)
    clear hb1
    go_wp2_with fail
    refine HTT.out.mono ?_
    rintro e w2 ⟨rfl, hb2⟩
    go_wp2
    go_ret
    exact ⟨rfl, HB1.out.trans (hb2.mono HB1.out.size)⟩
set_option maxHeartbeats 1000000 in
theorem pooled_any (p : Px) (pn rn U : Nat) (w : World) (hok : p.x.ok U w pn rn) (hU : U ≤ w.heap.size) : Calls Try.prog 66 #[p.v pn rn] w (isB (pooledB p.x.s) w) := by
  obtain ⟨w0, hw0, _, hb0⟩ := boxed w p pn rn
  have hz : w0.heap.size = w.heap.size + 1 := by rw [hw0]; simp
  have HC := Lib.hid (any2P 68 (fun args W => by rfl) plMeet p.x.pA pn p.x.pc U p.x.pools w0 (hok.p.below (hb0.mono hU)) (by omega) (fun a _ b _ W => plMeet_any a b W))
  have HB := Lib.hid hb0
  clear hok hU hb0 hz
  go_enter Try.func66, Try.ntmps66
  go_wp2_with fail
  rw [← hw0]
  clear hw0
  refine HC.out.mono ?_
  rintro e w1 ⟨rfl, hb1⟩
  go_wp2
  go_ret
  exact ⟨rfl, HB.out.trans (hb1.mono HB.out.size)⟩
theorem ok_of {U V n c pn rn : Nat} {w W : World} {A : Option Addr} {ps : List Px} {p : Px} (h : RdPx U w A n c ps) (hp : p ∈ ps) (h1 : p.x.pools.length = pn) (h2 : p.x.res.length = rn) (hV : U ≤ V) (hb : Below V w W) : p.x.ok U W pn rn := by
  subst h1 h2
  exact (h.2 p hp).below (hb.mono hV)
set_option maxHeartbeats 4000000 in
theorem clash_any (A : Option Addr) (n c U : Nat) (ps : List Px) (w : World) (h : RdPx U w A n c ps) (hU : U ≤ w.heap.size) (hn : n ≤ 100) (hs : ∀ p ∈ ps, p.x.res.length ≤ 20) :
    Calls Try.prog 30 #[.slice A n c] w (isB (twiceL (ps.map Px.ns)) w) := by
  have H1 := Lib.hid (any2X 62 (fun args W => by rfl) (fun a b => snClash a.ns b.ns) A n c U ps w h hU (fun a _ b _ pn rn qn sn W => pnClash_any a b pn rn qn sn W))
  rw [← pair_map (p := fun a b : Px => snClash a.ns b.ns) (q := snClash) Px.ns (fun _ _ => rfl) ps] at H1
  have H2 := Lib.hid (fun w1 (b1 : Below w.heap.size w w1) => reserves_any A n c U ps w1 (h.below (b1.mono hU)) (Nat.le_trans hU b1.size) hn hs)
  have H3 := Lib.hid (fun w1 A2 n2 c2 (r2 : RdKx w1.heap.size w1 A2 n2 c2 (kxF ps)) => any2K 65 (fun args W => by rfl) (fun a b => rsClash a.nr b.nr) A2 n2 c2 w1.heap.size (kxF ps) w1 r2 (Nat.le_refl _) (fun a _ b _ W => rsClash_any a b W))
  rw [← pair_map (p := fun a b : Kx => rsClash a.nr b.nr) (q := rsClash) Kx.nr (fun _ _ => rfl) (kxF ps), kxF_nr] at H3
  have H4 := Lib.hid (fun w1 (b1 : Below w.heap.size w w1) => hasX 66 (fun args W => by rfl) #[] (fun p => pooledB p.x.s) A n c U ps w1 (h.below (b1.mono hU)) (Nat.le_trans hU b1.size)
    (fun p hp pn rn e1 e2 W hW => by rw [app0]; exact pooled_any p pn rn U W (ok_of (h.below (b1.mono hU)) hp e1 e2 (Nat.le_trans hU b1.size) hW) (Nat.le_trans hU (Nat.le_trans b1.size hW.size))))
  have HT : Hid ((pairB snClash (ps.map Px.ns) || pairB rsClash (resA (ps.map Px.ns)) || ps.any fun p => pooledB p.x.s) = twiceL (ps.map Px.ns)) := by
    show _ = _
    rw [← twice_code, List.any_map]
    rfl
  clear h hU hn hs
  cases h1 : pairB snClash (ps.map Px.ns) with
  | true =>
    rw [h1] at H1 HT
    clear h1
    go_enter Try.func30, Try.ntmps30
    go_wp2_with fail
    refine H1.out.mono ?_
    rintro e w1 ⟨rfl, hb1⟩
    go_wp2
    go_ret
    exact ⟨ret_bool HT.out, hb1⟩
  | false =>
  rw [h1] at H1 HT
  clear h1
  cases h2 : pairB rsClash (resA (ps.map Px.ns)) with
  | true =>
    rw [h2] at H3 HT
    clear h2
    go_enter Try.func30, Try.ntmps30
    go_wp2_with fail
    refine H1.out.mono ?_
    rintro e w1 ⟨rfl, hb1⟩
    go_wp2_with fail
    refine (H2.out w1 hb1).mono ?_
    rintro e w2 ⟨A2, n2, c2, rfl, r2, hb2⟩
    have HB2 := Lib.hid (hb1.trans (hb2.mono hb1.size))
    go_wp2_with fail
    refine (H3.out w2 A2 n2 c2 r2).mono ?_
    rintro e w3 ⟨rfl, hb3⟩
    go_wp2
    go_ret
    exact ⟨ret_bool HT.out, HB2.out.trans (hb3.mono HB2.out.size)⟩
  | false =>
    rw [h2] at H3 HT
    clear h2
    go_enter Try.func30, Try.ntmps30
    go_wp2_with fail
    refine H1.out.mono ?_
    rintro e w1 ⟨rfl, hb1⟩
    go_wp2_with fail
    refine (H2.out w1 hb1).mono ?_
    rintro e w2 ⟨A2, n2, c2, rfl, r2, hb2⟩
    have HB2 := Lib.hid (hb1.trans (hb2.mono hb1.size))
    go_wp2_with fail
    refine (H3.out w2 A2 n2 c2 r2).mono ?_
    rintro e w3 ⟨rfl, hb3⟩
    have HB3 := Lib.hid (HB2.out.trans (hb3.mono HB2.out.size))
    go_wp2_with fail
    refine (H4.out w3 HB3.out).mono ?_
    rintro e w4 ⟨rfl, hb4⟩
    go_wp2
    go_ret
    exact ⟨ret_bool HT.out, HB3.out.trans (hb4.mono HB3.out.size)⟩
end Go.Proofs.Ytoilljilndmmfaa.Vw
