/- What conf's Check comes to: what is wrong with a configuration; and known: the subnets in which something may be found. Condition: it is small (boarderlaw13's Great is false). -/
import Derived.Test.YtoilljilndmmfaaVwCheck
set_option maxRecDepth 8000
namespace Go.Proofs.Ytoilljilndmmfaa.Vw
open Go.RowKit By Cf Ad Ky
open Dw (ba ba_size ba_data ba_list alloc_more)

/-- The answer is a number; what was in memory stays. -/
def isI (z : Int) (w : World) (e : Ending) (w' : World) : Prop := e = .returned (.int .i64 z) ∧ Below w.heap.size w w'
theorem flat_px (ns : List Nx) : flatN 0 (netsOf ns) = (pxF 0 ns).map Px.ns := (pxF_ns 0 ns).symm
theorem px_any (f : Nat × Sn → Bool) (ns : List Nx) : (flatN 0 (netsOf ns)).any f = (pxF 0 ns).any fun p => f p.ns := by rw [flat_px, List.any_map]; rfl
theorem mem_px {ns : List Nx} {p : Px} (h : p ∈ pxF 0 ns) : ∃ n ∈ netsOf ns, p.x.s ∈ n := by
  obtain ⟨y, hy, hp⟩ := mem_pxF h
  exact ⟨y.l, List.mem_map.2 ⟨y, hy, rfl⟩, List.mem_map.2 ⟨p.x, hp, rfl⟩⟩
theorem small_res {x : Cx} (hS : Small x.cf) : ∀ p ∈ pxF 0 x.ns, p.x.res.length ≤ 20 := fun p hp => by
  obtain ⟨n, hn, hs⟩ := mem_px hp
  exact hS.res n hn p.x.s hs
theorem small_sns {x : Cx} (hS : Small x.cf) : ∀ y ∈ x.ns, y.xs.length ≤ 10 := fun y hy => by
  have := hS.sns y.l (List.mem_map.2 ⟨y, hy, rfl⟩)
  rwa [show y.l.length = y.xs.length from sns_len y.xs] at this
theorem small_n {x : Cx} {U : Nat} {w : World} (h : x.ok U w) (hS : Small x.cf) : x.n ≤ 10 := by rw [← h.nets]; exact hS.nets
theorem small_px {x : Cx} {U : Nat} {w : World} (h : x.ok U w) (hS : Small x.cf) : (pxF 0 x.ns).length ≤ 100 := by
  have := pxF_len x.ns 0 (small_sns hS)
  have := small_n h hS
  have := h.len
  omega
set_option maxHeartbeats 4000000 in
theorem check_any (x : Cx) (U : Nat) (w : World) (h : x.ok U w) (hU : U ≤ w.heap.size) (hS : Small x.cf) : Calls Try.prog 10 #[x.v] w (isI (checkC x.cf) w) := by
  obtain ⟨w0, hw0, hc0, hb0⟩ := boxedC w x
  have hz : w0.heap.size = w.heap.size + 1 := by rw [hw0]; simp
  have h0 := h.below (hb0.mono hU)
  have HA := Lib.hid (subnets_any x U w0 h0 (by omega) (small_n h hS) (small_sns hS))
  have HWC := Lib.hid (fun w1 (b1 : Below w0.heap.size w0 w1) => wrongC_any x U w1 (h0.below (b1.mono (by omega))) (by have := b1.size; omega))
  have HF : Hid ((!formC x.cf) = (wrongC x.cf || (pxF 0 x.ns).any fun p => !snF p.x.s)) := by
    show _ = _
    rw [form_code, show x.cf.nets = netsOf x.ns from rfl, px_any]
    rfl
  have HPC : Hid ((!placesC x.cf) = (pxF 0 x.ns).any fun p => strayB p.x.s || takesB p.x.s x.server) := by
    show _ = _
    rw [places_code, show x.cf.nets = netsOf x.ns from rfl, px_any]
    rfl
  have HTW : Hid (twiceC x.cf = twiceL ((pxF 0 x.ns).map Px.ns)) := by
    show _ = _
    unfold twiceC
    rw [show x.cf.nets = netsOf x.ns from rfl, flat_px]
  have HX1 := Lib.hid (fun w1 w2 A n c (r1 : RdPx w1.heap.size w1 A n c (pxF 0 x.ns)) (b2 : Below w1.heap.size w1 w2) => hasX 26 (fun args W => by rfl) #[] (fun p => !snF p.x.s) A n c w1.heap.size (pxF 0 x.ns) w2 (r1.below b2) b2.size
    (fun p hp pn rn e1 e2 W hW => by rw [app0]; exact wrong_any p pn rn w1.heap.size W (ok_of (r1.below b2) hp e1 e2 b2.size hW) (Nat.le_trans b2.size hW.size)))
  have HX2 := Lib.hid (fun w1 w2 A n c (hf : ((pxF 0 x.ns).any fun p => !snF p.x.s) = false) (b0 : Below w0.heap.size w0 w2) (r1 : RdPx w1.heap.size w1 A n c (pxF 0 x.ns)) (b2 : Below w1.heap.size w1 w2) => hasX 27 (fun args W => by rfl) #[.pointer (some ⟨w.heap.size, 0, none⟩)] (fun p => strayB p.x.s || takesB p.x.s x.server) A n c w1.heap.size (pxF 0 x.ns) w2 (r1.below b2) b2.size
    (fun p hp pn rn e1 e2 W hW => by
      rw [app1]
      have hfp : snF p.x.s = true := by
        have := List.any_eq_false.1 hf p hp
        simpa using this
      exact check1_any x p pn rn w1.heap.size _ W (ok_of (r1.below b2) hp e1 e2 b2.size hW) (Nat.le_trans b2.size hW.size) (by have := b0.size; have := hW.size; omega) ((hc0.below b0 hc0.lt).below hW (Nat.lt_of_lt_of_le hc0.lt b0.size)) (sn_fair hfp)))
  have HX3 := Lib.hid (fun w1 w2 A n c (r1 : RdPx w1.heap.size w1 A n c (pxF 0 x.ns)) (b2 : Below w1.heap.size w1 w2) => clash_any A n c w1.heap.size (pxF 0 x.ns) w2 (r1.below b2) b2.size (by have := r1.len; have := small_px h hS; omega) (small_res hS))
  have HB := Lib.hid hb0
  have HC0 := Lib.hid hc0
  have hdef : checkC x.cf = if formC x.cf = true then (if placesC x.cf = true then (if twiceC x.cf = true then 8 else 0) else 9) else 1 := rfl
  clear h hU hS hc0 hb0 hz h0
  cases f1 : wrongC x.cf with
  | true =>
    have H : Hid (checkC x.cf = 1) := by
      show _ = _
      have hf : formC x.cf = false := by have := HF.out; rw [f1] at this; simpa using this
      rw [hdef, hf]
      rfl
    rw [f1] at HWC
    clear f1 hdef
    go_enter Try.func10, Try.ntmps10
    go_wp2_with fail
    rw [← hw0]
    clear hw0
    refine HA.out.mono ?_
    rintro e w1 ⟨A, n, c, rfl, r1, hb1⟩
    obtain ⟨c0, c1, c2⟩ := cel3C (HC0.out.below hb1 HC0.out.lt)
    have HB1 := Lib.hid (HB.out.trans (hb1.mono HB.out.size))
    have HW1 := Lib.hid (HWC.out w1 hb1)
    clear hb1
    go_wp2_with fail
    refine HW1.out.mono ?_
    rintro e w2 ⟨rfl, hb2⟩
    go_wp2
    go_ret
    exact ⟨ret_int H.out.symm, HB1.out.trans (hb2.mono HB1.out.size)⟩
  | false =>
  rw [f1] at HWC
  cases f2 : ((pxF 0 x.ns).any fun p => !snF p.x.s) with
  | true =>
    have H : Hid (checkC x.cf = 1) := by
      show _ = _
      have hf : formC x.cf = false := by have := HF.out; rw [f1, f2] at this; simpa using this
      rw [hdef, hf]
      rfl
    rw [f2] at HX1
    clear f1 f2 hdef
    go_enter Try.func10, Try.ntmps10
    go_wp2_with fail
    rw [← hw0]
    clear hw0
    refine HA.out.mono ?_
    rintro e w1 ⟨A, n, c, rfl, r1, hb1⟩
    obtain ⟨c0, c1, c2⟩ := cel3C (HC0.out.below hb1 HC0.out.lt)
    have HB1 := Lib.hid (HB.out.trans (hb1.mono HB.out.size))
    have HW1 := Lib.hid (HWC.out w1 hb1)
    clear hb1
    go_wp2_with fail
    refine HW1.out.mono ?_
    rintro e w2 ⟨rfl, hb2⟩
    have HB2 := Lib.hid (HB1.out.trans (hb2.mono HB1.out.size))
    have HY := Lib.hid (HX1.out w1 w2 A n c r1 hb2)
    clear hb2
    go_wp2_with fail
    refine HY.out.mono ?_
    rintro e w3 ⟨rfl, hb3⟩
    go_wp2
    go_ret
    exact ⟨ret_int H.out.symm, HB2.out.trans (hb3.mono HB2.out.size)⟩
  | false =>
  have hf : formC x.cf = true := by have := HF.out; rw [f1, f2] at this; simpa using this
  have HX2F := Lib.hid (fun w1 w2 A n c => HX2.out w1 w2 A n c f2)
  rw [f2] at HX1
  clear f1 f2 HX2
  cases f3 : ((pxF 0 x.ns).any fun p => strayB p.x.s || takesB p.x.s x.server) with
  | true =>
    have H : Hid (checkC x.cf = 9) := by
      show _ = _
      have hp : placesC x.cf = false := by have := HPC.out; rw [f3] at this; simpa using this
      rw [hdef, hf, hp]
      rfl
    rw [f3] at HX2F
    clear f3 hdef hf
    go_enter Try.func10, Try.ntmps10
    go_wp2_with fail
    rw [← hw0]
    clear hw0
    refine HA.out.mono ?_
    rintro e w1 ⟨A, n, c, rfl, r1, hb1⟩
    obtain ⟨c0, c1, c2⟩ := cel3C (HC0.out.below hb1 HC0.out.lt)
    have HBa := Lib.hid hb1
    have HB1 := Lib.hid (HB.out.trans (hb1.mono HB.out.size))
    have HW1 := Lib.hid (HWC.out w1 hb1)
    clear hb1
    go_wp2_with fail
    refine HW1.out.mono ?_
    rintro e w2 ⟨rfl, hb2⟩
    have HB2 := Lib.hid hb2
    have HY := Lib.hid (HX1.out w1 w2 A n c r1 hb2)
    clear hb2
    go_wp2_with fail
    refine HY.out.mono ?_
    rintro e w3 ⟨rfl, hb3⟩
    have hb13 := HB2.out.trans (hb3.mono HB2.out.size)
    have HY2 := Lib.hid (HX2F.out w1 w3 A n c (HBa.out.trans (hb13.mono HBa.out.size)) r1 hb13)
    have HB3 := Lib.hid (HB1.out.trans (hb13.mono HB1.out.size))
    clear hb3 hb13
    go_wp2_with fail
    refine HY2.out.mono ?_
    rintro e w4 ⟨rfl, hb4⟩
    go_wp2
    go_ret
    exact ⟨ret_int H.out.symm, HB3.out.trans (hb4.mono HB3.out.size)⟩
  | false =>
  have hp : placesC x.cf = true := by have := HPC.out; rw [f3] at this; simpa using this
  rw [f3] at HX2F
  rw [← HTW.out] at HX3
  clear f3
  cases f4 : twiceC x.cf with
  | true =>
    have H : Hid (checkC x.cf = 8) := by
      show _ = _
      rw [hdef, hf, hp, f4]
      rfl
    rw [f4] at HX3
    clear f4 hdef hf hp
    go_enter Try.func10, Try.ntmps10
    go_wp2_with fail
    rw [← hw0]
    clear hw0
    refine HA.out.mono ?_
    rintro e w1 ⟨A, n, c, rfl, r1, hb1⟩
    obtain ⟨c0, c1, c2⟩ := cel3C (HC0.out.below hb1 HC0.out.lt)
    have HBa := Lib.hid hb1
    have HB1 := Lib.hid (HB.out.trans (hb1.mono HB.out.size))
    have HW1 := Lib.hid (HWC.out w1 hb1)
    clear hb1
    go_wp2_with fail
    refine HW1.out.mono ?_
    rintro e w2 ⟨rfl, hb2⟩
    have HB2 := Lib.hid hb2
    have HY := Lib.hid (HX1.out w1 w2 A n c r1 hb2)
    clear hb2
    go_wp2_with fail
    refine HY.out.mono ?_
    rintro e w3 ⟨rfl, hb3⟩
    have hb13 := HB2.out.trans (hb3.mono HB2.out.size)
    have HB13 := Lib.hid hb13
    have HY2 := Lib.hid (HX2F.out w1 w3 A n c (HBa.out.trans (hb13.mono HBa.out.size)) r1 hb13)
    clear hb3 hb13
    go_wp2_with fail
    refine HY2.out.mono ?_
    rintro e w4 ⟨rfl, hb4⟩
    have hb14 := HB13.out.trans (hb4.mono HB13.out.size)
    have HY3 := Lib.hid (HX3.out w1 w4 A n c r1 hb14)
    have HB4 := Lib.hid (HB1.out.trans (hb14.mono HB1.out.size))
    clear hb4 hb14
    go_wp2_with fail
    refine HY3.out.mono ?_
    rintro e w5 ⟨rfl, hb5⟩
    go_wp2
    go_ret
    exact ⟨ret_int H.out.symm, HB4.out.trans (hb5.mono HB4.out.size)⟩
  | false =>
    have H : Hid (checkC x.cf = 0) := by
      show _ = _
      rw [hdef, hf, hp, f4]
      rfl
    rw [f4] at HX3
    clear f4 hdef hf hp
    go_enter Try.func10, Try.ntmps10
    go_wp2_with fail
    rw [← hw0]
    clear hw0
    refine HA.out.mono ?_
    rintro e w1 ⟨A, n, c, rfl, r1, hb1⟩
    obtain ⟨c0, c1, c2⟩ := cel3C (HC0.out.below hb1 HC0.out.lt)
    have HBa := Lib.hid hb1
    have HB1 := Lib.hid (HB.out.trans (hb1.mono HB.out.size))
    have HW1 := Lib.hid (HWC.out w1 hb1)
    clear hb1
    go_wp2_with fail
    refine HW1.out.mono ?_
    rintro e w2 ⟨rfl, hb2⟩
    have HB2 := Lib.hid hb2
    have HY := Lib.hid (HX1.out w1 w2 A n c r1 hb2)
    clear hb2
    go_wp2_with fail
    refine HY.out.mono ?_
    rintro e w3 ⟨rfl, hb3⟩
    have hb13 := HB2.out.trans (hb3.mono HB2.out.size)
    have HB13 := Lib.hid hb13
    have HY2 := Lib.hid (HX2F.out w1 w3 A n c (HBa.out.trans (hb13.mono HBa.out.size)) r1 hb13)
    clear hb3 hb13
    go_wp2_with fail
    refine HY2.out.mono ?_
    rintro e w4 ⟨rfl, hb4⟩
    have hb14 := HB13.out.trans (hb4.mono HB13.out.size)
    have HY3 := Lib.hid (HX3.out w1 w4 A n c r1 hb14)
    have HB4 := Lib.hid (HB1.out.trans (hb14.mono HB1.out.size))
    clear hb4 hb14
    go_wp2_with fail
    refine HY3.out.mono ?_
    rintro e w5 ⟨rfl, hb5⟩
    go_wp2
    go_ret
    exact ⟨ret_int H.out.symm, HB4.out.trans (hb5.mono HB4.out.size)⟩
theorem check_ok_iff {x : Cx} : decide (checkC x.cf = 0) = true ↔ checkC x.cf = 0 := decide_eq_true_iff
set_option maxHeartbeats 2000000 in
/-- What is known of a configuration: its subnets, if it is valid. -/
theorem known_any (x : Cx) (U : Nat) (w : World) (h : x.ok U w) (hU : U ≤ w.heap.size) (hS : Small x.cf) : Calls Try.prog 43 #[x.v] w (PlR w (if checkC x.cf = 0 then pxF 0 x.ns else [])) := by
  obtain ⟨w0, hw0, hc0, hb0⟩ := boxedC w x
  have hz : w0.heap.size = w.heap.size + 1 := by rw [hw0]; simp
  have h0 := h.below (hb0.mono hU)
  have HK := Lib.hid (check_any x U w0 h0 (by omega) hS)
  have HA := Lib.hid (fun w1 (b1 : Below w0.heap.size w0 w1) => subnets_any x U w1 (h0.below (b1.mono (by omega))) (by have := b1.size; omega) (small_n h hS) (small_sns hS))
  have HB := Lib.hid hb0
  have HC0 := Lib.hid hc0
  clear h hU hS hc0 hb0 hz h0
  by_cases hk : checkC x.cf = 0
  · rw [if_pos hk]
    rw [hk] at HK
    clear hk
    go_enter Try.func43, Try.ntmps43
    go_wp2_with fail
    rw [← hw0]
    clear hw0
    refine HK.out.mono ?_
    rintro e w1 ⟨rfl, hb1⟩
    obtain ⟨c0, c1, c2⟩ := cel3C (HC0.out.below hb1 HC0.out.lt)
    have HB1 := Lib.hid (HB.out.trans (hb1.mono HB.out.size))
    have HA1 := Lib.hid (HA.out w1 hb1)
    clear hb1
    go_wp2_with fail
    refine HA1.out.mono ?_
    rintro e w2 ⟨A, n, c, rfl, r2, hb2⟩
    go_wp2
    go_ret
    exact ⟨A, n, c, rfl, r2, HB1.out.trans (hb2.mono HB1.out.size)⟩
  · rw [if_neg hk]
    have hkz : (checkC x.cf == 0) = false := by simpa using hk
    have hkn : (checkC x.cf != 0) = true := by rw [bne, hkz]; rfl
    clear hk
    go_enter Try.func43, Try.ntmps43
    go_wp2_with fail
    rw [← hw0]
    clear hw0
    refine HK.out.mono ?_
    rintro e w1 ⟨rfl, hb1⟩
    go_wp2
    go_ret
    exact ⟨none, 0, 0, rfl, ⟨RdG.nil _ _, fun p hp => by cases hp⟩, HB.out.trans (hb1.mono HB.out.size)⟩
end Go.Proofs.Ytoilljilndmmfaa.Vw
