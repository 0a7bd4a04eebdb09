/- What conf's functions of one subnet or reservation with its place come to. For all numbers, and keys that fit. -/
import Derived.Test.YtoilljilndmmfaaVwPx
set_option maxRecDepth 8000
namespace Go.Proofs.Ytoilljilndmmfaa.Vw
open Go.RowKit By Cf Ad Ky
open Dw (ba ba_size ba_data ba_list alloc_more)

theorem cel9 {w : World} {g pn rn : Nat} {t : TypeId} {p : Px} (h : Cel w g t (p.cs pn rn)) : w.cell? ⟨g, 0, none⟩ = some (.int .i64 p.x.base) ∧ w.cell? ⟨g, 1, none⟩ = some (.int .i64 p.x.bits) ∧ w.cell? ⟨g, 2, none⟩ = some (.slice p.x.pA pn p.x.pc) ∧ w.cell? ⟨g, 3, none⟩ = some (.slice p.x.rA rn p.x.rc) ∧
    w.cell? ⟨g, 4, none⟩ = some (.int .i64 p.x.iface) ∧ w.cell? ⟨g, 5, none⟩ = some (.int .i64 p.x.router) ∧ w.cell? ⟨g, 6, none⟩ = some (.int .i64 p.x.time) ∧ w.cell? ⟨g, 7, none⟩ = some (.int .i64 (p.net : Int)) ∧ w.cell? ⟨g, 8, none⟩ = some (.int .i64 (p.sub : Int)) :=
  ⟨by rw [h.cell]; rfl, by rw [h.cell]; rfl, by rw [h.cell]; rfl, by rw [h.cell]; rfl, by rw [h.cell]; rfl, by rw [h.cell]; rfl, by rw [h.cell]; rfl, by rw [h.cell]; rfl, by rw [h.cell]; rfl⟩
/-- Memory that has a subnet with its place in a new block. -/
theorem boxed (w : World) (p : Px) (pn rn : Nat) : ∃ w0, w0 = w.alloc (.cells (p.cs pn rn) 55) ∧ Cel w0 w.heap.size 55 (p.cs pn rn) ∧ Below w.heap.size w w0 := ⟨_, rfl, Cel.born _ _ _, alloc_more _ _⟩
set_option maxHeartbeats 1000000 in
theorem pnClash_any (p q : Px) (pn rn qn sn : Nat) (w : World) : Calls Try.prog 62 #[p.v pn rn, q.v qn sn] w (isB (snClash p.ns q.ns) w) := by
  by_cases h1 : p.net = q.net
  · have hz : ((p.net : Int) == (q.net : Int)) = true := by rw [h1]; exact beq_self_eq_true _
    have hy : ((p.net : Int) != (q.net : Int)) = false := by rw [bne, hz]; rfl
    have H : Hid (snClash p.ns q.ns = meetB p.x.base p.x.bits q.x.base q.x.bits) := by
      show _ = _
      unfold snClash Px.ns Sx.s
      simp only [h1, ne_eq, not_true_eq_false, decide_false, Bool.false_and]
      simp
    clear h1 
    go_enter Try.func62, Try.ntmps62
    go_wp2_with fail
    refine (Aw.meet_any _ _ _ _ _).mono ?_
    rintro e w1 ⟨rfl, rfl⟩
    go_wp2
    go_ret
    exact ⟨ret_bool H.out.symm, two_boxes _ _ _ _ _⟩
  have hz : ((p.net : Int) == (q.net : Int)) = false := by
    rw [beq_eq_false_iff_ne]
    omega
  have hy : ((p.net : Int) != (q.net : Int)) = true := by rw [bne, hz]; rfl
  by_cases h2 : p.x.iface = q.x.iface
  · have hx : (p.x.iface == q.x.iface) = true := by simpa using h2
    by_cases h3 : p.x.iface > 0
    · have H : Hid (snClash p.ns q.ns = true) := by
        show _ = _
        unfold snClash Px.ns Sx.s
        simp only [h1, ne_eq, not_false_eq_true, decide_true, Bool.true_and]
        rw [decide_eq_true h2, decide_eq_true h3, Bool.true_and, Bool.or_true]
      clear h1 h2
      go_enter Try.func62, Try.ntmps62
      go_wp2
      go_ret
      exact ⟨ret_bool H.out.symm, two_boxes _ _ _ _ _⟩
    · have H : Hid (snClash p.ns q.ns = meetB p.x.base p.x.bits q.x.base q.x.bits) := by
        show _ = _
        unfold snClash Px.ns Sx.s
        simp only [h1, ne_eq, not_false_eq_true, decide_true, decide_eq_false h3, Bool.true_and, Bool.false_and]
        simp
      clear h1 h2
      go_enter Try.func62, Try.ntmps62
      go_wp2_with fail
      refine (Aw.meet_any _ _ _ _ _).mono ?_
      rintro e w1 ⟨rfl, rfl⟩
      go_wp2
      go_ret
      exact ⟨ret_bool H.out.symm, two_boxes _ _ _ _ _⟩
  · have hx : (p.x.iface == q.x.iface) = false := by simpa using h2
    have H : Hid (snClash p.ns q.ns = meetB p.x.base p.x.bits q.x.base q.x.bits) := by
      show _ = _
      unfold snClash Px.ns Sx.s
      simp only [h1, h2, ne_eq, not_false_eq_true, decide_true, decide_false, Bool.and_false]
      simp
    clear h1 h2
    go_enter Try.func62, Try.ntmps62
    go_wp2_with fail
    refine (Aw.meet_any _ _ _ _ _).mono ?_
    rintro e w1 ⟨rfl, rfl⟩
    go_wp2
    go_ret
    exact ⟨ret_bool H.out.symm, two_boxes _ _ _ _ _⟩
set_option maxHeartbeats 1000000 in
theorem lends_any (p : Px) (pn rn : Nat) (a : Int) (w : World) (hf : fairB p.x.base p.x.bits = true) : Calls Try.prog 58 #[p.v pn rn, .int .i64 a] w (isB (lendsB p.x.s a) w) := by
  obtain ⟨w0, hw0, hc0, hb0⟩ := boxed w p pn rn
  have HF := Lib.hid hf
  have hc := cel9 hc0
  have HB := Lib.hid hb0
  clear hf hc0 hb0
  obtain ⟨c0, c1, _, _, _, _, _, _, _⟩ := hc
  by_cases h1 : a > p.x.base
  · have H : Hid (lendsB p.x.s a = decide (a < p.x.base + sz p.x.bits - 1)) := by
      show _ = _
      unfold lendsB Sx.s
      rw [decide_eq_decide]
      simp only
      omega
    go_enter Try.func58, Try.ntmps58
    go_wp2_with fail
    rw [← hw0]
    clear hw0
    refine (Aw.last_yes _ _ _ HF.out).mono ?_
    rintro e w1 ⟨rfl, rfl⟩
    go_wp2
    go_ret
    exact ⟨ret_bool H.out.symm, HB.out⟩
  · have H : Hid (lendsB p.x.s a = false) := by
      show _ = _
      unfold lendsB Sx.s
      exact decide_eq_false fun k => h1 k.1
    go_enter Try.func58, Try.ntmps58
    go_wp2_with fail
    rw [← hw0]
    clear hw0
    refine (Aw.last_yes _ _ _ HF.out).mono ?_
    rintro e w1 ⟨rfl, rfl⟩
    go_wp2
    go_ret
    exact ⟨ret_bool H.out.symm, HB.out⟩
set_option maxHeartbeats 1000000 in
theorem found_any (p : Px) (pn rn : Nat) (a : Int) (g : Nat) (w : World) (hg : g < w.heap.size) (hc : w.cell? ⟨g, 0, none⟩ = some (.int .i64 a)) : Calls Try.prog 35 #[p.v pn rn, .pointer (some ⟨g, 0, none⟩)] w (isB (hasB p.x.base p.x.bits a) w) := by
  have hne : g ≠ w.heap.size := by omega
  go_enter Try.func35, Try.ntmps35
  go_wp2_with fail
  refine (Aw.has_any _ _ _ _).mono ?_
  rintro e w1 ⟨rfl, rfl⟩
  go_wp2
  go_ret
  exact ⟨rfl, alloc_more _ _⟩
set_option maxHeartbeats 1000000 in
theorem wired_any (p : Px) (pn rn : Nat) (a : Int) (g : Nat) (w : World) (hg : g < w.heap.size) (hc : w.cell? ⟨g, 0, none⟩ = some (.int .i64 a)) : Calls Try.prog 38 #[p.v pn rn, .pointer (some ⟨g, 0, none⟩)] w (isB (decide (0 < a) && decide (p.x.iface = a)) w) := by
  have hne : g ≠ w.heap.size := by omega
  by_cases h1 : a > 0
  · have H : Hid ((decide (0 < a) && decide (p.x.iface = a)) = (p.x.iface == a)) := by
      show _ = _
      rw [decide_eq_true h1, Bool.eq_iff_iff]
      simp
    go_enter Try.func38, Try.ntmps38
    go_wp2
    go_ret
    exact ⟨ret_bool H.out.symm, alloc_more _ _⟩
  · have H : Hid ((decide (0 < a) && decide (p.x.iface = a)) = false) := by
      show _ = _
      rw [decide_eq_false h1]
      rfl
    go_enter Try.func38, Try.ntmps38
    go_wp2
    go_ret
    exact ⟨ret_bool H.out.symm, alloc_more _ _⟩
set_option maxHeartbeats 1000000 in
theorem keeps_any (k : Kx) (a : Int) (g : Nat) (w : World) (hg : g < w.heap.size) (hc : w.cell? ⟨g, 0, none⟩ = some (.int .i64 a)) : Calls Try.prog 41 #[k.v, .pointer (some ⟨g, 0, none⟩)] w (isB (decide (k.r.addr = a)) w) := by
  have hne : g ≠ w.heap.size := by omega
  go_enter Try.func41, Try.ntmps41
  go_wp2
  go_ret
  exact ⟨ret_bool (by rw [Bool.eq_iff_iff]; simp), alloc_more _ _⟩
set_option maxHeartbeats 1000000 in
theorem kept_any (k : Kx) (net : Int) (key : List UInt8) (g g2 : Nat) (w : World) (hg : g < w.heap.size) (hc : w.cell? ⟨g, 0, none⟩ = some (.int .i64 net)) (hg2 : g2 < w.heap.size) (hc2 : w.cell? ⟨g2, 0, none⟩ = some (.string (ba key))) :
    Calls Try.prog 40 #[k.v, .pointer (some ⟨g, 0, none⟩), .pointer (some ⟨g2, 0, none⟩)] w (isB (decide ((k.net : Int) = net) && decide (k.r.key = key)) w) := by
  have hne : g ≠ w.heap.size := by omega
  have hne2 : g2 ≠ w.heap.size := by omega
  by_cases h1 : (k.net : Int) = net
  · have hz : ((k.net : Int) == net) = true := by simpa using h1
    by_cases h2 : k.r.key = key
    · have hx := beqKey h2
      have H : Hid ((decide ((k.net : Int) = net) && decide (k.r.key = key)) = true) := by
        show _ = _
        rw [decide_eq_true h1, decide_eq_true h2]
        rfl
      clear h1 h2
      go_enter Try.func40, Try.ntmps40
      go_wp2
      go_ret
      exact ⟨ret_bool H.out.symm, alloc_more _ _⟩
    · have hx := bneKey h2
      have H : Hid ((decide ((k.net : Int) = net) && decide (k.r.key = key)) = false) := by
        show _ = _
        rw [decide_eq_true h1, decide_eq_false h2]
        rfl
      clear h1 h2
      go_enter Try.func40, Try.ntmps40
      go_wp2
      go_ret
      exact ⟨ret_bool H.out.symm, alloc_more _ _⟩
  · have hz : ((k.net : Int) == net) = false := by simpa using h1
    have H : Hid ((decide ((k.net : Int) = net) && decide (k.r.key = key)) = false) := by
      show _ = _
      rw [decide_eq_false h1]
      rfl
    clear h1
    go_enter Try.func40, Try.ntmps40
    go_wp2
    go_ret
    exact ⟨ret_bool H.out.symm, alloc_more _ _⟩
end Go.Proofs.Ytoilljilndmmfaa.Vw
