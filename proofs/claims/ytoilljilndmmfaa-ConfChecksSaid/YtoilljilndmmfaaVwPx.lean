/- Words for subnets with their positions and reservations with their networks, in memory; what conf's smallest functions come to. For all numbers, and keys that fit. -/
import Derived.Test.YtoilljilndmmfaaVwKit
import Derived.Test.YtoilljilndmmfaaAdNum
import Derived.Test.YtoilljilndmmfaaKwLeaf
import Derived.BigQuiet
import Derived.Deep.QuietTactic
set_option maxRecDepth 8000
namespace Go.Proofs.Ytoilljilndmmfaa.Vw
open Go.RowKit By Cf Ad Ky
open Dw (ba ba_size ba_data ba_list alloc_more)

def isB (b : Bool) (w : World) (e : Ending) (w' : World) : Prop := e = .returned (.bool b) ∧ Below w.heap.size w w'
/-- A subnet with its position. -/
structure Px where
  x : Sx
  net : Nat
  sub : Nat
def Px.ns (p : Px) : Nat × Sn := (p.net, p.x.s)
@[reducible] def Px.v (p : Px) (pn rn : Nat) : Value := .agg #[.int .i64 p.x.base, .int .i64 p.x.bits, .slice p.x.pA pn p.x.pc, .slice p.x.rA rn p.x.rc, .int .i64 p.x.iface, .int .i64 p.x.router, .int .i64 p.x.time, .int .i64 (p.net : Int), .int .i64 (p.sub : Int)]
@[reducible] def Px.cs (p : Px) (pn rn : Nat) : Array Value := #[.int .i64 p.x.base, .int .i64 p.x.bits, .slice p.x.pA pn p.x.pc, .slice p.x.rA rn p.x.rc, .int .i64 p.x.iface, .int .i64 p.x.router, .int .i64 p.x.time, .int .i64 (p.net : Int), .int .i64 (p.sub : Int)]
def layX : Lay Px := ⟨9, fun p => [.int .i64 p.x.base, .int .i64 p.x.bits, .slice p.x.pA p.x.pools.length p.x.pc, .slice p.x.rA p.x.res.length p.x.rc, .int .i64 p.x.iface, .int .i64 p.x.router, .int .i64 p.x.time, .int .i64 (p.net : Int), .int .i64 (p.sub : Int)], fun _ => rfl, fun e u hu => by
  simp only [List.mem_cons, List.not_mem_nil, or_false] at hu
  rcases hu with rfl | rfl | rfl | rfl | rfl | rfl | rfl | rfl | rfl <;> rfl⟩
/-- A slice of such subnets that reads. -/
def RdPx (U : Nat) (w : World) (A : Option Addr) (n c : Nat) (ps : List Px) : Prop := RdG layX U w A n c ps ∧ ∀ p ∈ ps, Sx.ok U w p.x p.x.pools.length p.x.res.length
def nssOf (ps : List Px) : List (Nat × Sn) := ps.map Px.ns
/-- A reservation with its network. -/
structure Kx where
  r : Rs
  net : Nat
def Kx.nr (k : Kx) : Nat × Rs := (k.net, k.r)
@[reducible] def Kx.v (k : Kx) : Value := .agg #[.string (ba k.r.key), .int .i64 k.r.addr, .int .i64 (k.net : Int)]
@[reducible] def Kx.cs (k : Kx) : Array Value := #[.string (ba k.r.key), .int .i64 k.r.addr, .int .i64 (k.net : Int)]
def layK : Lay Kx := ⟨3, fun k => [.string (ba k.r.key), .int .i64 k.r.addr, .int .i64 (k.net : Int)], fun _ => rfl, fun e u hu => by
  simp only [List.mem_cons, List.not_mem_nil, or_false] at hu
  rcases hu with rfl | rfl | rfl <;> rfl⟩
abbrev RdKx (U : Nat) (w : World) (A : Option Addr) (n c : Nat) (ks : List Kx) : Prop := RdG layK U w A n c ks

set_option maxHeartbeats 1000000 in
theorem span_any (t : Int) (w : World) : Calls Try.prog 47 #[.int .i64 t] w fun e w' => e = .returned (.bool (decide (1 ≤ t ∧ t ≤ 2147483648))) ∧ w = w' := by
  by_cases h1 : 1 ≤ t
  · go_enter Try.func47, Try.ntmps47
    go_wp2
    go_ret
    exact ⟨ret_bool (by simp [h1]), rfl⟩
  · go_enter Try.func47, Try.ntmps47
    go_wp2
    go_ret
    exact ⟨ret_bool (by rw [decide_eq_false (Int.not_le.2 h1)]; rfl), rfl⟩
set_option maxHeartbeats 1000000 in
theorem netSize_any (A : Option Addr) (n c : Nat) (w : World) (hn : n ≤ 9223372036854775807) : Calls Try.prog 49 #[.agg #[.slice A n c]] w (isB (!decide (1 ≤ n ∧ n ≤ 4)) w) := by
  by_cases h0 : n = 0
  · subst h0
    go_enter Try.func49, Try.ntmps49
    go_wp2
    go_ret
    exact ⟨rfl, alloc_more _ _⟩
  · have hz : ((n : Int) == 0) = false := by simpa using h0
    have H : Hid ((!decide (1 ≤ n ∧ n ≤ 4)) = decide ((n : Int) > 4)) := by
      show _ = _
      rw [Bool.eq_iff_iff]
      simp
      omega
    clear h0
    go_enter Try.func49, Try.ntmps49
    go_wp2
    go_ret
    exact ⟨ret_bool H.out.symm, alloc_more _ _⟩
set_option maxHeartbeats 1000000 in
theorem pool_wrong (p : Pl) (w : World) : Calls Try.prog 53 #[.agg #[.int .i64 p.first, .int .i64 p.last]] w (isB (!poolF p) w) := by
  have H : Hid ((!poolF p) = decide (p.first > p.last)) := by
    show _ = _
    unfold poolF
    rw [Bool.eq_iff_iff]
    simp
  go_enter Try.func53, Try.ntmps53
  go_wp2
  go_ret
  exact ⟨ret_bool H.out.symm, alloc_more _ _⟩
set_option maxHeartbeats 1000000 in
theorem res_wrong (r : Rs) (w : World) (hr : Fr r) : Calls Try.prog 55 #[.agg #[.string (ba r.key), .int .i64 r.addr]] w (isB (!resF r) w) := by
  go_enter Try.func55, Try.ntmps55
  go_wp2_with fail
  refine (Kw.right_any _ _ (by rw [ba_size]; exact hr)).mono ?_
  rintro e w' ⟨rfl, rfl⟩
  go_wp2
  go_ret
  exact ⟨ret_bool (by unfold resF; rw [ba_data]), alloc_more _ _⟩
set_option maxHeartbeats 1000000 in
theorem pool_in (p : Pl) (a : Int) (g : Nat) (w : World) (hg : g < w.heap.size) (hc : w.cell? ⟨g, 0, none⟩ = some (.int .i64 a)) : Calls Try.prog 78 #[.agg #[.int .i64 p.first, .int .i64 p.last], .pointer (some ⟨g, 0, none⟩)] w (isB (inPl p a) w) := by
  have hne : g ≠ w.heap.size := by omega
  by_cases h1 : p.first ≤ a
  · have H : Hid (inPl p a = decide (a ≤ p.last)) := by
      show _ = _
      unfold inPl
      rw [decide_eq_decide]
      omega
    go_enter Try.func78, Try.ntmps78
    go_wp2
    go_ret
    exact ⟨ret_bool H.out.symm, alloc_more _ _⟩
  · have H : Hid (inPl p a = false) := by
      show _ = _
      unfold inPl
      exact decide_eq_false fun k => h1 k.1
    go_enter Try.func78, Try.ntmps78
    go_wp2
    go_ret
    exact ⟨ret_bool H.out.symm, alloc_more _ _⟩
set_option maxHeartbeats 1000000 in
theorem res_is (r : Rs) (a : Int) (g : Nat) (w : World) (hg : g < w.heap.size) (hc : w.cell? ⟨g, 0, none⟩ = some (.int .i64 a)) : Calls Try.prog 60 #[.agg #[.string (ba r.key), .int .i64 r.addr], .pointer (some ⟨g, 0, none⟩)] w (isB (decide (r.addr = a)) w) := by
  have hne : g ≠ w.heap.size := by omega
  go_enter Try.func60, Try.ntmps60
  go_wp2
  go_ret
  exact ⟨ret_bool (by rw [Bool.eq_iff_iff]; simp), alloc_more _ _⟩
theorem two_boxes (w : World) (cs ds : Array Value) (s t : TypeId) : Below w.heap.size w ((w.alloc (.cells cs s)).alloc (.cells ds t)) := ((Below.refl _ _).alloc (Nat.le_refl _) _).alloc (by simp) _
set_option maxHeartbeats 1000000 in
theorem plMeet_any (p q : Pl) (w : World) : Calls Try.prog 68 #[.agg #[.int .i64 p.first, .int .i64 p.last], .agg #[.int .i64 q.first, .int .i64 q.last]] w (isB (plMeet p q) w) := by
  by_cases h1 : p.first ≤ q.last
  · have H : Hid (plMeet p q = decide (q.first ≤ p.last)) := by
      show _ = _
      unfold plMeet
      rw [decide_eq_decide]
      omega
    go_enter Try.func68, Try.ntmps68
    go_wp2
    go_ret
    exact ⟨ret_bool H.out.symm, two_boxes _ _ _ _ _⟩
  · have H : Hid (plMeet p q = false) := by
      show _ = _
      unfold plMeet
      exact decide_eq_false fun k => h1 k.1
    go_enter Try.func68, Try.ntmps68
    go_wp2
    go_ret
    exact ⟨ret_bool H.out.symm, two_boxes _ _ _ _ _⟩
theorem beqKey {a b : List UInt8} (h : a = b) : ((ba a).toList == (ba b).toList) = true := by rw [h]; exact beq_self_eq_true _
theorem bneKey {a b : List UInt8} (h : ¬ a = b) : ((ba a).toList == (ba b).toList) = false := by
  rw [beq_eq_false_iff_ne, ba_list, ba_list]
  exact h
set_option maxHeartbeats 1000000 in
theorem rsClash_any (k l : Kx) (w : World) : Calls Try.prog 65 #[k.v, l.v] w (isB (rsClash k.nr l.nr) w) := by
  by_cases h1 : k.r.addr = l.r.addr
  · have H : Hid (rsClash k.nr l.nr = true) := by
      show _ = _
      unfold rsClash Kx.nr
      simp [h1]
    have hz : (k.r.addr == l.r.addr) = true := by simpa using h1
    clear h1
    go_enter Try.func65, Try.ntmps65
    go_wp2
    go_ret
    exact ⟨ret_bool H.out.symm, two_boxes _ _ _ _ _⟩
  · have hz : (k.r.addr == l.r.addr) = false := by simpa using h1
    by_cases h2 : k.net = l.net
    · have H : Hid (rsClash k.nr l.nr = decide (k.r.key = l.r.key)) := by
        show _ = _
        unfold rsClash Kx.nr
        simp [h1, h2]
      have hy : ((k.net : Int) == (l.net : Int)) = true := by rw [h2]; exact beq_self_eq_true _
      by_cases h3 : k.r.key = l.r.key
      · have hx := beqKey h3
        rw [decide_eq_true h3] at H
        clear h1 h2 h3
        go_enter Try.func65, Try.ntmps65
        go_wp2
        go_ret
        exact ⟨ret_bool H.out.symm, two_boxes _ _ _ _ _⟩
      · have hx := bneKey h3
        rw [decide_eq_false h3] at H
        clear h1 h2 h3
        go_enter Try.func65, Try.ntmps65
        go_wp2
        go_ret
        exact ⟨ret_bool H.out.symm, two_boxes _ _ _ _ _⟩
    · have H : Hid (rsClash k.nr l.nr = false) := by
        show _ = _
        unfold rsClash Kx.nr
        simp [h1, h2]
      have hy : ((k.net : Int) == (l.net : Int)) = false := by
        rw [beq_eq_false_iff_ne]
        omega
      clear h1 h2
      go_enter Try.func65, Try.ntmps65
      go_wp2
      go_ret
      exact ⟨ret_bool H.out.symm, two_boxes _ _ _ _ _⟩
end Go.Proofs.Ytoilljilndmmfaa.Vw
