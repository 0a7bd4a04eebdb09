/- A message in memory, as a value: its numbers, the slice of its hardware address, the slice of its options. No conditions. -/
import Derived.Test.YtoldppbakapohaaGreatDoorKitA
import Derived.Test.YtoldppbakapohaaGreatDoorMathA
import Derived.Test.YtoldppbakapohaaGreatDoorTlA
import Derived.Handy
section
namespace Go.Proofs.YtoldppbakapohaaGreatDoor.By
open Go.RowKit Tl Ms

structure Mv where
  op : Int
  htype : Int
  hlen : Int
  hops : Int
  xid : Int
  secs : Int
  flags : Int
  ci : Int
  yi : Int
  si : Int
  gi : Int
  A : Option Addr
  n : Nat
  c : Nat
  ch : List UInt8
  B : Option Addr
  m : Nat
  d : Nat
  ps : List Po
@[reducible] def Mv.cells (x : Mv) : Array Value :=
  #[.int .i64 x.op, .int .i64 x.htype, .int .i64 x.hlen, .int .i64 x.hops, .int .i64 x.xid, .int .i64 x.secs, .int .i64 x.flags, .int .i64 x.ci, .int .i64 x.yi, .int .i64 x.si, .int .i64 x.gi, .slice x.A x.n x.c, .slice x.B x.m x.d]
@[reducible] def Mv.v (x : Mv) : Value :=
  .agg #[.int .i64 x.op, .int .i64 x.htype, .int .i64 x.hlen, .int .i64 x.hops, .int .i64 x.xid, .int .i64 x.secs, .int .i64 x.flags, .int .i64 x.ci, .int .i64 x.yi, .int .i64 x.si, .int .i64 x.gi, .slice x.A x.n x.c, .slice x.B x.m x.d]
def Mv.mm (x : Mv) : M := ⟨x.op, x.htype, x.hlen, x.hops, x.xid, x.secs, x.flags, x.ci, x.yi, x.si, x.gi, x.ch, osP x.ps⟩
structure Mv.ok (x : Mv) (w : World) : Prop where
  ch : Bs w x.A x.n x.c x.ch
  os : RdO w x.B x.m x.d x.ps
theorem Mv.ok.below {x : Mv} {w w' : World} (h : x.ok w) (hb : Below w.heap.size w w') : x.ok w' := ⟨h.ch.below hb, h.os.below hb⟩
theorem Mv.ok.alloc {x : Mv} {w : World} (h : x.ok w) (o : Obj) : x.ok (w.alloc o) := ⟨h.ch.alloc o, h.os.alloc o⟩
def zeroV : Mv := ⟨0, 0, 0, 0, 0, 0, 0, 0, 0, 0, 0, none, 0, 0, [], none, 0, 0, []⟩
theorem zeroV_ok (w : World) : zeroV.ok w := ⟨Bs.nil w, RdO.nil w⟩
end Go.Proofs.YtoldppbakapohaaGreatDoor.By
end
/- A message as a block that is known whole: its cells, what is stored in it, the message with other options. No conditions. -/
section
set_option maxRecDepth 8000
namespace Go.Proofs.YtoldppbakapohaaGreatDoor.Mw
open Go.RowKit Tl Ms By

theorem Cel.frozen {w : World} {g : Nat} {t : TypeId} {cs : Array Value} (h : Cel w g t cs) (i : Nat) : w.frozen? ⟨g, i, none⟩ = false := by
  unfold Cel at h
  simp [World.frozen?, h]
theorem Cel.set {w : World} {g : Nat} {t : TypeId} {cs : Array Value} (h : Cel w g t cs) (i : Nat) (v : Value) : Cel (w.setCell ⟨g, i, none⟩ v) g t (cs.setIfInBounds i v) := by
  unfold Cel at h ⊢
  unfold World.setCell
  simp [Array.getElem?_modify, h]
theorem Cel.far {w : World} {g g' : Nat} {t : TypeId} {cs : Array Value} (h : Cel w g t cs) (hne : g ≠ g') (i : Nat) (v : Value) : Cel (w.setCell ⟨g', i, none⟩ v) g t cs := by
  unfold Cel at h ⊢
  rw [Below.heap_setCell w ⟨g', i, none⟩ v g hne]
  exact h
theorem set13 {w : World} {g : Nat} {t : TypeId} (c0 c1 c2 c3 c4 c5 c6 c7 c8 c9 c10 c11 c12 v0 v1 v2 v3 v4 v5 v6 v7 v8 v9 v10 v11 v12 : Value) (h : Cel w g t #[c0, c1, c2, c3, c4, c5, c6, c7, c8, c9, c10, c11, c12]) :
    Cel (((((((((((((w.setCell ⟨g, 0, none⟩ v0).setCell ⟨g, 1, none⟩ v1).setCell ⟨g, 2, none⟩ v2).setCell ⟨g, 3, none⟩ v3).setCell ⟨g, 4, none⟩ v4).setCell ⟨g, 5, none⟩ v5).setCell ⟨g, 6, none⟩ v6).setCell ⟨g, 7, none⟩ v7).setCell ⟨g, 8, none⟩ v8).setCell ⟨g, 9, none⟩ v9).setCell ⟨g, 10, none⟩ v10).setCell ⟨g, 11, none⟩ v11).setCell ⟨g, 12, none⟩ v12) g t #[v0, v1, v2, v3, v4, v5, v6, v7, v8, v9, v10, v11, v12] := by
  have h0 : Cel (w.setCell ⟨g, 0, none⟩ v0) g t #[v0, c1, c2, c3, c4, c5, c6, c7, c8, c9, c10, c11, c12] := Cel.set h 0 v0
  have h1 : Cel ((w.setCell ⟨g, 0, none⟩ v0).setCell ⟨g, 1, none⟩ v1) g t #[v0, v1, c2, c3, c4, c5, c6, c7, c8, c9, c10, c11, c12] := Cel.set h0 1 v1
  have h2 : Cel (((w.setCell ⟨g, 0, none⟩ v0).setCell ⟨g, 1, none⟩ v1).setCell ⟨g, 2, none⟩ v2) g t #[v0, v1, v2, c3, c4, c5, c6, c7, c8, c9, c10, c11, c12] := Cel.set h1 2 v2
  have h3 : Cel ((((w.setCell ⟨g, 0, none⟩ v0).setCell ⟨g, 1, none⟩ v1).setCell ⟨g, 2, none⟩ v2).setCell ⟨g, 3, none⟩ v3) g t #[v0, v1, v2, v3, c4, c5, c6, c7, c8, c9, c10, c11, c12] := Cel.set h2 3 v3
  have h4 : Cel (((((w.setCell ⟨g, 0, none⟩ v0).setCell ⟨g, 1, none⟩ v1).setCell ⟨g, 2, none⟩ v2).setCell ⟨g, 3, none⟩ v3).setCell ⟨g, 4, none⟩ v4) g t #[v0, v1, v2, v3, v4, c5, c6, c7, c8, c9, c10, c11, c12] := Cel.set h3 4 v4
  have h5 : Cel ((((((w.setCell ⟨g, 0, none⟩ v0).setCell ⟨g, 1, none⟩ v1).setCell ⟨g, 2, none⟩ v2).setCell ⟨g, 3, none⟩ v3).setCell ⟨g, 4, none⟩ v4).setCell ⟨g, 5, none⟩ v5) g t #[v0, v1, v2, v3, v4, v5, c6, c7, c8, c9, c10, c11, c12] := Cel.set h4 5 v5
  have h6 : Cel (((((((w.setCell ⟨g, 0, none⟩ v0).setCell ⟨g, 1, none⟩ v1).setCell ⟨g, 2, none⟩ v2).setCell ⟨g, 3, none⟩ v3).setCell ⟨g, 4, none⟩ v4).setCell ⟨g, 5, none⟩ v5).setCell ⟨g, 6, none⟩ v6) g t #[v0, v1, v2, v3, v4, v5, v6, c7, c8, c9, c10, c11, c12] := Cel.set h5 6 v6
  have h7 : Cel ((((((((w.setCell ⟨g, 0, none⟩ v0).setCell ⟨g, 1, none⟩ v1).setCell ⟨g, 2, none⟩ v2).setCell ⟨g, 3, none⟩ v3).setCell ⟨g, 4, none⟩ v4).setCell ⟨g, 5, none⟩ v5).setCell ⟨g, 6, none⟩ v6).setCell ⟨g, 7, none⟩ v7) g t #[v0, v1, v2, v3, v4, v5, v6, v7, c8, c9, c10, c11, c12] := Cel.set h6 7 v7
  have h8 : Cel (((((((((w.setCell ⟨g, 0, none⟩ v0).setCell ⟨g, 1, none⟩ v1).setCell ⟨g, 2, none⟩ v2).setCell ⟨g, 3, none⟩ v3).setCell ⟨g, 4, none⟩ v4).setCell ⟨g, 5, none⟩ v5).setCell ⟨g, 6, none⟩ v6).setCell ⟨g, 7, none⟩ v7).setCell ⟨g, 8, none⟩ v8) g t #[v0, v1, v2, v3, v4, v5, v6, v7, v8, c9, c10, c11, c12] := Cel.set h7 8 v8
  have h9 : Cel ((((((((((w.setCell ⟨g, 0, none⟩ v0).setCell ⟨g, 1, none⟩ v1).setCell ⟨g, 2, none⟩ v2).setCell ⟨g, 3, none⟩ v3).setCell ⟨g, 4, none⟩ v4).setCell ⟨g, 5, none⟩ v5).setCell ⟨g, 6, none⟩ v6).setCell ⟨g, 7, none⟩ v7).setCell ⟨g, 8, none⟩ v8).setCell ⟨g, 9, none⟩ v9) g t #[v0, v1, v2, v3, v4, v5, v6, v7, v8, v9, c10, c11, c12] := Cel.set h8 9 v9
  have h10 : Cel (((((((((((w.setCell ⟨g, 0, none⟩ v0).setCell ⟨g, 1, none⟩ v1).setCell ⟨g, 2, none⟩ v2).setCell ⟨g, 3, none⟩ v3).setCell ⟨g, 4, none⟩ v4).setCell ⟨g, 5, none⟩ v5).setCell ⟨g, 6, none⟩ v6).setCell ⟨g, 7, none⟩ v7).setCell ⟨g, 8, none⟩ v8).setCell ⟨g, 9, none⟩ v9).setCell ⟨g, 10, none⟩ v10) g t #[v0, v1, v2, v3, v4, v5, v6, v7, v8, v9, v10, c11, c12] := Cel.set h9 10 v10
  have h11 : Cel ((((((((((((w.setCell ⟨g, 0, none⟩ v0).setCell ⟨g, 1, none⟩ v1).setCell ⟨g, 2, none⟩ v2).setCell ⟨g, 3, none⟩ v3).setCell ⟨g, 4, none⟩ v4).setCell ⟨g, 5, none⟩ v5).setCell ⟨g, 6, none⟩ v6).setCell ⟨g, 7, none⟩ v7).setCell ⟨g, 8, none⟩ v8).setCell ⟨g, 9, none⟩ v9).setCell ⟨g, 10, none⟩ v10).setCell ⟨g, 11, none⟩ v11) g t #[v0, v1, v2, v3, v4, v5, v6, v7, v8, v9, v10, v11, c12] := Cel.set h10 11 v11
  have h12 : Cel (((((((((((((w.setCell ⟨g, 0, none⟩ v0).setCell ⟨g, 1, none⟩ v1).setCell ⟨g, 2, none⟩ v2).setCell ⟨g, 3, none⟩ v3).setCell ⟨g, 4, none⟩ v4).setCell ⟨g, 5, none⟩ v5).setCell ⟨g, 6, none⟩ v6).setCell ⟨g, 7, none⟩ v7).setCell ⟨g, 8, none⟩ v8).setCell ⟨g, 9, none⟩ v9).setCell ⟨g, 10, none⟩ v10).setCell ⟨g, 11, none⟩ v11).setCell ⟨g, 12, none⟩ v12) g t #[v0, v1, v2, v3, v4, v5, v6, v7, v8, v9, v10, v11, v12] := Cel.set h11 12 v12
  exact h12
theorem cels13 {W : World} {g : Nat} {t : TypeId} {c0 c1 c2 c3 c4 c5 c6 c7 c8 c9 c10 c11 c12 : Value} (h : Cel W g t #[c0, c1, c2, c3, c4, c5, c6, c7, c8, c9, c10, c11, c12]) :
    W.cell? ⟨g, 0, none⟩ = some c0 ∧ W.cell? ⟨g, 1, none⟩ = some c1 ∧ W.cell? ⟨g, 2, none⟩ = some c2 ∧ W.cell? ⟨g, 3, none⟩ = some c3 ∧ W.cell? ⟨g, 4, none⟩ = some c4 ∧ W.cell? ⟨g, 5, none⟩ = some c5 ∧ W.cell? ⟨g, 6, none⟩ = some c6 ∧ W.cell? ⟨g, 7, none⟩ = some c7 ∧ W.cell? ⟨g, 8, none⟩ = some c8 ∧ W.cell? ⟨g, 9, none⟩ = some c9 ∧ W.cell? ⟨g, 10, none⟩ = some c10 ∧ W.cell? ⟨g, 11, none⟩ = some c11 ∧ W.cell? ⟨g, 12, none⟩ = some c12 ∧ ∀ i, W.frozen? ⟨g, i, none⟩ = false :=
  ⟨h.cell 0, h.cell 1, h.cell 2, h.cell 3, h.cell 4, h.cell 5, h.cell 6, h.cell 7, h.cell 8, h.cell 9, h.cell 10, h.cell 11, h.cell 12, fun i => Cel.frozen h i⟩
@[reducible] def withO (x : Mv) (B : Option Addr) (m d : Nat) (ps : List Po) : Mv := ⟨x.op, x.htype, x.hlen, x.hops, x.xid, x.secs, x.flags, x.ci, x.yi, x.si, x.gi, x.A, x.n, x.c, x.ch, B, m, d, ps⟩
theorem with_cells {w : World} {g : Nat} {t : TypeId} (x : Mv) (h : Cel w g t x.cells) (B : Option Addr) (m d : Nat) (ps : List Po) : Cel (w.setCell ⟨g, 12, none⟩ (.slice B m d)) g t (withO x B m d ps).cells := by
  have h2 := Cel.set h 12 (.slice B m d)
  exact h2
end Go.Proofs.YtoldppbakapohaaGreatDoor.Mw
end
/- msg.within, rightNumbers, overloaded, Right: which messages are right. For all inputs. -/
section
set_option maxRecDepth 8000
namespace Go.Proofs.YtoldppbakapohaaGreatDoor.Mw
open Go.RowKit Tl Ms By

def withinB (k : Int) (vs : List Int) : Bool := vs.all fun v => decide (0 ≤ v ∧ v ≤ k)
theorem within_bad {k : Int} {vs : List Int} {j : Nat} (h : j < vs.length) (hv : ¬ (0 ≤ vs[j] ∧ vs[j] ≤ k)) : withinB k vs = false := by
  unfold withinB
  rw [List.all_eq_false]
  exact ⟨vs[j], List.getElem_mem h, by simpa using hv⟩
theorem within_next {k : Int} {vs : List Int} {j : Nat} (h : j < vs.length) (ht : withinB k (vs.take j) = true) (hv : 0 ≤ vs[j] ∧ vs[j] ≤ k) : withinB k (vs.take (j + 1)) = true := by
  unfold withinB at ht ⊢
  rw [List.take_succ_eq_append_getElem h, List.all_append, ht]
  simp [hv]
set_option maxHeartbeats 400000 in
theorem within_any (k : Int) (g n : Nat) (vs : List Int) (w : World) (hn : vs.length = n) (hn2 : n ≤ 1000) (hc : ∀ i (h : i < vs.length), w.cell? ⟨g, i, none⟩ = some (.int .i64 vs[i])) :
    Calls Tryz.prog 195 #[.int .i64 k, .slice (some ⟨g, 0, none⟩) n n] w fun e w' => e = .returned (.bool (withinB k vs)) ∧ w = w' := by
  have HN := Lib.hid hn
  have HC := Lib.hid hc
  clear hn hc
  go_enter Tryz.func195, Tryz.ntmps195
  go_wp2
  go_loop [9] (fun i => ∃ j : Nat, j ≤ n ∧ i = .int .i64 j ∧ withinB k (vs.take j) = true) (fun i => n - (intOf i).toNat)
  case atStart => exact ⟨0, by omega, rfl, rfl⟩
  case round =>
    obtain ⟨j, hj, rfl, hs⟩ := hrel
    have HS := Lib.hid hs
    clear hs
    by_cases hlt : j < n
    · have hjl : j < vs.length := by have := HN.out; omega
      have hcell := HC.out j hjl
      have HB := fun hv => within_bad (k := k) hjl hv
      have HX := fun hv => within_next (k := k) hjl HS.out hv
      generalize vs[j] = v at hcell HB HX
      have HB2 := Lib.hid HB
      have HX2 := Lib.hid HX
      clear HB HX hjl
      by_cases h1 : v < 0
      · have H : Hid (withinB k vs = false) := HB2.out (by omega)
        go_wp2
        go_ret
        exact ⟨ret_bool H.out.symm, rfl⟩
      by_cases h2 : k < v
      · have H : Hid (withinB k vs = false) := HB2.out (by omega)
        go_wp2
        go_ret
        exact ⟨ret_bool H.out.symm, rfl⟩
      · have H : Hid (withinB k (vs.take (j + 1)) = true) := HX2.out (by omega)
        go_wp2
        go_round
        case rel => exact ⟨j + 1, by omega, by go_num, H.out⟩
        case measure => simp [intOf]; omega
    · obtain rfl : j = n := by omega
      have H : Hid (withinB k vs = true) := by have := HS.out; rwa [List.take_of_length_le (by have := HN.out; omega)] at this
      go_wp2
      go_ret
      exact ⟨ret_bool H.out.symm, rfl⟩

theorem cells1 (w : World) (t : TypeId) (a : Int) (g : Nat) (hg : g = w.heap.size) : ∀ i (h : i < [a].length), (w.alloc (.cells #[.int .i64 a] t)).cell? ⟨g, i, none⟩ = some (.int .i64 [a][i]) := by
  subst hg
  intro i hi
  match i, hi with
  | 0, _ => simp
theorem cells2 (w : World) (t : TypeId) (a b : Int) (g : Nat) (hg : g = w.heap.size) : ∀ i (h : i < [a, b].length), (w.alloc (.cells #[.int .i64 a, .int .i64 b] t)).cell? ⟨g, i, none⟩ = some (.int .i64 [a, b][i]) := by
  subst hg
  intro i hi
  match i, hi with
  | 0, _ => simp
  | 1, _ => simp
theorem cells3 (w : World) (t : TypeId) (a b c : Int) (g : Nat) (hg : g = w.heap.size) : ∀ i (h : i < [a, b, c].length), (w.alloc (.cells #[.int .i64 a, .int .i64 b, .int .i64 c] t)).cell? ⟨g, i, none⟩ = some (.int .i64 [a, b, c][i]) := by
  subst hg
  intro i hi
  match i, hi with
  | 0, _ => simp
  | 1, _ => simp
  | 2, _ => simp

def headB (x : M) : Bool := withinB 255 [x.op, x.htype, x.hops] && withinB 16 [x.hlen] && withinB 4294967295 [x.xid] && withinB 65535 [x.secs, x.flags] && Ad.rightB x.ci && Ad.rightB x.yi && Ad.rightB x.si && Ad.rightB x.gi
theorem headB_iff (x : M) : headB x = decide (HeadOk x) := by
  rw [Bool.eq_iff_iff, decide_eq_true_iff]
  unfold headB HeadOk withinB
  simp only [Bool.and_eq_true, List.all_cons, List.all_nil, decide_eq_true_eq, Ad.rightB_iff, and_true]
  omega

set_option maxHeartbeats 1000000 in
theorem rightNumbers_any (x : Mv) (w : World) : Calls Tryz.prog 131 #[x.v] w fun e w' => e = .returned (.bool (headB x.mm)) ∧ Below w.heap.size w w' := by
  have hb0 : Below w.heap.size w (w.alloc (.cells x.cells 29)) := (Below.refl _ _).alloc (Nat.le_refl _) _
  have HH : Hid (headB x.mm = (withinB 255 [x.op, x.htype, x.hops] && withinB 16 [x.hlen] && withinB 4294967295 [x.xid] && withinB 65535 [x.secs, x.flags] && Ad.rightB x.ci && Ad.rightB x.yi && Ad.rightB x.si && Ad.rightB x.gi)) := by show headB x.mm = _; unfold headB Mv.mm; rfl
  go_enter Tryz.func131, Tryz.ntmps131
  go_wp2_with fail
  refine (within_any _ _ 3 [x.op, x.htype, x.hops] _ rfl (by omega) (cells3 _ _ _ _ _ _ (by simp))).mono ?_
  rintro e w1 ⟨rfl, rfl⟩
  have hb1 := hb0.alloc hb0.size (.cells #[.int .i64 x.op, .int .i64 x.htype, .int .i64 x.hops] 3)
  cases q1 : withinB 255 [x.op, x.htype, x.hops]
  · have H : Hid (headB x.mm = false) := by show _ = _; rw [HH.out]; simp only [q1, Bool.false_and]
    go_wp2
    go_ret
    exact ⟨ret_bool H.out.symm, hb1⟩
  go_wp2_with fail
  refine (within_any _ _ 1 [x.hlen] _ rfl (by omega) (cells1 _ _ _ _ (by simp))).mono ?_
  rintro e w2 ⟨rfl, rfl⟩
  have hb2 := hb1.alloc hb1.size (.cells #[.int .i64 x.hlen] 3)
  cases q2 : withinB 16 [x.hlen]
  · have H : Hid (headB x.mm = false) := by show _ = _; rw [HH.out]; simp only [q1, q2, Bool.and_false, Bool.false_and]
    go_wp2
    go_ret
    exact ⟨ret_bool H.out.symm, hb2⟩
  go_wp2_with fail
  refine (within_any _ _ 1 [x.xid] _ rfl (by omega) (cells1 _ _ _ _ (by simp))).mono ?_
  rintro e w3 ⟨rfl, rfl⟩
  have hb3 := hb2.alloc hb2.size (.cells #[.int .i64 x.xid] 3)
  cases q3 : withinB 4294967295 [x.xid]
  · have H : Hid (headB x.mm = false) := by show _ = _; rw [HH.out]; simp only [q1, q2, q3, Bool.and_false, Bool.false_and, Bool.true_and]
    go_wp2
    go_ret
    exact ⟨ret_bool H.out.symm, hb3⟩
  go_wp2_with fail
  refine (within_any _ _ 2 [x.secs, x.flags] _ rfl (by omega) (cells2 _ _ _ _ _ (by simp))).mono ?_
  rintro e w4 ⟨rfl, rfl⟩
  have hb4 := hb3.alloc hb3.size (.cells #[.int .i64 x.secs, .int .i64 x.flags] 3)
  cases q4 : withinB 65535 [x.secs, x.flags]
  · have H : Hid (headB x.mm = false) := by show _ = _; rw [HH.out]; simp only [q1, q2, q3, q4, Bool.and_false, Bool.false_and, Bool.true_and]
    go_wp2
    go_ret
    exact ⟨ret_bool H.out.symm, hb4⟩
  go_wp2_with fail
  refine (Aw.right_any _ _).mono ?_
  rintro e w5 ⟨rfl, rfl⟩
  have hb5 := hb4
  cases q5 : Ad.rightB x.ci
  · have H : Hid (headB x.mm = false) := by show _ = _; rw [HH.out]; simp only [q1, q2, q3, q4, q5, Bool.and_false, Bool.false_and, Bool.true_and]
    go_wp2
    go_ret
    exact ⟨ret_bool H.out.symm, hb5⟩
  go_wp2_with fail
  refine (Aw.right_any _ _).mono ?_
  rintro e w6 ⟨rfl, rfl⟩
  have hb6 := hb5
  cases q6 : Ad.rightB x.yi
  · have H : Hid (headB x.mm = false) := by show _ = _; rw [HH.out]; simp only [q1, q2, q3, q4, q5, q6, Bool.and_false, Bool.false_and, Bool.true_and]
    go_wp2
    go_ret
    exact ⟨ret_bool H.out.symm, hb6⟩
  go_wp2_with fail
  refine (Aw.right_any _ _).mono ?_
  rintro e w7 ⟨rfl, rfl⟩
  have hb7 := hb6
  cases q7 : Ad.rightB x.si
  · have H : Hid (headB x.mm = false) := by show _ = _; rw [HH.out]; simp only [q1, q2, q3, q4, q5, q6, q7, Bool.and_false, Bool.false_and, Bool.true_and]
    go_wp2
    go_ret
    exact ⟨ret_bool H.out.symm, hb7⟩
  go_wp2_with fail
  refine (Aw.right_any _ _).mono ?_
  rintro e w8 ⟨rfl, rfl⟩
  have hb8 := hb7
  have H : Hid (headB x.mm = Ad.rightB x.gi) := by show _ = _; rw [HH.out]; simp only [q1, q2, q3, q4, q5, q6, q7, Bool.true_and]
  go_wp2
  go_ret
  exact ⟨ret_bool H.out.symm, hb8⟩

theorem overloaded_any (A : Option Addr) (n c : Nat) (ps : List Po) (w : World) (h : RdO w A n c ps) (hsm : ∀ p ∈ ps, p.l.length ≤ 1000) :
    Calls Tryz.prog 133 #[.slice A n c] w fun e w' => e = .returned (.bool (findL (osP ps) 52).isSome) ∧ Below w.heap.size w w' := by
  go_enter Tryz.func133, Tryz.ntmps133
  go_wp2_with fail
  refine (Tw.find_any A n c ps 52 _ h hsm).mono ?_
  rintro e w1 ⟨A1, m1, c1, rfl, _, hb1⟩
  go_wp2
  go_ret
  exact ⟨rfl, hb1⟩

theorem box_at {x : Mv} {t : TypeId} {w w1 : World} {B : Nat} (hB : w.heap.size < B) (hb : Below B (w.alloc (.cells x.cells t)) w1) : Cel w1 w.heap.size t x.cells := (Cel.born w t x.cells).below hb hB
theorem right_small {ps : List Po} (h : rightL (osP ps) = true) : ∀ p ∈ ps, p.l.length ≤ 1000 := fun p hp => by
  have := right_fit h (os_mem hp)
  have e : p.o.2.length = p.l.length := rfl
  omega
theorem find_has {l : List O} {c : Int} : (findL l c).isSome = false ↔ hasL l c = 0 := by
  rw [has_zero]
  constructor
  · intro h hm
    obtain ⟨i, hi, hp, hcode, hno⟩ := place_mem hm
    rw [find_hit hi hcode hno] at h
    cases h
  · intro h
    rw [find_none h]
    rfl

set_option maxHeartbeats 1000000 in
theorem right_any (x : Mv) (w : World) (h : x.ok w) : Calls Tryz.prog 77 #[x.v] w fun e w' => e = .returned (.bool (rightM x.mm)) ∧ Below w.heap.size w w' := by
  have hb0 : Below w.heap.size w (w.alloc (.cells x.cells 29)) := (Below.refl _ _).alloc (Nat.le_refl _) _
  have HL := Lib.hid h.ch.len
  have HR : Hid (∀ b : Bool, (RightM x.mm ↔ b = true) → rightM x.mm = b) := fun b hb => by rw [Bool.eq_iff_iff, rightM_iff]; exact hb
  have h0 := h.alloc (.cells x.cells 29)
  have hm1 := h.ch.max
  have hm2 := h.ch.cap
  clear h
  go_enter Tryz.func77, Tryz.ntmps77
  go_wp2_with fail
  refine (rightNumbers_any x _).mono ?_
  rintro e w1 ⟨rfl, hb1⟩
  have hbw1 := hb0.trans (hb1.mono hb0.size)
  cases q1 : headB x.mm
  · have H : Hid (rightM x.mm = false) := HR.out false ⟨fun k => by rw [headB_iff, decide_eq_false_iff_not] at q1; exact absurd k.1 q1, fun k => by cases k⟩
    go_wp2
    go_ret
    exact ⟨ret_bool H.out.symm, hbw1⟩
  have hcel := box_at (x := x) (by simp) hb1
  have hc11 : w1.cell? ⟨w.heap.size, 11, none⟩ = some (.slice x.A x.n x.c) := by rw [hcel.cell]; rfl
  have hc12 : w1.cell? ⟨w.heap.size, 12, none⟩ = some (.slice x.B x.m x.d) := by rw [hcel.cell]; rfl
  have h1 := h0.below hb1
  have Q1 : Hid (HeadOk x.mm) := by rw [headB_iff, decide_eq_true_iff] at q1; exact q1
  by_cases q2 : x.n = 16
  rotate_left
  · have H : Hid (rightM x.mm = false) := HR.out false ⟨fun k => by have := k.2.1; rw [show x.mm.ch.length = x.n from HL.out] at this; exact absurd this q2, fun k => by cases k⟩
    go_wp2
    go_ret
    exact ⟨ret_bool H.out.symm, hbw1⟩
  have Q2 : Hid (x.mm.ch.length = 16) := by show x.ch.length = 16; rw [HL.out, q2]
  go_wp2_with fail
  refine (Tw.right_any _ _ _ x.ps _ h1.os).mono ?_
  rintro e w2 ⟨rfl, hb2⟩
  have hbw2 := hbw1.trans (hb2.mono hbw1.size)
  cases q3 : rightL (osP x.ps)
  · have H : Hid (rightM x.mm = false) := HR.out false ⟨fun k => (by have := k.2.2.1; rw [show rightL x.mm.os = rightL (osP x.ps) from rfl, q3] at this; cases this), fun k => by cases k⟩
    go_wp2
    go_ret
    exact ⟨ret_bool H.out.symm, hbw2⟩
  have hcel2 := hcel.below hb2 (by have := hcel.lt; omega)
  have hd12 : w2.cell? ⟨w.heap.size, 12, none⟩ = some (.slice x.B x.m x.d) := by rw [hcel2.cell]; rfl
  have h2 := h1.below hb2
  go_wp2_with fail
  refine (overloaded_any _ _ _ x.ps _ h2.os (right_small q3)).mono ?_
  rintro e w3 ⟨rfl, hb3⟩
  have hbw3 := hbw2.trans (hb3.mono hbw2.size)
  have H : Hid (rightM x.mm = !(findL (osP x.ps) 52).isSome) := HR.out _ ⟨fun k => by
    have := find_has.2 k.2.2.2
    rw [show (findL (osP x.ps) 52) = findL x.mm.os 52 from rfl, this]; rfl, fun k => ⟨Q1.out, Q2.out, q3, find_has.1 (by
    cases hq : (findL (osP x.ps) 52).isSome with
    | false => exact hq
    | true => rw [hq] at k; cases k)⟩⟩
  go_wp2
  go_ret
  exact ⟨ret_bool (by rw [H.out, Option.not_isSome]), hbw3⟩
end Go.Proofs.YtoldppbakapohaaGreatDoor.Mw
end
/- As, Great (boarderlaw04), and the document's Right and Same for messages. For all inputs. -/
section
set_option maxRecDepth 8000
namespace Go.Proofs.YtoldppbakapohaaGreatDoor.Mw
open Go.RowKit Tl Ms By
open Tw (greatL)

set_option maxHeartbeats 1000000 in
theorem as_msg (x : Mv) (w : World) : Calls Tryz.prog 15 #[x.v] w fun e w' => e = .returned x.v ∧ Below w.heap.size w w' := by
  go_enter Tryz.func15, Tryz.ntmps15
  go_wp2
  go_returns
  exact ⟨rfl, ((Below.refl _ _).alloc (Nat.le_refl _) _).alloc (by simp) _⟩

def greatM (m : M) : Bool := decide (100 < m.ch.length) || greatL m.os
set_option maxHeartbeats 1000000 in
theorem great_msg (x : Mv) (w : World) (h : x.ok w) : Calls Tryz.prog 35 #[x.v] w fun e w' => e = .returned (.bool (greatM x.mm)) ∧ Below w.heap.size w w' := by
  have hm := h.ch.max
  have hcap := h.ch.cap
  have HL := Lib.hid h.ch.len
  have hb0 : Below w.heap.size w (w.alloc (.cells x.cells 29)) := (Below.refl _ _).alloc (Nat.le_refl _) _
  have h0 := h.alloc (.cells x.cells 29)
  by_cases h1 : (100 : Int) < (x.n : Int)
  · have H : Hid (greatM x.mm = true) := by
      show (decide (100 < x.ch.length) || _) = true
      rw [HL.out, decide_eq_true (by omega), Bool.true_or]
    go_enter Tryz.func35, Tryz.ntmps35
    go_wp2
    go_ret
    exact ⟨ret_bool H.out.symm, hb0⟩
  · have H : Hid (greatM x.mm = greatL (osP x.ps)) := by
      show (decide (100 < x.ch.length) || _) = _
      rw [HL.out, decide_eq_false (by omega), Bool.false_or]
      rfl
    go_enter Tryz.func35, Tryz.ntmps35
    go_wp2_with fail
    refine (Tw.great_any _ _ _ x.ps _ h0.os).mono ?_
    rintro e w1 ⟨rfl, rfl⟩
    go_wp2
    go_ret
    exact ⟨ret_bool H.out.symm, hb0⟩

/-! ### The document's Right -/
theorem not_right {x : Mv} (h : ¬ RightM x.mm) : Hid (rightM x.mm = false) := by
  show rightM x.mm = false
  cases q : rightM x.mm with
  | false => rfl
  | true => exact absurd ((rightM_iff _).1 q) h
set_option maxHeartbeats 4000000 in
theorem refRight_msg (x : Mv) (w : World) (h : x.ok w) : Calls Tryz.prog 46 #[x.v] w fun e w' => e = .returned (.bool (rightM x.mm)) ∧ Below w.heap.size w w' := by
  have hm := h.ch.max
  have hcap := h.ch.cap
  have HL := Lib.hid h.ch.len
  have hb0 : Below w.heap.size w (w.alloc (.cells x.cells 40)) := (Below.refl _ _).alloc (Nat.le_refl _) _
  have h0 := h.alloc (.cells x.cells 40)
  cases hB1 : (decide (x.op < 0) || decide (255 < x.op) || decide (x.htype < 0) || decide (255 < x.htype) || decide (x.hlen < 0) || decide (16 < x.hlen) || decide (x.hops < 0) || decide (255 < x.hops))
  rotate_left
  · have H := not_right (x := x) fun k => by
      obtain ⟨⟨a1, a2, a3, a4, _⟩, _⟩ := k
      simp only [Mv.mm] at a1 a2 a3 a4
      simp only [Bool.or_eq_true, decide_eq_true_eq] at hB1
      omega
    go_enter Tryz.func46, Tryz.ntmps46
    go_wp2
    all_goals (go_ret; exact ⟨ret_bool H.out.symm, hb0⟩)
  have hB1' := hB1
  simp only [Bool.or_eq_false_iff, decide_eq_false_iff_not] at hB1'
  obtain ⟨⟨⟨⟨⟨⟨⟨n1, n2⟩, n3⟩, n4⟩, n5⟩, n6⟩, n7⟩, n8⟩ := hB1'
  go_enter Tryz.func46, Tryz.ntmps46
  go_wp2_with fail
  refine (Aw.refRight_any x.xid _).mono ?_
  rintro e w1 ⟨rfl, rfl⟩
  cases q1 : Ad.rightB x.xid
  · have hq : ¬ (0 ≤ x.xid ∧ x.xid ≤ 4294967295) := fun k => by rw [Ad.rightB_iff.2 k] at q1; cases q1
    have H := not_right (x := x) fun k => hq k.1.2.2.2.2.1
    clear hq
    go_wp2
    all_goals (go_ret; exact ⟨ret_bool H.out.symm, hb0⟩)
  cases hB2 : (decide (x.secs < 0) || decide (65535 < x.secs) || decide (x.flags < 0) || decide (65535 < x.flags))
  rotate_left
  · have H := not_right (x := x) fun k => by
      obtain ⟨⟨_, _, _, _, _, a6, a7, _⟩, _⟩ := k
      simp only [Mv.mm] at a6 a7
      simp only [Bool.or_eq_true, decide_eq_true_eq] at hB2
      omega
    go_wp2
    all_goals (go_ret; exact ⟨ret_bool H.out.symm, hb0⟩)
  have hB2' := hB2
  simp only [Bool.or_eq_false_iff, decide_eq_false_iff_not] at hB2'
  obtain ⟨⟨⟨m1, m2⟩, m3⟩, m4⟩ := hB2'
  go_wp2_with fail
  refine (Aw.refRight_any x.ci _).mono ?_
  rintro e w1 ⟨rfl, rfl⟩
  cases q2 : Ad.rightB x.ci
  · have hq : ¬ (0 ≤ x.ci ∧ x.ci ≤ 4294967295) := fun k => by rw [Ad.rightB_iff.2 k] at q2; cases q2
    have H := not_right (x := x) fun k => hq k.1.2.2.2.2.2.2.2.1
    clear hq
    go_wp2
    all_goals (go_ret; exact ⟨ret_bool H.out.symm, hb0⟩)
  go_wp2_with fail
  refine (Aw.refRight_any x.yi _).mono ?_
  rintro e w1 ⟨rfl, rfl⟩
  cases q3 : Ad.rightB x.yi
  · have hq : ¬ (0 ≤ x.yi ∧ x.yi ≤ 4294967295) := fun k => by rw [Ad.rightB_iff.2 k] at q3; cases q3
    have H := not_right (x := x) fun k => hq k.1.2.2.2.2.2.2.2.2.1
    clear hq
    go_wp2
    all_goals (go_ret; exact ⟨ret_bool H.out.symm, hb0⟩)
  go_wp2_with fail
  refine (Aw.refRight_any x.si _).mono ?_
  rintro e w1 ⟨rfl, rfl⟩
  cases q4 : Ad.rightB x.si
  · have hq : ¬ (0 ≤ x.si ∧ x.si ≤ 4294967295) := fun k => by rw [Ad.rightB_iff.2 k] at q4; cases q4
    have H := not_right (x := x) fun k => hq k.1.2.2.2.2.2.2.2.2.2.1
    clear hq
    go_wp2
    all_goals (go_ret; exact ⟨ret_bool H.out.symm, hb0⟩)
  go_wp2_with fail
  refine (Aw.refRight_any x.gi _).mono ?_
  rintro e w1 ⟨rfl, rfl⟩
  cases q5 : Ad.rightB x.gi
  · have hq : ¬ (0 ≤ x.gi ∧ x.gi ≤ 4294967295) := fun k => by rw [Ad.rightB_iff.2 k] at q5; cases q5
    have H := not_right (x := x) fun k => hq k.1.2.2.2.2.2.2.2.2.2.2
    clear hq
    go_wp2
    all_goals (go_ret; exact ⟨ret_bool H.out.symm, hb0⟩)
  have HH : Hid (HeadOk x.mm) := by
    show HeadOk x.mm
    have r1 := Ad.rightB_iff.1 q1
    have r2 := Ad.rightB_iff.1 q2
    have r3 := Ad.rightB_iff.1 q3
    have r4 := Ad.rightB_iff.1 q4
    have r5 := Ad.rightB_iff.1 q5
    unfold HeadOk
    simp only [Mv.mm]
    omega
  by_cases q6 : (x.n : Int) = 16
  rotate_left
  · have H := not_right (x := x) fun k => by
      have := k.2.1
      rw [show x.mm.ch.length = x.n from HL.out] at this
      omega
    go_wp2
    all_goals (go_ret; exact ⟨ret_bool H.out.symm, hb0⟩)
  go_wp2_with fail
  refine (Tw.refRight_any _ _ _ x.ps _ h0.os).mono ?_
  rintro e w1 ⟨rfl, rfl⟩
  cases q7 : rightL (osP x.ps)
  · have H := not_right (x := x) fun k => by
      have := k.2.2.1
      rw [show rightL x.mm.os = rightL (osP x.ps) from rfl, q7] at this
      cases this
    go_wp2
    all_goals (go_ret; exact ⟨ret_bool H.out.symm, hb0⟩)
  go_wp2_with fail
  refine (Tw.has_any _ _ _ x.ps 52 _ h0.os).mono ?_
  rintro e w1 ⟨rfl, rfl⟩
  have H : Hid (rightM x.mm = ((hasL (osP x.ps) 52 : Int) == 0)) := by
    show rightM x.mm = _
    rw [Bool.eq_iff_iff, rightM_iff]
    constructor
    · intro k
      have := k.2.2.2
      rw [show hasL x.mm.os 52 = hasL (osP x.ps) 52 from rfl] at this
      rw [this]
      rfl
    · intro k
      exact ⟨HH.out, by rw [show x.mm.ch.length = x.n from HL.out]; omega, q7, (show hasL (osP x.ps) 52 = 0 by simpa using k)⟩
  go_wp2
  go_ret
  exact ⟨ret_bool H.out.symm, hb0⟩

/-! ### The document's Same -/
end Go.Proofs.YtoldppbakapohaaGreatDoor.Mw
end
/- Words for a message that a call has boxed, and what boarderlaw04's Great says of its options. No conditions. -/
section
set_option maxRecDepth 8000
namespace Go.Proofs.YtoldppbakapohaaGreatDoor.Pw
open Go.RowKit Tl Co Ms By
theorem alloc_more (w : World) (o : Obj) : Below w.heap.size w (w.alloc o) := (Below.refl _ _).alloc (Nat.le_refl _) _
theorem small_ps {ps : List Po} (h : Tw.greatL (osP ps) = false) : ∀ p ∈ ps, p.l.length ≤ 1000 := fun p hp => by
  unfold Tw.greatL at h
  rw [Bool.or_eq_false_iff, List.any_eq_false] at h
  have := h.1 p.o (os_mem hp)
  simp only [decide_eq_true_eq] at this
  have h2 : p.o.2.length = p.l.length := rfl
  omega
theorem small_ms {x : Mv} (h : Mw.greatM x.mm = false) : ∀ p ∈ x.ps, p.l.length ≤ 1000 := by
  unfold Mw.greatM at h
  rw [Bool.or_eq_false_iff] at h
  exact small_ps h.2
theorem boxM (w : World) (x : Mv) (t : TypeId) : ∃ w0, w0 = w.alloc (.cells x.cells t) ∧ Cel w0 w.heap.size t x.cells ∧ Below w.heap.size w w0 ∧ w0.heap.size = w.heap.size + 1 := ⟨_, rfl, Cel.born _ _ _, alloc_more _ _, by simp⟩
theorem celM {w : World} {g : Nat} {t : TypeId} {x : Mv} (h : Cel w g t x.cells) : w.cell? ⟨g, 7, none⟩ = some (.int .i64 x.ci) ∧ w.cell? ⟨g, 10, none⟩ = some (.int .i64 x.gi) ∧ w.cell? ⟨g, 12, none⟩ = some (.slice x.B x.m x.d) := ⟨by rw [h.cell]; rfl, by rw [h.cell]; rfl, by rw [h.cell]; rfl⟩
theorem celM_all {w : World} {g : Nat} {t : TypeId} {x : Mv} (h : Cel w g t x.cells) : (w.cell? ⟨g, 0, none⟩ = some (.int .i64 x.op) ∧ w.cell? ⟨g, 1, none⟩ = some (.int .i64 x.htype) ∧ w.cell? ⟨g, 2, none⟩ = some (.int .i64 x.hlen) ∧ w.cell? ⟨g, 3, none⟩ = some (.int .i64 x.hops) ∧ w.cell? ⟨g, 4, none⟩ = some (.int .i64 x.xid) ∧ w.cell? ⟨g, 5, none⟩ = some (.int .i64 x.secs) ∧ w.cell? ⟨g, 6, none⟩ = some (.int .i64 x.flags)) ∧ w.cell? ⟨g, 7, none⟩ = some (.int .i64 x.ci) ∧ w.cell? ⟨g, 8, none⟩ = some (.int .i64 x.yi) ∧ w.cell? ⟨g, 9, none⟩ = some (.int .i64 x.si) ∧ w.cell? ⟨g, 10, none⟩ = some (.int .i64 x.gi) ∧ w.cell? ⟨g, 11, none⟩ = some (.slice x.A x.n x.c) ∧ w.cell? ⟨g, 12, none⟩ = some (.slice x.B x.m x.d) :=
  ⟨⟨by rw [h.cell]; rfl, by rw [h.cell]; rfl, by rw [h.cell]; rfl, by rw [h.cell]; rfl, by rw [h.cell]; rfl, by rw [h.cell]; rfl, by rw [h.cell]; rfl⟩, by rw [h.cell]; rfl, by rw [h.cell]; rfl, by rw [h.cell]; rfl, by rw [h.cell]; rfl, by rw [h.cell]; rfl, by rw [h.cell]; rfl⟩
end Go.Proofs.YtoldppbakapohaaGreatDoor.Pw
end
