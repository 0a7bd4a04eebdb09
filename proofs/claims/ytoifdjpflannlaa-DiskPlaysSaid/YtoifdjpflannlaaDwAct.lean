/- Words for what is done to a disk (boarderlaw08.Act), and what Small comes to. -/
import Derived.Test.YtoifdjpflannlaaDwStep
set_option maxRecDepth 8000
namespace Go.Proofs.Ytoifdjpflannlaa.Dw
open Go.RowKit By Dk

/-- An act by value, with what its slices hold. -/
structure Av where
  kind : Int
  n : Int
  name : N
  tn : N
  bA : Option Addr
  bc : Nat
  b : List UInt8
  kA : Option Addr
  kc : Nat
  keep : List Int
  dir : Bool
@[reducible] def Av.v (a : Av) : Value := .agg #[.int .i64 a.kind, .int .i64 a.n, .string (ba a.name), .string (ba a.tn), .slice a.bA a.b.length a.bc, .slice a.kA a.keep.length a.kc, .bool a.dir]
def Av.cl (a : Av) : List Value := [.int .i64 a.kind, .int .i64 a.n, .string (ba a.name), .string (ba a.tn), .slice a.bA a.b.length a.bc, .slice a.kA a.keep.length a.kc, .bool a.dir]
def layA : Lay Av := ⟨7, Av.cl, fun _ => rfl, fun a u hu => by
  unfold Av.cl at hu
  simp only [List.mem_cons, List.not_mem_nil, or_false] at hu
  rcases hu with rfl | rfl | rfl | rfl | rfl | rfl | rfl <;> rfl⟩
structure OkA (w : World) (a : Av) : Prop where
  b : Bs w a.bA a.b.length a.bc a.b
  k : Rd w a.kA a.keep.length a.kc (intV a.keep)
  s : a.name.length ≤ 9223372036854775807
  t : a.tn.length ≤ 9223372036854775807
theorem OkA.below {w w' : World} {a : Av} (h : OkA w a) (hb : Below w.heap.size w w') : OkA w' a := ⟨h.b.below hb, h.k.below hb, h.s, h.t⟩
def RdA (w : World) (A : Option Addr) (n c : Nat) (l : List Av) : Prop := RdG layA w.heap.size w A n c l ∧ ∀ a ∈ l, OkA w a
theorem RdA.below {w w' : World} {A : Option Addr} {n c : Nat} {l : List Av} (h : RdA w A n c l) (hb : Below w.heap.size w w') : RdA w' A n c l := ⟨(h.1.below hb).mono hb.size, fun a ha => (h.2 a ha).below hb⟩
/-- One act of a slice that reads. -/
theorem atA {w : World} {A : Option Addr} {n c : Nat} {l : List Av} (h : RdA w A n c l) {k : Nat} (hk : k < n) : ∃ b o a, A = some ⟨b, o, none⟩ ∧ b < w.heap.size ∧ Hid (l[k]? = some a) ∧ OkA w a ∧
    w.cell? ⟨b, o + k * 7, none⟩ = some (.int .i64 a.kind) ∧ w.cell? ⟨b, o + k * 7 + 1, none⟩ = some (.int .i64 a.n) ∧ w.cell? ⟨b, o + k * 7 + 2, none⟩ = some (.string (ba a.name)) ∧ w.cell? ⟨b, o + k * 7 + 3, none⟩ = some (.string (ba a.tn)) ∧
    w.cell? ⟨b, o + k * 7 + 4, none⟩ = some (.slice a.bA a.b.length a.bc) ∧ w.cell? ⟨b, o + k * 7 + 5, none⟩ = some (.slice a.kA a.keep.length a.kc) ∧ w.cell? ⟨b, o + k * 7 + 6, none⟩ = some (.bool a.dir) := by
  obtain ⟨b, o, e, hU, a, hl, hc⟩ := h.1.at_ hk
  exact ⟨b, o, a, e, hU, hl, h.2 a (List.mem_of_getElem? hl.out), hc 0 _ rfl, hc 1 _ rfl, hc 2 _ rfl, hc 3 _ rfl, hc 4 _ rfl, hc 5 _ rfl, hc 6 _ rfl⟩
def SmR (w : World) (a : Av) (e : Ending) (w' : World) : Prop := ∃ s : Bool, e = .returned (.bool s) ∧ (s = true → a.name.length ≤ 100 ∧ a.tn.length ≤ 100 ∧ a.b.length ≤ 30000 ∧ a.keep.length ≤ 100) ∧ Below w.heap.size w w'
set_option maxHeartbeats 1000000 in
theorem small_any (a : Av) (w : World) (h : OkA w a) : Calls Try.prog 12 #[a.v] w (SmR w a) := by
  have hb := alloc_more w (.cells #[.int .i64 a.kind, .int .i64 a.n, .string (ba a.name), .string (ba a.tn), .slice a.bA a.b.length a.bc, .slice a.kA a.keep.length a.kc, .bool a.dir] 38)
  have h1 := h.b.cap
  have h2 := h.b.max
  have h3 := h.k.cap
  have h4 := h.k.max
  have z1 := Lib.hid (ba_size a.name)
  have z2 := Lib.hid (ba_size a.tn)
  have h5 := h.s
  have h6 := h.t
  clear h
  by_cases c1 : ((ba a.name).size : Int) ≤ 100
  rotate_left
  · go_enter Try.func12, Try.ntmps12
    go_wp2
    go_ret
    exact ⟨false, rfl, (fun k => by cases k), hb⟩
  by_cases c2 : ((ba a.tn).size : Int) ≤ 100
  rotate_left
  · go_enter Try.func12, Try.ntmps12
    go_wp2
    go_ret
    exact ⟨false, rfl, (fun k => by cases k), hb⟩
  by_cases c3 : ((a.b.length : Nat) : Int) ≤ 30000
  rotate_left
  · go_enter Try.func12, Try.ntmps12
    go_wp2
    go_ret
    exact ⟨false, rfl, (fun k => by cases k), hb⟩
  by_cases c4 : ((a.keep.length : Nat) : Int) ≤ 100
  rotate_left
  · go_enter Try.func12, Try.ntmps12
    go_wp2
    go_ret
    exact ⟨false, rfl, (fun k => by cases k), hb⟩
  go_enter Try.func12, Try.ntmps12
  go_wp2
  go_ret
  exact ⟨true, rfl, (fun _ => by have := z1.out; have := z2.out; omega), hb⟩
end Go.Proofs.Ytoifdjpflannlaa.Dw
