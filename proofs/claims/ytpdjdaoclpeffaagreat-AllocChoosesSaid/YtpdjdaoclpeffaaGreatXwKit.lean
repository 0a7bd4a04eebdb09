/- Words for alloc: rows of numbers and of ranges, what a client needs by value, two rows of one type that grow side by side. No program but the types; no conditions but those that each theorem names. -/
import Derived.Test.YtpdjdaoclpeffaaGreatVwA
import Derived.Test.YtpdjdaoclpeffaaGreatMathA
import Derived.Test.YtpdjdaoclpeffaaGreatEwA
set_option maxRecDepth 8000
namespace Go.Proofs.YtpdjdaoclpeffaaGreat.Xw
open Go.RowKit Co By Ky Rc Ew Jw La Tb Lw Cf Al
open Vw (Cx RdPl layP atP)
open Dw (ba ba_size ba_data ba_list alloc_more)

/-! ### Rows of numbers and of ranges -/
def layZ : Lay Int := ⟨1, fun n => [.int .i64 n], fun _ => rfl, fun e u hu => by
  simp only [List.mem_cons, List.not_mem_nil, or_false] at hu
  rcases hu with rfl; rfl⟩
abbrev RdZ (U : Nat) (w : World) (A : Option Addr) (n c : Nat) (l : List Int) : Prop := RdG layZ U w A n c l
abbrev OwnZ (B : Nat) (w : World) (A : Option Addr) (n c : Nat) (l : List Int) : Prop := OwnG layZ 3 B w A n c l
abbrev OwnPl (B : Nat) (w : World) (A : Option Addr) (n c : Nat) (l : List Pl) : Prop := OwnG layP 63 B w A n c l
theorem intZP : RgP Tryz.prog 45 3 layZ (.int .i64 0) 8 := ⟨Tryz.underlying45, by kernel_rfl⟩
theorem plP : RgP Tryz.prog 53 63 layP (.agg #[.int .i64 0, .int .i64 0]) 16 := ⟨Tryz.underlying53, by kernel_rfl⟩
theorem atZ {U : Nat} {w : World} {A : Option Addr} {n c : Nat} {l : List Int} (h : RdZ U w A n c l) {k : Nat} (hk : k < n) : ∃ b o i, A = some ⟨b, o, none⟩ ∧ b < U ∧ Hid (l[k]? = some i) ∧ w.cell? ⟨b, o + k, none⟩ = some (.int .i64 i) := by
  obtain ⟨b, o, e, hU, i, hl, hc⟩ := h.at_ hk
  refine ⟨b, o, i, e, hU, hl, ?_⟩
  have := hc 0 _ rfl
  rw [show o + k * layZ.s + 0 = o + k from by show o + k * 1 + 0 = o + k; omega] at this
  exact this
theorem litZ (w : World) (i : Int) : RdZ (w.heap.size + 1) (w.alloc (.cells #[.int .i64 i] 3)) (some ⟨w.heap.size, 0, none⟩) 1 1 [i] := by
  have := (OwnG.lit (Y := layZ) 3 w [i] (by simp)).rd
  have e : (w.alloc (.cells (layZ.cells [i]).toArray 3)).heap.size = w.heap.size + 1 := by simp
  rw [e, layZ.cells_one] at this
  exact this
theorem litP (w : World) (a b : Int) : RdPl (w.heap.size + 1) (w.alloc (.cells #[.int .i64 a, .int .i64 b] 63)) (some ⟨w.heap.size, 0, none⟩) 1 1 [⟨a, b⟩] := by
  have := (OwnG.lit (Y := layP) 63 w [⟨a, b⟩] (by simp)).rd
  have e : (w.alloc (.cells (layP.cells [⟨a, b⟩]).toArray 63)).heap.size = w.heap.size + 1 := by simp
  rw [e, layP.cells_one] at this
  exact this

/-! ### Two rows of one type that grow side by side -/
structure Two {α : Type} (Y : Lay α) (e B : Nat) (w : World) (A1 A2 : Option Addr) (n1 c1 n2 c2 : Nat) (l1 l2 : List α) : Prop where
  o1 : OwnG Y e B w A1 n1 c1 l1
  o2 : OwnG Y e B w A2 n2 c2 l2
  ap : (Value.slice A1 n1 c1).ownBlock = none ∨ (Value.slice A1 n1 c1).ownBlock ≠ (Value.slice A2 n2 c2).ownBlock
section
variable {α : Type} {Y : Lay α} {e B : Nat} {w w' : World} {A1 A2 : Option Addr} {n1 c1 n2 c2 : Nat} {l1 l2 : List α}
theorem Two.nil : Two Y e B w none none 0 0 0 0 ([] : List α) [] := ⟨OwnG.nil _ _ _, OwnG.nil _ _ _, .inl rfl⟩
theorem Two.below (h : Two Y e B w A1 A2 n1 c1 n2 c2 l1 l2) (hb : Below w.heap.size w w') : Two Y e B w' A1 A2 n1 c1 n2 c2 l1 l2 := ⟨h.o1.below hb, h.o2.below hb, h.ap⟩
theorem Two.swap (h : Two Y e B w A1 A2 n1 c1 n2 c2 l1 l2) : Two Y e B w A2 A1 n2 c2 n1 c1 l2 l1 := ⟨h.o2, h.o1, by
  rcases h.ap with k | k
  · cases hb : (Value.slice A2 n2 c2).ownBlock with
    | none => exact .inl rfl
    | some g => rw [k]; exact .inr (by simp)
  · exact .inr (Ne.symm k)⟩
theorem Two.app {m c' : Nat} {l' : List α} {A' : Option Addr} (h : Two Y e B w A1 A2 n1 c1 n2 c2 l1 l2) (ha : AppG Y e B w A1 n1 c1 m l' A' c' w') : Two Y e B w' A' A2 (n1 + m) c' n2 c2 l' l2 := by
  obtain ⟨h1, h2, h3, h4⟩ := ha
  refine ⟨h1, ⟨World.ownsRow.kept h.o2.1 h3 h.swap.ap, h.o2.2⟩, ?_⟩
  rcases h4 with h4 | h4
  · rw [h4]
    exact h.ap
  · rw [h4]
    refine .inr fun k => ?_
    have := (World.ownsRow.lt h.o2.1 _ k.symm).2
    omega
end

/-! ### What a client needs -/
/-- A need by value: a configuration, leases, a network, a key, a moment. -/
structure Nd where
  x : Cx
  A : Option Addr
  n : Nat
  c : Nat
  l : List L
  net : Int
  k : List UInt8
  now : Int
@[reducible] def Nd.v (d : Nd) : Value := .agg #[.int .i64 d.x.server, .int .i64 d.x.prob, .slice d.x.A d.x.n d.x.c, .slice d.A d.n d.c, .int .i64 d.net, .string (ba d.k), .int .i64 d.now]
@[reducible] def Nd.cs (d : Nd) : Array Value := #[.int .i64 d.x.server, .int .i64 d.x.prob, .slice d.x.A d.x.n d.x.c, .slice d.A d.n d.c, .int .i64 d.net, .string (ba d.k), .int .i64 d.now]
/-- It reads, below U; it is not great. -/
structure Nd.ok (U : Nat) (w : World) (d : Nd) : Prop where
  x : d.x.ok U w
  t : RdLs U w d.A d.n d.c d.l
  f : ∀ a ∈ d.l, Fk a
  s : Small d.x.cf
  k : d.k.length ≤ 9223372036854775807
theorem Nd.ok.below {U : Nat} {w w' : World} {d : Nd} (h : d.ok U w) (hb : Below U w w') : d.ok U w' := ⟨h.x.below hb, h.t.below hb, h.f, h.s, h.k⟩
theorem boxedN (w : World) (d : Nd) : ∃ w0, w0 = w.alloc (.cells d.cs 44) ∧ Cel w0 w.heap.size 44 d.cs ∧ Below w.heap.size w w0 ∧ w0.heap.size = w.heap.size + 1 := ⟨_, rfl, Cel.born _ _ _, alloc_more _ _, by simp⟩
theorem cel7N {w : World} {g : Nat} {t : TypeId} {d : Nd} (h : Cel w g t d.cs) : w.cell? ⟨g, 0, none⟩ = some (.int .i64 d.x.server) ∧ w.cell? ⟨g, 1, none⟩ = some (.int .i64 d.x.prob) ∧ w.cell? ⟨g, 2, none⟩ = some (.slice d.x.A d.x.n d.x.c) ∧
    w.cell? ⟨g, 3, none⟩ = some (.slice d.A d.n d.c) ∧ w.cell? ⟨g, 4, none⟩ = some (.int .i64 d.net) ∧ w.cell? ⟨g, 5, none⟩ = some (.string (ba d.k)) ∧ w.cell? ⟨g, 6, none⟩ = some (.int .i64 d.now) :=
  ⟨by rw [h.cell]; rfl, by rw [h.cell]; rfl, by rw [h.cell]; rfl, by rw [h.cell]; rfl, by rw [h.cell]; rfl, by rw [h.cell]; rfl, by rw [h.cell]; rfl⟩
theorem right_fair {d : Nd} (h1 : checkC d.x.cf = 0) (h2 : rightT d.l = true) (h3 : rightK d.k = true) (h4 : 0 ≤ d.net) (hl : d.x.cf.nets.length = d.x.n) : decide (FairA d.x.cf d.l d.net d.k) = decide (d.net < (d.x.n : Int)) := by
  refine decide_eq_decide.2 ⟨fun h => ?_, fun h => ⟨h1, of_decide_eq_true h2, h3, h4, ?_⟩⟩
  · rw [← hl]
    exact h.2.2.2.2
  · rwa [hl]
theorem right_not {d : Nd} (h : ¬ FairA d.x.cf d.l d.net d.k) : decide (FairA d.x.cf d.l d.net d.k) = false := decide_eq_false h
end Go.Proofs.YtpdjdaoclpeffaaGreat.Xw
