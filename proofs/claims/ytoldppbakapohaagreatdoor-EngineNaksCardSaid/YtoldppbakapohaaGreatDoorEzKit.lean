/- Words for the engine's own walks: a query by value and in a block (21 cells: a configuration, leases, a message, a moment, a subnet's place, a key), an Answer of the program's. No conditions. -/
import Derived.Test.YtoldppbakapohaaGreatDoorEyRef2
import Derived.Test.YtoldppbakapohaaGreatDoorGwA
import Derived.Test.YtoldppbakapohaaGreatDoorXwC
import Derived.Test.YtoldppbakapohaaGreatDoorRpMake
import Derived.Test.YtoldppbakapohaaGreatDoorMwRw
import Derived.Deep.WholeRow
import Derived.Laws.Rows
set_option maxRecDepth 8000
namespace Go.Proofs.YtoldppbakapohaaGreatDoor.Ez
open Go.RowKit Tl Co Ms Cf Ad By Rp Ky Rc Ew Jw La Tb Pk Al Cl Eg Ey
open Dw (ba ba_size ba_data ba_list)
open Pw (alloc_more celM_all boxM)
open Vw (Cx cel3C)
open Rpw (Mo)

structure Qv where
  c : Cx
  A : Option Addr
  n : Nat
  cc : Nat
  l : List L
  x : Mv
  now : Int
  net : Int
  sub : Int
  k : List UInt8
@[reducible] def Qv.cs (q : Qv) : Array Value := #[.int .i64 q.c.server, .int .i64 q.c.prob, .slice q.c.A q.c.n q.c.c, .slice q.A q.n q.cc, .int .i64 q.x.op, .int .i64 q.x.htype, .int .i64 q.x.hlen, .int .i64 q.x.hops, .int .i64 q.x.xid, .int .i64 q.x.secs, .int .i64 q.x.flags, .int .i64 q.x.ci, .int .i64 q.x.yi, .int .i64 q.x.si, .int .i64 q.x.gi, .slice q.x.A q.x.n q.x.c, .slice q.x.B q.x.m q.x.d, .int .i64 q.now, .int .i64 q.net, .int .i64 q.sub, .string (ba q.k)]
@[reducible] def Qv.v (q : Qv) : Value := .agg #[.int .i64 q.c.server, .int .i64 q.c.prob, .slice q.c.A q.c.n q.c.c, .slice q.A q.n q.cc, .int .i64 q.x.op, .int .i64 q.x.htype, .int .i64 q.x.hlen, .int .i64 q.x.hops, .int .i64 q.x.xid, .int .i64 q.x.secs, .int .i64 q.x.flags, .int .i64 q.x.ci, .int .i64 q.x.yi, .int .i64 q.x.si, .int .i64 q.x.gi, .slice q.x.A q.x.n q.x.c, .slice q.x.B q.x.m q.x.d, .int .i64 q.now, .int .i64 q.net, .int .i64 q.sub, .string (ba q.k)]
@[reducible] def zq : Array Value := #[.int .i64 0, .int .i64 0, .slice none 0 0, .slice none 0 0, .int .i64 0, .int .i64 0, .int .i64 0, .int .i64 0, .int .i64 0, .int .i64 0, .int .i64 0, .int .i64 0, .int .i64 0, .int .i64 0, .int .i64 0, .slice none 0 0, .slice none 0 0, .int .i64 0, .int .i64 0, .int .i64 0, .string ⟨#[]⟩]
/-- What a query asks: all reads, nothing is great, the message is to be processed. -/
structure Qv.ok (U : Nat) (w : World) (q : Qv) : Prop where
  c : q.c.ok U w
  t : RdLs U w q.A q.n q.cc q.l
  f : ∀ b ∈ q.l, Fk b
  s : Small q.c.cf
  x : q.x.ok w
  sm : ∀ p ∈ q.x.ps, p.l.length ≤ 1000
  k : q.k.length ≤ 9223372036854775807
  r : rightM q.x.mm = true
  sub : Rpw.subB q.c.cf q.net q.sub = true
  now : 0 ≤ q.now ∧ q.now ≤ 1125899906842624
theorem Qv.ok.below {U : Nat} {w w' : World} {q : Qv} (h : q.ok U w) (hU : U ≤ w.heap.size) (hb : Below w.heap.size w w') : q.ok U w' := ⟨h.c.below (hb.mono hU), h.t.below (hb.mono hU), h.f, h.s, h.x.below hb, h.sm, h.k, h.r, h.sub, h.now⟩
theorem cells21 {w : World} {g : Nat} {t : TypeId} {q : Qv} (h : Cel w g t q.cs) : w.cell? ⟨g, 0, none⟩ = some (.int .i64 q.c.server) ∧ w.cell? ⟨g, 1, none⟩ = some (.int .i64 q.c.prob) ∧ w.cell? ⟨g, 2, none⟩ = some (.slice q.c.A q.c.n q.c.c) ∧ w.cell? ⟨g, 3, none⟩ = some (.slice q.A q.n q.cc) ∧ w.cell? ⟨g, 4, none⟩ = some (.int .i64 q.x.op) ∧ w.cell? ⟨g, 5, none⟩ = some (.int .i64 q.x.htype) ∧ w.cell? ⟨g, 6, none⟩ = some (.int .i64 q.x.hlen) ∧ w.cell? ⟨g, 7, none⟩ = some (.int .i64 q.x.hops) ∧ w.cell? ⟨g, 8, none⟩ = some (.int .i64 q.x.xid) ∧ w.cell? ⟨g, 9, none⟩ = some (.int .i64 q.x.secs) ∧ w.cell? ⟨g, 10, none⟩ = some (.int .i64 q.x.flags) ∧ w.cell? ⟨g, 11, none⟩ = some (.int .i64 q.x.ci) ∧ w.cell? ⟨g, 12, none⟩ = some (.int .i64 q.x.yi) ∧ w.cell? ⟨g, 13, none⟩ = some (.int .i64 q.x.si) ∧ w.cell? ⟨g, 14, none⟩ = some (.int .i64 q.x.gi) ∧ w.cell? ⟨g, 15, none⟩ = some (.slice q.x.A q.x.n q.x.c) ∧ w.cell? ⟨g, 16, none⟩ = some (.slice q.x.B q.x.m q.x.d) ∧ w.cell? ⟨g, 17, none⟩ = some (.int .i64 q.now) ∧ w.cell? ⟨g, 18, none⟩ = some (.int .i64 q.net) ∧ w.cell? ⟨g, 19, none⟩ = some (.int .i64 q.sub) ∧ w.cell? ⟨g, 20, none⟩ = some (.string (ba q.k)) :=
  ⟨by rw [h.cell]; rfl, by rw [h.cell]; rfl, by rw [h.cell]; rfl, by rw [h.cell]; rfl, by rw [h.cell]; rfl, by rw [h.cell]; rfl, by rw [h.cell]; rfl, by rw [h.cell]; rfl, by rw [h.cell]; rfl, by rw [h.cell]; rfl, by rw [h.cell]; rfl, by rw [h.cell]; rfl, by rw [h.cell]; rfl, by rw [h.cell]; rfl, by rw [h.cell]; rfl, by rw [h.cell]; rfl, by rw [h.cell]; rfl, by rw [h.cell]; rfl, by rw [h.cell]; rfl, by rw [h.cell]; rfl, by rw [h.cell]; rfl⟩
/-- A query in its box, an Answer of noughts behind it. -/
theorem boxQ (w : World) (q : Qv) : ∃ w0, w0 = (w.alloc (.cells q.cs 77)).alloc (.cells zav 37) ∧ Cel w0 w.heap.size 77 q.cs ∧ Cel w0 (w.heap.size + 1) 37 zav ∧ Below w.heap.size w w0 ∧ w0.heap.size = w.heap.size + 2 := by
  have ca := Cel.born w 77 q.cs
  have ba := alloc_more w (.cells q.cs 77)
  have sa : (w.alloc (.cells q.cs 77)).heap.size = w.heap.size + 1 := by simp
  refine ⟨_, rfl, ?_⟩
  generalize w.alloc (.cells q.cs 77) = wa at ca ba sa
  have cb := Cel.born wa 37 zav
  have bb := alloc_more wa (.cells zav 37)
  have sb : (wa.alloc (.cells zav 37)).heap.size = w.heap.size + 2 := by simp; omega
  rw [sa] at cb
  exact ⟨ca.below bb ca.lt, cb, ba.trans (bb.mono ba.size), sb⟩
/-- A query alone in its box. -/
theorem boxQ1 (w : World) (q : Qv) : ∃ w0, w0 = w.alloc (.cells q.cs 77) ∧ Cel w0 w.heap.size 77 q.cs ∧ Below w.heap.size w w0 ∧ w0.heap.size = w.heap.size + 1 := ⟨_, rfl, Cel.born _ _ _, alloc_more _ _, by simp⟩
theorem ret_ans {fn : Func} {p : Tmp} (hres : fn.results = #[.cell p 37]) (tmps : Array Value) (w : World) (g : Nat) (cs : Array Value) (hp : tmps.getD p undef = .pointer (some ⟨g, 0, none⟩)) (hc : Cel w g 37 cs) (hs : cs.size = 22) :
    (results fn tmps).run Tryz.prog w = .ok (.agg cs) w := results_cell_row hres tmps w g _ cs (0, 0) _ hp hc Tryz.underlying37 rfl (by rw [hs]; kernel_rfl)
theorem ret_q2 {fn : Func} {p u : Tmp} (hres : fn.results = #[.cell p 77, .tmp u]) (tmps : Array Value) (w : World) (g : Nat) (cs : Array Value) (hp : tmps.getD p undef = .pointer (some ⟨g, 0, none⟩)) (hc : Cel w g 77 cs) (hs : cs.size = 21) :
    (results fn tmps).run Tryz.prog w = .ok (.tuple #[.agg cs, tmps.getD u undef]) w := by
  rw [results_cell_tmp hres, hp]
  have := run_loadVar_row (P := Tryz.prog) w g 77 77 cs (0, 0) _ hc Tryz.underlying77 rfl (by rw [hs]; kernel_rfl)
  simp [asAddr, this]
/-- A whole row is loaded in a region that draws its order. -/
theorem yields_row {P : Program} {ops : Array Oper} {S : World → Prop} {o : Oper} {a : Act} (ty : TypeId) (x : Operand) (ho : o.op = .load ty x) (hgd : o.guard = none) (g : Nat) (hx : a.eval x = .pointer (some ⟨g, 0, none⟩)) (t : TypeId) (cs : Array Value) (d : TypeDesc)
    (hS : ∀ w, S w → Cel w g t cs) (hu : P.underlying ty = some d) (hd : (match d with | .struct _ | .array _ _ => true | _ => false) = true) (hi : (P.info? ty).map (·.size) = some cs.size) : YieldsIf P ops S o (.agg cs) a := by
  refine .inl ⟨by simp [Region.wanted, hgd], fun w hw => ?_⟩
  unfold execOp
  simp only [ho, hx, Instr.loadAt, Instr.sureAddr, Sem.run_bind, Sem.run_pure, Result.andThen_ok, run_loadVar_row w g t ty cs (0, 0) d (hS w hw) hu hd hi]
/-- A reply that is none, or lies in memory of the call's own. -/
def Mp (B : Nat) (w : World) (y : Mv) : Prop := y = zeroV ∨ Mo B w y
theorem Mp.ok {y : Mv} {B : Nat} {w : World} (h : Mp B w y) : y.ok w := by
  rcases h with rfl | h
  · exact zeroV_ok w
  · exact h.ok
theorem Mp.below {y : Mv} {B : Nat} {w w' : World} (h : Mp B w y) (hb : Below w.heap.size w w') : Mp B w' y := h.imp id fun q => q.below hb
theorem Mp.mono {y : Mv} {B B' : Nat} {w : World} (h : Mp B w y) (hB : B' ≤ B) : Mp B' w y := h.imp id fun q => q.mono hB
theorem Mp.off {B g : Nat} {w w' : World} {y : Mv} {cs : Array Value} (h : Mp B w y) (hc : Cel w g 37 cs) (hg : w.grownBy w' (some g)) : Mp B w' y := h.imp id fun q => ⟨Rpw.own_off hc (by decide) q.1 hg, Rpw.ownF_off hc (by decide) (by decide) q.2 hg⟩
/-- What a call of the program's that answers an Answer answers. -/
def AnP (w : World) (A : An) (e : Ending) (w' : World) : Prop := ∃ y : Av, e = .returned y.v ∧ Mp w.heap.size w' y.x ∧ y.an = A ∧ Below w.heap.size w w'
end Go.Proofs.YtoldppbakapohaaGreatDoor.Ez
