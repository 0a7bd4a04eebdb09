/- A message in memory, as a value: its numbers, the slice of its hardware address, the slice of its options. No conditions. -/
import Derived.Test.YtoobijefjljnjaaByU
import Derived.Test.YtoobijefjljnjaaMsMath
import Derived.Test.YtoobijefjljnjaaBase
namespace Go.Proofs.Ytoobijefjljnjaa.By
open Go.RowKit Tl Ms

structure Mv where
  op : Int
  htype : Int
  hlen : Int
  hops : Int
  xid : Int
  secs : Int
  flags : Int
  ci : Int
  yi : Int
  si : Int
  gi : Int
  A : Option Addr
  n : Nat
  c : Nat
  ch : List UInt8
  B : Option Addr
  m : Nat
  d : Nat
  ps : List Po
@[reducible] def Mv.cells (x : Mv) : Array Value :=
  #[.int .i64 x.op, .int .i64 x.htype, .int .i64 x.hlen, .int .i64 x.hops, .int .i64 x.xid, .int .i64 x.secs, .int .i64 x.flags, .int .i64 x.ci, .int .i64 x.yi, .int .i64 x.si, .int .i64 x.gi, .slice x.A x.n x.c, .slice x.B x.m x.d]
@[reducible] def Mv.v (x : Mv) : Value :=
  .agg #[.int .i64 x.op, .int .i64 x.htype, .int .i64 x.hlen, .int .i64 x.hops, .int .i64 x.xid, .int .i64 x.secs, .int .i64 x.flags, .int .i64 x.ci, .int .i64 x.yi, .int .i64 x.si, .int .i64 x.gi, .slice x.A x.n x.c, .slice x.B x.m x.d]
def Mv.mm (x : Mv) : M := ⟨x.op, x.htype, x.hlen, x.hops, x.xid, x.secs, x.flags, x.ci, x.yi, x.si, x.gi, x.ch, osP x.ps⟩
structure Mv.ok (x : Mv) (w : World) : Prop where
  ch : Bs w x.A x.n x.c x.ch
  os : RdO w x.B x.m x.d x.ps
theorem Mv.ok.below {x : Mv} {w w' : World} (h : x.ok w) (hb : Below w.heap.size w w') : x.ok w' := ⟨h.ch.below hb, h.os.below hb⟩
theorem Mv.ok.alloc {x : Mv} {w : World} (h : x.ok w) (o : Obj) : x.ok (w.alloc o) := ⟨h.ch.alloc o, h.os.alloc o⟩
def zeroV : Mv := ⟨0, 0, 0, 0, 0, 0, 0, 0, 0, 0, 0, none, 0, 0, [], none, 0, 0, []⟩
theorem zeroV_ok (w : World) : zeroV.ok w := ⟨Bs.nil w, RdO.nil w⟩
theorem zeroV_mm : zeroV.mm = zeroM := rfl
end Go.Proofs.Ytoobijefjljnjaa.By
