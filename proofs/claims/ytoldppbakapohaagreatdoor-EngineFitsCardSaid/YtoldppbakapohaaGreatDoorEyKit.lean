/- Words for the engine's walks: an Answer by value and in a block (22 cells: two Booleans, a message, a destination, a lease). No conditions. -/
import Derived.Test.YtoldppbakapohaaGreatDoorMathA
import Derived.Test.YtoldppbakapohaaGreatDoorRpA
import Derived.Test.YtoldppbakapohaaGreatDoorEwA
import Derived.Laws.Tables
import Derived.Laws.CopyOwn
import Derived.Deep.Cut
import Derived.Deep.RegionHeld3
set_option maxRecDepth 8000
namespace Go.Proofs.YtoldppbakapohaaGreatDoor.Ey
open Go.RowKit Tl Co Ms Cf Ad By Rp Ky Rc Ew La Tb Pk Al Cl Eg
open Dw (ba ba_size ba_data ba_list)
open Pw (alloc_more celM_all boxM)

structure Av where
  send : Bool
  keep : Bool
  x : Mv
  ta : Int
  tp : Int
  tr : Bool
  l : L
@[reducible] def Av.cs (y : Av) : Array Value := #[.bool y.send, .bool y.keep, .int .i64 y.x.op, .int .i64 y.x.htype, .int .i64 y.x.hlen, .int .i64 y.x.hops, .int .i64 y.x.xid, .int .i64 y.x.secs, .int .i64 y.x.flags, .int .i64 y.x.ci, .int .i64 y.x.yi, .int .i64 y.x.si, .int .i64 y.x.gi, .slice y.x.A y.x.n y.x.c, .slice y.x.B y.x.m y.x.d, .int .i64 y.ta, .int .i64 y.tp, .bool y.tr, .int .i64 y.l.addr, .int .i64 y.l.state, .int .i64 y.l.till, .string (ba y.l.key)]
@[reducible] def Av.v (y : Av) : Value := .agg #[.bool y.send, .bool y.keep, .int .i64 y.x.op, .int .i64 y.x.htype, .int .i64 y.x.hlen, .int .i64 y.x.hops, .int .i64 y.x.xid, .int .i64 y.x.secs, .int .i64 y.x.flags, .int .i64 y.x.ci, .int .i64 y.x.yi, .int .i64 y.x.si, .int .i64 y.x.gi, .slice y.x.A y.x.n y.x.c, .slice y.x.B y.x.m y.x.d, .int .i64 y.ta, .int .i64 y.tp, .bool y.tr, .int .i64 y.l.addr, .int .i64 y.l.state, .int .i64 y.l.till, .string (ba y.l.key)]
def Av.an (y : Av) : An := ⟨y.send, y.keep, y.x.mm, (y.ta, y.tp, y.tr), y.l⟩
@[reducible] def zav : Array Value := #[.bool false, .bool false, .int .i64 0, .int .i64 0, .int .i64 0, .int .i64 0, .int .i64 0, .int .i64 0, .int .i64 0, .int .i64 0, .int .i64 0, .int .i64 0, .int .i64 0, .slice none 0 0, .slice none 0 0, .int .i64 0, .int .i64 0, .bool false, .int .i64 0, .int .i64 0, .int .i64 0, .string ⟨#[]⟩]
def zA : Av := ⟨false, false, zeroV, 0, 0, false, zeroL⟩
theorem cells22 {w : World} {g : Nat} {t : TypeId} {y : Av} (h : Cel w g t y.cs) : (w.cell? ⟨g, 0, none⟩ = some (.bool y.send) ∧ w.cell? ⟨g, 1, none⟩ = some (.bool y.keep) ∧ w.cell? ⟨g, 2, none⟩ = some (.int .i64 y.x.op) ∧ w.cell? ⟨g, 3, none⟩ = some (.int .i64 y.x.htype) ∧ w.cell? ⟨g, 4, none⟩ = some (.int .i64 y.x.hlen) ∧ w.cell? ⟨g, 5, none⟩ = some (.int .i64 y.x.hops) ∧ w.cell? ⟨g, 6, none⟩ = some (.int .i64 y.x.xid) ∧ w.cell? ⟨g, 7, none⟩ = some (.int .i64 y.x.secs) ∧ w.cell? ⟨g, 8, none⟩ = some (.int .i64 y.x.flags) ∧ w.cell? ⟨g, 9, none⟩ = some (.int .i64 y.x.ci) ∧ w.cell? ⟨g, 10, none⟩ = some (.int .i64 y.x.yi) ∧ w.cell? ⟨g, 11, none⟩ = some (.int .i64 y.x.si) ∧ w.cell? ⟨g, 12, none⟩ = some (.int .i64 y.x.gi) ∧ w.cell? ⟨g, 13, none⟩ = some (.slice y.x.A y.x.n y.x.c) ∧ w.cell? ⟨g, 14, none⟩ = some (.slice y.x.B y.x.m y.x.d) ∧ w.cell? ⟨g, 15, none⟩ = some (.int .i64 y.ta) ∧ w.cell? ⟨g, 16, none⟩ = some (.int .i64 y.tp) ∧ w.cell? ⟨g, 17, none⟩ = some (.bool y.tr) ∧ w.cell? ⟨g, 18, none⟩ = some (.int .i64 y.l.addr) ∧ w.cell? ⟨g, 19, none⟩ = some (.int .i64 y.l.state) ∧ w.cell? ⟨g, 20, none⟩ = some (.int .i64 y.l.till) ∧ w.cell? ⟨g, 21, none⟩ = some (.string (ba y.l.key))) ∧ ∀ i, w.frozen? ⟨g, i, none⟩ = false :=
  ⟨⟨by rw [h.cell]; rfl, by rw [h.cell]; rfl, by rw [h.cell]; rfl, by rw [h.cell]; rfl, by rw [h.cell]; rfl, by rw [h.cell]; rfl, by rw [h.cell]; rfl, by rw [h.cell]; rfl, by rw [h.cell]; rfl, by rw [h.cell]; rfl, by rw [h.cell]; rfl, by rw [h.cell]; rfl, by rw [h.cell]; rfl, by rw [h.cell]; rfl, by rw [h.cell]; rfl, by rw [h.cell]; rfl, by rw [h.cell]; rfl, by rw [h.cell]; rfl, by rw [h.cell]; rfl, by rw [h.cell]; rfl, by rw [h.cell]; rfl, by rw [h.cell]; rfl⟩, fun i => Rpw.frz h i⟩
/-! ### A block that is stored to whole -/
theorem rowC {w : World} {g : Nat} {t : TypeId} {old : Array Value} (h : Cel w g t old) (cs : Array Value) : Cel (w.setRow g cs) g t cs := setRow_heap w g old cs t _ h
theorem rowFar {w : World} {g g' : Nat} {t : TypeId} {cs : Array Value} (h : Cel w g t cs) (hne : g ≠ g') (c : Array Value) : Cel (w.setRow g' c) g t cs := by
  unfold Cel at h ⊢
  rw [setRow_other w g' g c hne]
  exact h
theorem rowB {B : Nat} {v w : World} (h : Below B v w) {g : Nat} (hg : B ≤ g) (cs : Array Value) : Below B v (w.setRow g cs) := below_setRow h hg cs
theorem rowG (w : World) (g : Nat) (cs : Array Value) : w.grownBy (w.setRow g cs) (some g) := ⟨rfl, rfl, rfl, by simp, fun k _ hne => setRow_other w g k cs (fun e => hne (by rw [e]))⟩
end Go.Proofs.YtoldppbakapohaaGreatDoor.Ey
