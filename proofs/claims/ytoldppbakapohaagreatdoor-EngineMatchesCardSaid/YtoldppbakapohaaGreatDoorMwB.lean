/- Closed facts on the model's entries for internal/reflectlite, at this program's types, for errors.As at a target of type *msg.below and errors.Is at a sentinel. No conditions but those that each theorem names. -/
import Derived.Test.YtoldppbakapohaaGreatDoorKitA
import Derived.WalkKit
import Derived.LaidEql
import Derived.Stop.Asserts
import Derived.RowKitTokens
section
namespace Go.Proofs.YtoldppbakapohaaGreatDoor.Mw
open Go.RowKit Go.Extern.Stop Go.Stop Go.Extern

/-- An error as msg makes it: a number of a layer below, a sentinel, or one that says in which part another error occurred. -/
inductive Er where
  | bel (n : Int)
  | sen (a : Addr)
  | flt (p : ByteArray) (c : Er)
def Er.v : Er → Value
  | .bel n => .iface 248 (.agg #[.int .i64 n])
  | .sen a => .iface 294 (.pointer (some a))
  | .flt p c => .iface 243 (.agg #[.string p, c.v])
def Er.deep : Er → Nat
  | .flt _ c => c.deep + 1
  | _ => 0
/-- The error at the end of the chain. -/
def Er.last : Er → Er
  | .flt _ c => c.last
  | e => e

theorem valueOfP (t : Addr) (w : World) : (ReflectliteValue.unpack (.iface 250 (.pointer (some t)))).run Tryz.prog w
    = .ok (.agg #[.pointer (some ⟨5, 250, none⟩), .pointer (some ⟨w.heap.size, 0, none⟩), .int .u64 150]) (w.alloc (.cells #[.pointer (some t)] 250)) := by kernel_rfl
theorem typeP (a : Addr) (w : World) : (ReflectliteValue.methodAny (ReflectliteValue.valueError "reflectlite.Value.Type" 0) (fun t _ _ _ => ReflectliteType.toType t) #[.agg #[.pointer (some ⟨5, 250, none⟩), .pointer (some a), .int .u64 150]]).run Tryz.prog w
    = .ok (.iface 276 (.agg #[.pointer (some ⟨5, 250, none⟩)])) w := by kernel_rfl
theorem valueOfB (n : Int) (w : World) : (ReflectliteValue.unpack (.iface 248 (.agg #[.int .i64 n]))).run Tryz.prog w
    = .ok (.agg #[.pointer (some ⟨5, 248, none⟩), .pointer (some ⟨w.heap.size, 0, none⟩), .int .u64 153]) (w.alloc (.cells #[.int .i64 n] 248)) := by kernel_rfl
theorem kindP (w : World) : ((ReflectliteType.abiMethod fun t => (fun a : Nat => Value.int IntKind.u8 (a : Int)) <$> Rtype.kind t) #[.pointer (some ⟨5, 250, none⟩)]).run Tryz.prog w = .ok (.int .u8 22) w := by kernel_rfl
theorem kindB (w : World) : ((ReflectliteType.abiMethod fun t => (fun a : Nat => Value.int IntKind.u8 (a : Int)) <$> Rtype.kind t) #[.pointer (some ⟨5, 248, none⟩)]).run Tryz.prog w = .ok (.int .u8 25) w := by kernel_rfl
theorem mkB (p : Addr) (w : World) : (ReflectliteValue.mk 248 p ReflectliteValue.flagAddr).run Tryz.prog w = .ok (.agg #[.pointer (some ⟨5, 248, none⟩), .pointer (some p), .int .u64 409]) w := by kernel_rfl
theorem methodKind (h : Value) (w : World) : (Go.method 427 276 (.agg #[h]) "Kind").run Tryz.prog w = .ok (278, h) w := by kernel_rfl
theorem methodElem (h : Value) (w : World) : (Go.method 427 276 (.agg #[h]) "Elem").run Tryz.prog w = .ok (290, .agg #[h]) w := by kernel_rfl
theorem methodImplements (h : Value) (w : World) : (Go.method 427 276 (.agg #[h]) "Implements").run Tryz.prog w = .ok (291, .agg #[h]) w := by kernel_rfl
theorem methodAssignableTo (h : Value) (w : World) : (Go.method 427 276 (.agg #[h]) "AssignableTo").run Tryz.prog w = .ok (288, .agg #[h]) w := by kernel_rfl
theorem methodComparable (v : Value) (w : World) : (Go.method 427 276 v "Comparable").run Tryz.prog w = .ok (289, v) w := by kernel_rfl
theorem methodUnwrap (v : Value) (w : World) : (Go.method 427 243 v "Unwrap").run Tryz.prog w = .ok (282, v) w := by kernel_rfl
theorem elemT (w : World) : (ReflectliteType.method ReflectliteType.elem #[.agg #[.pointer (some ⟨5, 250, none⟩)]]).run Tryz.prog w = .ok (.iface 276 (.agg #[.pointer (some ⟨5, 248, none⟩)])) w := by kernel_rfl
theorem implementsB (w : World) : (ReflectliteType.relation "Implements" ReflectliteType.implements_ #[.agg #[.pointer (some ⟨5, 248, none⟩)], .iface 276 (.agg #[.pointer (some ⟨5, 233, none⟩)])]).run Tryz.prog w = .ok (.bool true) w := by kernel_rfl
theorem typeOfB (v : Value) (w : World) : (ReflectliteType.typeOf #[.iface 248 v]).run Tryz.prog w = .ok (.iface 276 (.agg #[.pointer (some ⟨5, 248, none⟩)])) w := by kernel_rfl
theorem typeOfS (v : Value) (w : World) : (ReflectliteType.typeOf #[.iface 294 v]).run Tryz.prog w = .ok (.iface 276 (.agg #[.pointer (some ⟨5, 294, none⟩)])) w := by kernel_rfl
theorem typeOfF (v : Value) (w : World) : (ReflectliteType.typeOf #[.iface 243 v]).run Tryz.prog w = .ok (.iface 276 (.agg #[.pointer (some ⟨5, 243, none⟩)])) w := by kernel_rfl
theorem assignB (w : World) : (ReflectliteType.relation "AssignableTo" ReflectliteType.assignableTo #[.agg #[.pointer (some ⟨5, 248, none⟩)], .iface 276 (.agg #[.pointer (some ⟨5, 248, none⟩)])]).run Tryz.prog w = .ok (.bool true) w := by kernel_rfl
theorem assignS (w : World) : (ReflectliteType.relation "AssignableTo" ReflectliteType.assignableTo #[.agg #[.pointer (some ⟨5, 294, none⟩)], .iface 276 (.agg #[.pointer (some ⟨5, 248, none⟩)])]).run Tryz.prog w = .ok (.bool false) w := by kernel_rfl
theorem assignF (w : World) : (ReflectliteType.relation "AssignableTo" ReflectliteType.assignableTo #[.agg #[.pointer (some ⟨5, 243, none⟩)], .iface 276 (.agg #[.pointer (some ⟨5, 248, none⟩)])]).run Tryz.prog w = .ok (.bool false) w := by kernel_rfl
def comparableF : Array Value → Sem Value := ReflectliteType.method fun t => do Rtype.noPackHeld "Comparable" t; pure (.bool (← typeInfo t).comparable)
theorem comparableS (w : World) : (comparableF #[.agg #[.pointer (some ⟨5, 294, none⟩)]]).run Tryz.prog w = .ok (.bool true) w := by kernel_rfl
theorem compS : (Tryz.prog.info? 294).map (·.comparable) = some true := by kernel_rfl
theorem sizeS : (Tryz.prog.info? 315).map (·.size) = some 1 := by kernel_rfl

theorem noAsS (v : Value) (xT : TypeId) (w : World) : (Instr.typeAssert (.iface 294 v) xT 280 true).run Tryz.prog w = .ok (.tuple #[.nilIface, .bool false]) w := run_typeAssert_lacksB Tryz.underlying280 (by kernel_rfl) (by kernel_rfl) v xT w
theorem noAsF (v : Value) (xT : TypeId) (w : World) : (Instr.typeAssert (.iface 243 v) xT 280 true).run Tryz.prog w = .ok (.tuple #[.nilIface, .bool false]) w := run_typeAssert_lacksB Tryz.underlying280 (by kernel_rfl) (by kernel_rfl) v xT w
theorem noIsS (v : Value) (xT : TypeId) (w : World) : (Instr.typeAssert (.iface 294 v) xT 288 true).run Tryz.prog w = .ok (.tuple #[.nilIface, .bool false]) w := run_typeAssert_lacksB Tryz.underlying288 (by kernel_rfl) (by kernel_rfl) v xT w
theorem noIsF (v : Value) (xT : TypeId) (w : World) : (Instr.typeAssert (.iface 243 v) xT 288 true).run Tryz.prog w = .ok (.tuple #[.nilIface, .bool false]) w := run_typeAssert_lacksB Tryz.underlying288 (by kernel_rfl) (by kernel_rfl) v xT w
theorem noUnwrapS (v : Value) (xT : TypeId) (w : World) : (Instr.typeAssert (.iface 294 v) xT 283 true).run Tryz.prog w = .ok (.tuple #[.nilIface, .bool false]) w := run_typeAssert_lacksB Tryz.underlying283 (by kernel_rfl) (by kernel_rfl) v xT w
theorem noUnwrapsS (v : Value) (xT : TypeId) (w : World) : (Instr.typeAssert (.iface 294 v) xT 285 true).run Tryz.prog w = .ok (.tuple #[.nilIface, .bool false]) w := run_typeAssert_lacksB Tryz.underlying285 (by kernel_rfl) (by kernel_rfl) v xT w
theorem hasUnwrapF (v : Value) (xT : TypeId) (w : World) : (Instr.typeAssert (.iface 243 v) xT 283 true).run Tryz.prog w = .ok (.tuple #[.iface 243 v, .bool true]) w := run_typeAssert_hasB Tryz.underlying283 (by kernel_rfl) v xT w

/-! ### The entries that read or write memory -/
theorem rlm (z : Sem Value) (f : TypeId → Addr → Nat → Nat → Sem Value) (v : Value) :
    ReflectliteValue.method z f #[v] = (do match ← ReflectliteValue.parts v with | none => z | some (t, a, fl) => f t a fl (fl % 32)) := rfl
theorem partsP (a : Addr) (w : World) : (ReflectliteValue.parts (.agg #[.pointer (some ⟨5, 250, none⟩), .pointer (some a), .int .u64 150])).run Tryz.prog w = .ok (some (250, a, 150)) w := by kernel_rfl
theorem isNilP (a p : Addr) (W : World) (ha : W.cell? a = some (.pointer (some p))) :
    (ReflectliteValue.method (ReflectliteValue.valueError "reflectlite.Value.IsNil" 0) ReflectliteValue.isNil #[.agg #[.pointer (some ⟨5, 250, none⟩), .pointer (some a), .int .u64 150]]).run Tryz.prog W = .ok (.bool false) W := by
  rw [rlm]
  simp only [Sem.run_bind, partsP, Result.andThen]
  simp [ReflectliteValue.isNil, loadVar, isAgg, underlying, Tryz.underlying250, ha, Result.andThen]
theorem elemOfP (w : World) : (Rtype.elem? 250).run Tryz.prog w = .ok (some 248) w := by kernel_rfl
theorem elemV (a p : Addr) (W : World) (ha : W.cell? a = some (.pointer (some p))) :
    (ReflectliteValue.method (ReflectliteValue.valueError "reflectlite.Value.Elem" 0) ReflectliteValue.elem #[.agg #[.pointer (some ⟨5, 250, none⟩), .pointer (some a), .int .u64 150]]).run Tryz.prog W
      = .ok (.agg #[.pointer (some ⟨5, 248, none⟩), .pointer (some p), .int .u64 409]) W := by
  rw [rlm]
  simp only [Sem.run_bind, partsP, Result.andThen]
  simp [ReflectliteValue.elem, loadVar, isAgg, underlying, Tryz.underlying250, ha, Result.andThen, elemOfP, mkB]
theorem rls (v x : Value) : ReflectliteValue.set #[v, x] = (do
    let (some (dst, a, fl), some (src, b, _)) := (← ReflectliteValue.parts v, ← ReflectliteValue.parts x)
      | unsupported (.noEntry "extern/(internal/reflectlite.Value).Set.zeroValue")
    if fl / ReflectliteValue.flagAddr % 2 == 0 then unsupported (.noEntry "extern/(internal/reflectlite.Value).Set.unaddressable")
    let val ← loadVar src b
    if ← Rtype.directlyAssignable dst src then storeVar dst a val
    else if ← Rtype.implements dst src then
      if (← Rtype.kind src) == 20 then
        match val with
        | .nilIface => unsupported (.noEntry "extern/reflectlite: a nil value of one interface type handed on as a value of another")
        | _ => storeVar dst a val
      else storeVar dst a (.iface src val)
    else panicString ("reflectlite.Set: value of type " ++ (← Rtype.spelt src) ++ " is not assignable to type " ++ (← Rtype.spelt dst))
    pure (.tuple #[])) := rfl
theorem partsBa (a : Addr) (w : World) : (ReflectliteValue.parts (.agg #[.pointer (some ⟨5, 248, none⟩), .pointer (some a), .int .u64 409])).run Tryz.prog w = .ok (some (248, a, 409)) w := by kernel_rfl
theorem partsB (a : Addr) (w : World) : (ReflectliteValue.parts (.agg #[.pointer (some ⟨5, 248, none⟩), .pointer (some a), .int .u64 153])).run Tryz.prog w = .ok (some (248, a, 153)) w := by kernel_rfl
theorem directB (w : World) : (Rtype.directlyAssignable 248 248).run Tryz.prog w = .ok true w := by kernel_rfl
theorem loadB (bb : Nat) (n : Int) (W : World) (hb : W.cell? ⟨bb, 0, none⟩ = some (.int .i64 n)) : (loadVar 248 ⟨bb, 0, none⟩).run Tryz.prog W = .ok (.agg #[.int .i64 n]) W := by
  simp [loadVar, isAgg, underlying, Tryz.underlying248, loadCells, loadCellsFrom, Addr.add, hb, Result.andThen]
theorem storeB (tb : Nat) (n : Int) (old : Value) (W : World) (ht : W.cell? ⟨tb, 0, none⟩ = some old) (hf : W.frozen? ⟨tb, 0, none⟩ = false) : (storeVar 248 ⟨tb, 0, none⟩ (.agg #[.int .i64 n])).run Tryz.prog W = .ok () (W.setCell ⟨tb, 0, none⟩ (.int .i64 n)) := by
  simp [storeVar, Value.cells, storeCells, Addr.add, Result.andThen]
  rw [run_store Tryz.prog W ⟨tb, 0, none⟩ _ _ (by rfl)]
  simp [ht, hf]
/-- (Value).Set: the variable at 'ta' gets what the Value's own variable 'b' holds. -/
theorem setB (tb bb : Nat) (n : Int) (old : Value) (W : World) (hb : W.cell? ⟨bb, 0, none⟩ = some (.int .i64 n)) (ht : W.cell? ⟨tb, 0, none⟩ = some old) (hf : W.frozen? ⟨tb, 0, none⟩ = false) :
    (ReflectliteValue.set #[.agg #[.pointer (some ⟨5, 248, none⟩), .pointer (some ⟨tb, 0, none⟩), .int .u64 409], .agg #[.pointer (some ⟨5, 248, none⟩), .pointer (some ⟨bb, 0, none⟩), .int .u64 153]]).run Tryz.prog W
      = .ok (.tuple #[]) (W.setCell ⟨tb, 0, none⟩ (.int .i64 n)) := by
  rw [rls]
  simp only [Sem.run_bind, partsBa, partsB, Result.andThen]
  simp [ReflectliteValue.flagAddr, loadB bb n W hb, Result.andThen, directB, storeB tb n old W ht hf]
end Go.Proofs.YtoldppbakapohaaGreatDoor.Mw
end
/- errors.As at a target of type *msg.below, and errors.Is at a sentinel, over the errors that msg makes. Conditions: what each theorem names of the world (where the package-level variables lie). -/
section
set_option maxRecDepth 8000
namespace Go.Proofs.YtoldppbakapohaaGreatDoor.Mw
open Go.RowKit Go.Extern.Stop Go.Stop Go.Extern By

theorem unwrap_any (p : ByteArray) (c : Value) (w : World) : Calls Tryz.prog 282 #[.agg #[.string p, c]] w fun e w' => e = .returned c ∧ Below w.heap.size w w' := by
  go_enter Tryz.func282, Tryz.ntmps282
  go_wp2
  go_ret
  exact ⟨rfl, (Below.refl _ _).alloc (Nat.le_refl _) _⟩

theorem Er.form (d : Er) : ∃ u x, Hid (d.v = .iface u x) := by
  cases d <;> exact ⟨_, _, rfl⟩
set_option maxHeartbeats 4000000 in
theorem as_sen (C : Er) (s : Addr) (hC : C.last = .sen s) (t a : Addr) (w : World) :
    Calls Tryz.prog 252 #[C.v, .iface 250 (.pointer (some t)), .agg #[.pointer (some ⟨5, 250, none⟩), .pointer (some a), .int .u64 150], .iface 276 (.agg #[.pointer (some ⟨5, 248, none⟩)])] w
      fun e w' => e = .returned (.bool false) ∧ Below w.heap.size w w' := by
  have h10 := @run_callFunc_extern Tryz.prog 253 _ ReflectliteType.typeOf Tryz.func253 (by kernel_rfl) (by kernel_rfl) (by kernel_rfl) (by kernel_rfl)
  have h35 := @run_callFunc_extern Tryz.prog 288 _ (ReflectliteType.relation "AssignableTo" ReflectliteType.assignableTo) Tryz.func288 (by kernel_rfl) (by kernel_rfl) (by kernel_rfl) (by kernel_rfl)
  have tS := typeOfS
  have tF := typeOfF
  have mA := methodAssignableTo
  have aS := assignS
  have aF := assignF
  have nS := noAsS
  have nF := noAsF
  have uS := noUnwrapS
  have vS := noUnwrapsS
  have uF := hasUnwrapF
  have mU := methodUnwrap
  have HC := Lib.hid hC
  clear hC
  go_enter Tryz.func252, Tryz.ntmps252
  go_wp2
  go_loopw [0] (fun v wr => ∃ c : Er, v = c.v ∧ c.last = .sen s ∧ Below w.heap.size w wr) (fun v _ => SizeOf.sizeOf v)
  case atStart => exact ⟨C, rfl, HC.out, (Below.refl _ _).alloc (Nat.le_refl _) _⟩
  case round =>
    obtain ⟨c, rfl, hc, hb⟩ := hrel
    match c, hc with
    | .sen b, _ =>
      simp only [Er.v]
      go_wp2
      go_ret
      exact ⟨rfl, hb⟩
    | .flt p d, hd =>
      have HD := Lib.hid hd
      clear hd
      simp only [Er.v]
      have hmeas : Hid (SizeOf.sizeOf d.v < SizeOf.sizeOf (Value.iface 243 (.agg #[.string p, d.v]))) := by show _ < _; simp; omega
      obtain ⟨u, x, hx⟩ := d.form
      rw [hx.out] at hmeas ⊢
      go_wp2_with (go_at_call 282; refine (unwrap_any p (.iface u x) _).mono ?_; rintro e w1 ⟨rfl, hb1⟩)
      go_roundw
      case rel => exact ⟨d, hx.out.symm, HD.out, hb.trans (hb1.mono hb.size)⟩
      case measure => exact hmeas.out
end Go.Proofs.YtoldppbakapohaaGreatDoor.Mw
end
/- errors.As that finds its target, and errors.Is, over the errors that msg makes; msg.numberOf. Conditions: what each theorem names of the world (where the package-level variables lie). -/
section
set_option maxRecDepth 8000
namespace Go.Proofs.YtoldppbakapohaaGreatDoor.Mw
open Go.RowKit Go.Extern.Stop Go.Stop Go.Extern By

set_option maxHeartbeats 4000000 in
theorem as_bel (C : Er) (n : Int) (hC : C.last = .bel n) (B tb : Nat) (a : Addr) (old : Value) (w : World) (hB : B ≤ w.heap.size) (hBt : B ≤ tb) (ha : w.cell? a = some (.pointer (some ⟨tb, 0, none⟩))) (ht : w.cell? ⟨tb, 0, none⟩ = some old) (hf : w.frozen? ⟨tb, 0, none⟩ = false) :
    Calls Tryz.prog 252 #[C.v, .iface 250 (.pointer (some ⟨tb, 0, none⟩)), .agg #[.pointer (some ⟨5, 250, none⟩), .pointer (some a), .int .u64 150], .iface 276 (.agg #[.pointer (some ⟨5, 248, none⟩)])] w
      fun e w' => e = .returned (.bool true) ∧ w'.cell? ⟨tb, 0, none⟩ = some (.int .i64 n) ∧ Below B w w' := by
  have h59 := @run_callFunc_extern Tryz.prog 249 _ (fun args => ReflectliteValue.unpack (args.getD 0 (.tuple #[]))) Tryz.func249 (by kernel_rfl) (by kernel_rfl) (by kernel_rfl) (by kernel_rfl)
  have h10 := @run_callFunc_extern Tryz.prog 253 _ ReflectliteType.typeOf Tryz.func253 (by kernel_rfl) (by kernel_rfl) (by kernel_rfl) (by kernel_rfl)
  have h35 := @run_callFunc_extern Tryz.prog 288 _ (ReflectliteType.relation "AssignableTo" ReflectliteType.assignableTo) Tryz.func288 (by kernel_rfl) (by kernel_rfl) (by kernel_rfl) (by kernel_rfl)
  have h71 := @run_callFunc_extern Tryz.prog 259 _ (ReflectliteValue.method (ReflectliteValue.valueError "reflectlite.Value.Elem" 0) ReflectliteValue.elem) Tryz.func259 (by kernel_rfl) (by kernel_rfl) (by kernel_rfl) (by kernel_rfl)
  have h72 := @run_callFunc_extern Tryz.prog 260 _ ReflectliteValue.set Tryz.func260 (by kernel_rfl) (by kernel_rfl) (by kernel_rfl) (by kernel_rfl)
  have tB := typeOfB
  have tF := typeOfF
  have mA := methodAssignableTo
  have aB := assignB
  have aF := assignF
  have nF := noAsF
  have uF := hasUnwrapF
  have mU := methodUnwrap
  have vB := valueOfB
  have HC := Lib.hid hC
  have HA := Lib.hid ha
  have HT := Lib.hid ht
  have HF := Lib.hid hf
  clear hC ha ht hf
  have hal : a.block < w.heap.size := World.block_lt_of_cell? w _ HA.out
  have htl : tb < w.heap.size := World.block_lt_of_cell? w _ HT.out
  go_enter Tryz.func252, Tryz.ntmps252
  go_wp2
  have hb0 : Below w.heap.size w (w.alloc (.cells #[.pointer (some ⟨5, 250, none⟩), .pointer (some a), .int .u64 150] 260)) := (Below.refl _ _).alloc (Nat.le_refl _) _
  have hcel := Cel.born w 260 #[.pointer (some ⟨5, 250, none⟩), .pointer (some a), .int .u64 150]
  have hsz0 : (w.alloc (.cells #[.pointer (some ⟨5, 250, none⟩), .pointer (some a), .int .u64 150] 260)).heap.size = w.heap.size + 1 := by simp
  generalize w.alloc (.cells #[.pointer (some ⟨5, 250, none⟩), .pointer (some a), .int .u64 150] 260) = w1 at *
  go_loopw [0] (fun v wr => ∃ c : Er, v = c.v ∧ c.last = .bel n ∧ Below w1.heap.size w1 wr) (fun v _ => SizeOf.sizeOf v)
  case atStart => exact ⟨C, rfl, HC.out, Below.refl _ _⟩
  case round =>
    obtain ⟨c, rfl, hc, hb⟩ := hrel
    have hcel1 := hcel.below hb (by omega)
    have hc0 : wr.cell? ⟨w.heap.size, 0, none⟩ = some (.pointer (some ⟨5, 250, none⟩)) := by rw [hcel1.cell]; rfl
    have hc1 : wr.cell? ⟨w.heap.size, 1, none⟩ = some (.pointer (some a)) := by rw [hcel1.cell]; rfl
    have hc2 : wr.cell? ⟨w.heap.size, 2, none⟩ = some (.int .u64 150) := by rw [hcel1.cell]; rfl
    clear hcel1
    match c, hc with
    | .bel m, hm =>
      obtain rfl : m = n := by simpa [Er.last] using hm
      have hsz := hb.size
      have el := elemV a ⟨tb, 0, none⟩ wr (((hb.cell (by omega)).trans (hb0.cell hal)).trans HA.out)
      have st := setB tb wr.heap.size m old (wr.alloc (.cells #[.int .i64 m] 248)) (by simp) (by rw [World.cell?_alloc_lt _ _ _ (by show tb < _; omega)]; exact ((hb.cell (p := ⟨tb, 0, none⟩) (by show tb < _; omega)).trans (hb0.cell (p := ⟨tb, 0, none⟩) htl)).trans HT.out)
        (by rw [World.frozen?_alloc_past _ _ _ (by omega)]; exact ((hb.frozen (p := ⟨tb, 0, none⟩) (by show tb < _; omega)).trans (hb0.frozen (p := ⟨tb, 0, none⟩) htl)).trans HF.out)
      have hcl : ((wr.alloc (.cells #[.int .i64 m] 248)).cell? ⟨tb, 0, none⟩) = some old := by rw [World.cell?_alloc_lt _ _ _ (by show tb < _; omega)]; exact ((hb.cell (p := ⟨tb, 0, none⟩) (by show tb < _; omega)).trans (hb0.cell (p := ⟨tb, 0, none⟩) htl)).trans HT.out
      have HCL := Lib.hid hcl
      clear hcl
      simp only [Er.v]
      go_wp2
      go_ret
      exact ⟨rfl, World.cell?_setCell_same _ _ _ HCL.out, (((hb0.mono hB).trans (hb.mono (by omega))).alloc (by omega) _).setCell hBt _⟩
    | .flt p d, hd =>
      have HD := Lib.hid hd
      clear hd
      simp only [Er.v]
      have hmeas : Hid (SizeOf.sizeOf d.v < SizeOf.sizeOf (Value.iface 243 (.agg #[.string p, d.v]))) := by show _ < _; simp; omega
      obtain ⟨u, x, hx⟩ := d.form
      rw [hx.out] at hmeas ⊢
      go_wp2_with (go_at_call 282; refine (unwrap_any p (.iface u x) _).mono ?_; rintro e w2 ⟨rfl, hb2⟩)
      go_roundw
      case rel => exact ⟨d, hx.out.symm, HD.out, hb.trans (hb2.mono hb.size)⟩
      case measure => exact hmeas.out

set_option maxHeartbeats 4000000 in
theorem is_any (C : Er) (s b : Addr) (hC : C.last = .sen s) (w : World) (hs : ∃ cs t, w.heap[s.block]? = some (.cells cs t (0, 0))) (hb : ∃ cs t, w.heap[b.block]? = some (.cells cs t (0, 0))) :
    Calls Tryz.prog 254 #[C.v, .iface 294 (.pointer (some b)), .bool true] w fun e w' => e = .returned (.bool (decide (s = b))) ∧ Below w.heap.size w w' := by
  obtain ⟨i, hi, hcmp⟩ := Option.map_eq_some_iff.1 compS
  obtain ⟨j, hj, hjs⟩ := Option.map_eq_some_iff.1 sizeS
  have nS := noIsS
  have nF := noIsF
  have uS := noUnwrapS
  have vS := noUnwrapsS
  have uF := hasUnwrapF
  have mU := methodUnwrap
  have HC := Lib.hid hC
  have HS := Lib.hid hs
  have HB := Lib.hid hb
  have HI := Lib.hid hi
  have HJ := Lib.hid hj
  clear hC hs hb hi hj
  go_enter Tryz.func254, Tryz.ntmps254
  go_wp2
  go_loopw [0] (fun v wr => ∃ c : Er, v = c.v ∧ c.last = .sen s ∧ Below w.heap.size w wr) (fun v _ => SizeOf.sizeOf v)
  case atStart => exact ⟨C, rfl, HC.out, Below.refl _ _⟩
  case round =>
    obtain ⟨c, rfl, hc, hb⟩ := hrel
    match c, hc with
    | .sen a, ha =>
      obtain rfl : a = s := by simpa [Er.last] using ha
      simp only [Er.v]
      by_cases he : a = b
      · subst he
        have heq := run_eql_iface_ptr_same (P := Tryz.prog) wr a Tryz.underlying233 Tryz.underlying294 HI.out hcmp HJ.out
        go_wp2
        go_ret
        exact ⟨ret_bool (by simp), hb⟩
      · have heq : (binOp .eql 233 (.iface 294 (.pointer (some a))) (.iface 294 (.pointer (some b)))).run Tryz.prog wr = .ok (.bool false) wr := by
          obtain ⟨ca, ta, h1⟩ := HS.out
          obtain ⟨cb, tb, h2⟩ := HB.out
          have l1 : a.block < w.heap.size := by
            rcases Nat.lt_or_ge a.block w.heap.size with k | k
            · exact k
            · rw [Array.getElem?_eq_none k] at h1; cases h1
          have l2 : b.block < w.heap.size := by
            rcases Nat.lt_or_ge b.block w.heap.size with k | k
            · exact k
            · rw [Array.getElem?_eq_none k] at h2; cases h2
          exact run_eql_iface_ptr_other (P := Tryz.prog) wr Tryz.underlying233 Tryz.underlying294 HI.out hcmp HJ.out (by rw [hjs]; decide) he ((hb.block _ l1).trans h1) ((hb.block _ l2).trans h2)
        have HE := Lib.hid he
        clear he
        go_wp2
        go_ret
        exact ⟨ret_bool (decide_eq_false HE.out).symm, hb⟩
    | .flt p d, hd =>
      have HD := Lib.hid hd
      clear hd
      simp only [Er.v]
      have hmeas : Hid (SizeOf.sizeOf d.v < SizeOf.sizeOf (Value.iface 243 (.agg #[.string p, d.v]))) := by show _ < _; simp; omega
      have hty := fun W => run_eql_iface_types (P := Tryz.prog) 243 294 (.agg #[.string p, d.v]) (.pointer (some b)) Tryz.underlying233 (by decide) W
      obtain ⟨u, x, hx⟩ := d.form
      rw [hx.out] at hmeas hty ⊢
      go_wp2_with (go_at_call 282; refine (unwrap_any p (.iface u x) _).mono ?_; rintro e w2 ⟨rfl, hb2⟩)
      go_roundw
      case rel => exact ⟨d, hx.out.symm, HD.out, hb.trans (hb2.mono hb.size)⟩
      case measure => exact hmeas.out
end Go.Proofs.YtoldppbakapohaaGreatDoor.Mw
end
/- What the walks of msg want of the world (where its package-level variables lie and what they hold); errors.As, errors.Is; msg.numberOf, over the errors that msg makes. -/
section
set_option maxRecDepth 8000
namespace Go.Proofs.YtoldppbakapohaaGreatDoor.Mw
open Go.RowKit Go.Extern.Stop Go.Stop Go.Extern By

def widL : List Nat := [1, 1, 1, 1, 4, 2, 2, 4, 4, 4, 4]
/-- Where the sentinels' texts lie. -/
structure En where
  I : Addr
  L : Addr
  S : Addr
/-- There is a block there, of cells, none of them frozen. -/
def Lies (w : World) (a : Addr) : Prop := ∃ cs t, w.heap[a.block]? = some (.cells cs t (0, 0))
structure En.ok (E : En) (w : World) : Prop where
  gI : w.cell? ⟨0, 0, none⟩ = some (.iface 294 (.pointer (some E.I)))
  gL : w.cell? ⟨1, 0, none⟩ = some (.iface 294 (.pointer (some E.L)))
  gS : w.cell? ⟨2, 0, none⟩ = some (.iface 294 (.pointer (some E.S)))
  gT : w.cell? ⟨4, 0, none⟩ = some (.iface 276 (.agg #[.pointer (some ⟨5, 233, none⟩)]))
  gW : ∀ i (h : i < widL.length), w.cell? ⟨3, i, none⟩ = some (.int .i64 (widL[i] : Nat))
  lI : Lies w E.I
  lL : Lies w E.L
  lS : Lies w E.S
  ne : E.S ≠ E.I ∧ E.L ≠ E.I ∧ E.L ≠ E.S
theorem Lies.below {w w' : World} {a : Addr} (h : Lies w a) (hb : Below w.heap.size w w') : Lies w' a := by
  obtain ⟨cs, t, h⟩ := h
  have hl : a.block < w.heap.size := by
    rcases Nat.lt_or_ge a.block w.heap.size with k | k
    · exact k
    · rw [Array.getElem?_eq_none k] at h; cases h
  exact ⟨cs, t, (hb.block _ hl).trans h⟩
theorem En.ok.below {E : En} {w w' : World} (h : E.ok w) (hb : Below w.heap.size w w') : E.ok w' :=
  have k : ∀ {p : Addr} {v : Value}, w.cell? p = some v → w'.cell? p = some v := fun hp => (hb.cell (World.block_lt_of_cell? w _ hp)).trans hp
  ⟨k h.gI, k h.gL, k h.gS, k h.gT, fun i hi => k (h.gW i hi), h.lI.below hb, h.lL.below hb, h.lS.below hb, h.ne⟩
theorem En.ok.alloc {E : En} {w : World} (h : E.ok w) (o : Obj) : E.ok (w.alloc o) := h.below ((Below.refl _ _).alloc (Nat.le_refl _) _)

set_option maxHeartbeats 4000000 in
theorem As_sen (C : Er) (s : Addr) (hC : C.last = .sen s) (t : Addr) (w : World) (hg : w.cell? ⟨4, 0, none⟩ = some (.iface 276 (.agg #[.pointer (some ⟨5, 233, none⟩)]))) :
    Calls Tryz.prog 242 #[C.v, .iface 250 (.pointer (some t))] w fun e w' => e = .returned (.bool false) ∧ Below w.heap.size w w' := by
  have h59 := @run_callFunc_extern Tryz.prog 249 _ (fun args => ReflectliteValue.unpack (args.getD 0 (.tuple #[]))) Tryz.func249 (by kernel_rfl) (by kernel_rfl) (by kernel_rfl) (by kernel_rfl)
  have h60 := @run_callFunc_extern Tryz.prog 250 _ (ReflectliteValue.methodAny (ReflectliteValue.valueError "reflectlite.Value.Type" 0) (fun t _ _ _ => ReflectliteType.toType t)) Tryz.func250 (by kernel_rfl) (by kernel_rfl) (by kernel_rfl) (by kernel_rfl)
  have h61 := @run_callFunc_extern Tryz.prog 251 _ (ReflectliteValue.method (ReflectliteValue.valueError "reflectlite.Value.IsNil" 0) ReflectliteValue.isNil) Tryz.func251 (by kernel_rfl) (by kernel_rfl) (by kernel_rfl) (by kernel_rfl)
  have h94 := @run_callFunc_extern Tryz.prog 278 _ (ReflectliteType.abiMethod fun t => do pure (.int .u8 (← Rtype.kind t))) Tryz.func278 (by kernel_rfl) (by kernel_rfl) (by kernel_rfl) (by kernel_rfl)
  have h106 := @run_callFunc_extern Tryz.prog 290 _ (ReflectliteType.method ReflectliteType.elem) Tryz.func290 (by kernel_rfl) (by kernel_rfl) (by kernel_rfl) (by kernel_rfl)
  have h107 := @run_callFunc_extern Tryz.prog 291 _ (ReflectliteType.relation "Implements" ReflectliteType.implements_) Tryz.func291 (by kernel_rfl) (by kernel_rfl) (by kernel_rfl) (by kernel_rfl)
  have vP := valueOfP
  have tP := typeP
  have mK := methodKind
  have mE := methodElem
  have mI := methodImplements
  have kP := kindP
  have kB := kindB
  have eT := elemT
  have iB := implementsB
  have nP := isNilP ⟨w.heap.size, 0, none⟩ t ((w.alloc (.cells #[.pointer (some t)] 250)).alloc (.cells #[.pointer (some ⟨5, 250, none⟩), .pointer (some ⟨w.heap.size, 0, none⟩), .int .u64 150] 260)) (by simp)
  have hlt : 4 < w.heap.size := World.block_lt_of_cell? w _ hg
  have hg2 : ((w.alloc (.cells #[.pointer (some t)] 250)).alloc (.cells #[.pointer (some ⟨5, 250, none⟩), .pointer (some ⟨w.heap.size, 0, none⟩), .int .u64 150] 260)).cell? ⟨4, 0, none⟩ = some (.iface 276 (.agg #[.pointer (some ⟨5, 233, none⟩)])) := by
    rw [World.cell?_alloc_lt _ _ _ (by simp; omega), World.cell?_alloc_lt _ _ _ hlt]; exact hg
  have HC := Lib.hid hC
  clear hC
  obtain ⟨u, x, hx⟩ := C.form
  rw [hx.out]
  go_enter Tryz.func242, Tryz.ntmps242
  go_wp2_with (go_at_call 252; rw [← hx.out]; refine (as_sen C s HC.out t _ _).mono ?_; rintro e w2 ⟨rfl, hb2⟩)
  go_ret
  exact ⟨rfl, (((Below.refl _ _).alloc (Nat.le_refl _) _).alloc (by simp) _).trans (hb2.mono (by simp; omega))⟩

set_option maxHeartbeats 4000000 in
theorem As_bel (C : Er) (n : Int) (hC : C.last = .bel n) (B tb : Nat) (old : Value) (w : World) (hB : B ≤ w.heap.size) (hBt : B ≤ tb) (ht : w.cell? ⟨tb, 0, none⟩ = some old) (hf : w.frozen? ⟨tb, 0, none⟩ = false)
    (hg : w.cell? ⟨4, 0, none⟩ = some (.iface 276 (.agg #[.pointer (some ⟨5, 233, none⟩)]))) :
    Calls Tryz.prog 242 #[C.v, .iface 250 (.pointer (some ⟨tb, 0, none⟩))] w fun e w' => e = .returned (.bool true) ∧ w'.cell? ⟨tb, 0, none⟩ = some (.int .i64 n) ∧ Below B w w' := by
  have h59 := @run_callFunc_extern Tryz.prog 249 _ (fun args => ReflectliteValue.unpack (args.getD 0 (.tuple #[]))) Tryz.func249 (by kernel_rfl) (by kernel_rfl) (by kernel_rfl) (by kernel_rfl)
  have h60 := @run_callFunc_extern Tryz.prog 250 _ (ReflectliteValue.methodAny (ReflectliteValue.valueError "reflectlite.Value.Type" 0) (fun t _ _ _ => ReflectliteType.toType t)) Tryz.func250 (by kernel_rfl) (by kernel_rfl) (by kernel_rfl) (by kernel_rfl)
  have h61 := @run_callFunc_extern Tryz.prog 251 _ (ReflectliteValue.method (ReflectliteValue.valueError "reflectlite.Value.IsNil" 0) ReflectliteValue.isNil) Tryz.func251 (by kernel_rfl) (by kernel_rfl) (by kernel_rfl) (by kernel_rfl)
  have h94 := @run_callFunc_extern Tryz.prog 278 _ (ReflectliteType.abiMethod fun t => do pure (.int .u8 (← Rtype.kind t))) Tryz.func278 (by kernel_rfl) (by kernel_rfl) (by kernel_rfl) (by kernel_rfl)
  have h106 := @run_callFunc_extern Tryz.prog 290 _ (ReflectliteType.method ReflectliteType.elem) Tryz.func290 (by kernel_rfl) (by kernel_rfl) (by kernel_rfl) (by kernel_rfl)
  have h107 := @run_callFunc_extern Tryz.prog 291 _ (ReflectliteType.relation "Implements" ReflectliteType.implements_) Tryz.func291 (by kernel_rfl) (by kernel_rfl) (by kernel_rfl) (by kernel_rfl)
  have vP := valueOfP
  have tP := typeP
  have mK := methodKind
  have mE := methodElem
  have mI := methodImplements
  have kP := kindP
  have kB := kindB
  have eT := elemT
  have iB := implementsB
  have nP := isNilP ⟨w.heap.size, 0, none⟩ ⟨tb, 0, none⟩ ((w.alloc (.cells #[.pointer (some ⟨tb, 0, none⟩)] 250)).alloc (.cells #[.pointer (some ⟨5, 250, none⟩), .pointer (some ⟨w.heap.size, 0, none⟩), .int .u64 150] 260)) (by simp)
  have hlt : 4 < w.heap.size := World.block_lt_of_cell? w _ hg
  have hg2 : ((w.alloc (.cells #[.pointer (some ⟨tb, 0, none⟩)] 250)).alloc (.cells #[.pointer (some ⟨5, 250, none⟩), .pointer (some ⟨w.heap.size, 0, none⟩), .int .u64 150] 260)).cell? ⟨4, 0, none⟩ = some (.iface 276 (.agg #[.pointer (some ⟨5, 233, none⟩)])) := by
    rw [World.cell?_alloc_lt _ _ _ (by simp; omega), World.cell?_alloc_lt _ _ _ hlt]; exact hg
  have htl : tb < w.heap.size := World.block_lt_of_cell? w _ ht
  have ht2 : ((w.alloc (.cells #[.pointer (some ⟨tb, 0, none⟩)] 250)).alloc (.cells #[.pointer (some ⟨5, 250, none⟩), .pointer (some ⟨w.heap.size, 0, none⟩), .int .u64 150] 260)).cell? ⟨tb, 0, none⟩ = some old := by
    rw [World.cell?_alloc_lt _ _ _ (by show tb < _; simp; omega), World.cell?_alloc_lt _ _ _ htl]; exact ht
  have hf2 : ((w.alloc (.cells #[.pointer (some ⟨tb, 0, none⟩)] 250)).alloc (.cells #[.pointer (some ⟨5, 250, none⟩), .pointer (some ⟨w.heap.size, 0, none⟩), .int .u64 150] 260)).frozen? ⟨tb, 0, none⟩ = false := by
    rw [World.frozen?_alloc_past _ _ _ (by simp; omega), World.frozen?_alloc_past _ _ _ htl]; exact hf
  have ha2 : ((w.alloc (.cells #[.pointer (some ⟨tb, 0, none⟩)] 250)).alloc (.cells #[.pointer (some ⟨5, 250, none⟩), .pointer (some ⟨w.heap.size, 0, none⟩), .int .u64 150] 260)).cell? ⟨w.heap.size, 0, none⟩ = some (.pointer (some ⟨tb, 0, none⟩)) := by simp
  have HC := Lib.hid hC
  have HA2 := Lib.hid ha2
  have HT2 := Lib.hid ht2
  have HF2 := Lib.hid hf2
  clear hC ha2 ht2 hf2 ht hf
  obtain ⟨u, x, hx⟩ := C.form
  rw [hx.out]
  go_enter Tryz.func242, Tryz.ntmps242
  go_wp2_with (go_at_call 252; rw [← hx.out]; refine (as_bel C n HC.out B tb _ old _ (by simp; omega) hBt HA2.out HT2.out HF2.out).mono ?_; rintro e w2 ⟨rfl, hc2, hb2⟩)
  go_ret
  exact ⟨rfl, hc2, (((Below.refl _ _).alloc hB _).alloc (by simp; omega) _).trans hb2⟩

set_option maxHeartbeats 4000000 in
theorem Is_any (C : Er) (s b : Addr) (hC : C.last = .sen s) (w : World) (hs : Lies w s) (hb : Lies w b) :
    Calls Tryz.prog 243 #[C.v, .iface 294 (.pointer (some b))] w fun e w' => e = .returned (.bool (decide (s = b))) ∧ Below w.heap.size w w' := by
  have h63 := @run_callFunc_extern Tryz.prog 253 _ ReflectliteType.typeOf Tryz.func253 (by kernel_rfl) (by kernel_rfl) (by kernel_rfl) (by kernel_rfl)
  have h105 := @run_callFunc_extern Tryz.prog 289 _ comparableF Tryz.func289 (by kernel_rfl) (by kernel_rfl) (by kernel_rfl) (by kernel_rfl)
  have tS := typeOfS
  have cS := comparableS
  have mC := methodComparable
  have HC := Lib.hid hC
  have HS := Lib.hid hs
  have HB := Lib.hid hb
  clear hC hs hb
  obtain ⟨u, x, hx⟩ := C.form
  rw [hx.out]
  go_enter Tryz.func243, Tryz.ntmps243
  go_wp2_with (go_at_call 254; rw [← hx.out]; refine (is_any C s b HC.out _ HS.out HB.out).mono ?_; rintro e w2 ⟨rfl, hb2⟩)
  go_ret
  exact ⟨rfl, hb2⟩
end Go.Proofs.YtoldppbakapohaaGreatDoor.Mw
end
/- msg.numberOf: the number of each error that msg makes. Condition: what msg's package-level variables hold (En.ok). -/
section
set_option maxRecDepth 8000
namespace Go.Proofs.YtoldppbakapohaaGreatDoor.Mw
open Go.RowKit By

theorem numberOf_nil (w : World) : Calls Tryz.prog 231 #[.nilIface] w fun e w' => e = .returned (.int .i64 0) ∧ Below w.heap.size w w' := by
  go_enter Tryz.func231, Tryz.ntmps231
  go_wp2
  go_ret
  exact ⟨rfl, (Below.refl _ _).alloc (Nat.le_refl _) _⟩

set_option maxHeartbeats 1000000 in
theorem numberOf_bel (E : En) (C : Er) (n : Int) (w : World) (hE : E.ok w) (hC : C.last = .bel n) : Calls Tryz.prog 231 #[C.v] w fun e w' => e = .returned (.int .i64 n) ∧ Below w.heap.size w w' := by
  have HC := Lib.hid hC
  have HG := Lib.hid (hE.alloc (.cells #[.int .i64 0] 248)).gT
  clear hC hE
  obtain ⟨u, x, hx⟩ := C.form
  rw [hx.out]
  go_enter Tryz.func231, Tryz.ntmps231
  go_wp2_with (go_at_call 242; rw [← hx.out]; refine (As_bel C n HC.out w.heap.size w.heap.size (.int .i64 0) _ (by simp) (Nat.le_refl _) (by simp) (by simp) HG.out).mono ?_; rintro e w2 ⟨rfl, hc2, hb2⟩)
  go_ret
  exact ⟨rfl, ((Below.refl _ _).alloc (Nat.le_refl _) _).trans hb2⟩

theorem numberOf_at (E : En) (C : Er) (s : Addr) (w : World) (hE : E.ok w) (hs : Lies w s) (hC : C.last = .sen s) (n : Int)
    (hn : n = if s = E.I then 1 else if s = E.S then 4 else if s = E.L then 3 else 2) : Calls Tryz.prog 231 #[C.v] w fun e w' => e = .returned (.int .i64 n) ∧ Below w.heap.size w w' := by
  have HC := Lib.hid hC
  have hb0 : Below w.heap.size w (w.alloc (.cells #[.int .i64 0] 248)) := (Below.refl _ _).alloc (Nat.le_refl _) _
  have HN := Lib.hid hn
  have h0 := hE.below hb0
  have HS := Lib.hid (hs.below hb0)
  have HG := Lib.hid h0.gT
  clear hC hn hE hs
  obtain ⟨u, x, hx⟩ := C.form
  rw [hx.out]
  go_enter Tryz.func231, Tryz.ntmps231
  go_wp2_with fail
  rw [← hx.out]
  refine (As_sen C s HC.out _ _ HG.out).mono ?_
  rintro e w1 ⟨rfl, hb1⟩
  rw [hx.out]
  have h1 := h0.below hb1
  have hbw1 := hb0.trans (hb1.mono hb0.size)
  have S1 := Lib.hid (HS.out.below hb1)
  have gI := h1.gI
  go_wp2_with fail
  rw [← hx.out]
  refine (Is_any C s E.I HC.out _ S1.out h1.lI).mono ?_
  rintro e w2 ⟨rfl, hb2⟩
  rw [hx.out]
  by_cases k1 : s = E.I
  · have e1 := decide_eq_true k1
    have HK : Hid (n = 1) := by rw [HN.out, if_pos k1]; rfl
    clear k1
    go_wp2
    go_ret
    exact ⟨ret_int HK.out.symm, hbw1.trans (hb2.mono hbw1.size)⟩
  have e1 := decide_eq_false k1
  have N1 : Hid (n = if s = E.S then 4 else if s = E.L then 3 else 2) := by rw [HN.out, if_neg k1]; rfl
  have h2 := h1.below hb2
  have hbw2 := hbw1.trans (hb2.mono hbw1.size)
  have S2 := Lib.hid (S1.out.below hb2)
  have gS := h2.gS
  clear k1 gI
  go_wp2_with fail
  rw [← hx.out]
  refine (Is_any C s E.S HC.out _ S2.out h2.lS).mono ?_
  rintro e w3 ⟨rfl, hb3⟩
  rw [hx.out]
  by_cases k2 : s = E.S
  · have e2 := decide_eq_true k2
    have HK : Hid (n = 4) := by rw [N1.out, if_pos k2]; rfl
    clear k2 gS
    go_wp2
    go_ret
    exact ⟨ret_int HK.out.symm, hbw2.trans (hb3.mono hbw2.size)⟩
  have e2 := decide_eq_false k2
  have N2 : Hid (n = if s = E.L then 3 else 2) := by rw [N1.out, if_neg k2]; rfl
  have h3 := h2.below hb3
  have hbw3 := hbw2.trans (hb3.mono hbw2.size)
  have S3 := Lib.hid (S2.out.below hb3)
  have gL := h3.gL
  clear k2 gS
  go_wp2_with fail
  rw [← hx.out]
  refine (Is_any C s E.L HC.out _ S3.out h3.lL).mono ?_
  rintro e w4 ⟨rfl, hb4⟩
  rw [hx.out]
  by_cases k3 : s = E.L
  · have e3 := decide_eq_true k3
    have HK : Hid (n = 3) := by rw [N2.out, if_pos k3]; rfl
    clear k3 gL
    go_wp2
    go_ret
    exact ⟨ret_int HK.out.symm, hbw3.trans (hb4.mono hbw3.size)⟩
  · have e3 := decide_eq_false k3
    have HK : Hid (n = 2) := by rw [N2.out, if_neg k3]; rfl
    clear k3 gL
    go_wp2
    go_ret
    exact ⟨ret_int HK.out.symm, hbw3.trans (hb4.mono hbw3.size)⟩
/-- The number of an error that msg makes. -/
def Er.num (E : En) : Er → Int
  | .bel n => n
  | .sen s => if s = E.I then 1 else if s = E.S then 4 else if s = E.L then 3 else 2
  | .flt _ c => c.num E
/-- An error whose end is a number of a layer below or one of the four sentinels. -/
def Er.ok (E : En) : Er → Prop
  | .bel _ => True
  | .sen s => s = E.I ∨ s = E.L ∨ s = E.S
  | .flt _ c => c.ok E
theorem Er.num_last (E : En) (C : Er) : C.num E = C.last.num E := by
  induction C with
  | bel n => rfl
  | sen s => rfl
  | flt p c ih => exact ih
theorem Er.ok_last (E : En) (C : Er) : C.ok E ↔ C.last.ok E := by
  induction C with
  | bel n => exact Iff.rfl
  | sen s => exact Iff.rfl
  | flt p c ih => exact ih
theorem Er.last_cases (C : Er) : (∃ n, C.last = .bel n) ∨ ∃ s, C.last = .sen s := by
  induction C with
  | bel n => exact .inl ⟨n, rfl⟩
  | sen s => exact .inr ⟨s, rfl⟩
  | flt p c ih => exact ih
theorem numberOf_any (E : En) (C : Er) (w : World) (hE : E.ok w) (hC : C.ok E) : Calls Tryz.prog 231 #[C.v] w fun e w' => e = .returned (.int .i64 (C.num E)) ∧ Below w.heap.size w w' := by
  rw [Er.num_last]
  rcases C.last_cases with ⟨n, h⟩ | ⟨s, h⟩
  · have e : C.last.num E = n := by rw [h]; rfl
    rw [e]
    exact numberOf_bel E C n w hE h
  · have e : C.last.num E = if s = E.I then 1 else if s = E.S then 4 else if s = E.L then 3 else 2 := by rw [h]; rfl
    have hk := (Er.ok_last E C).1 hC
    rw [h] at hk
    have hl : Lies w s := by
      rcases hk with k | k | k
      · rw [k]; exact hE.lI
      · rw [k]; exact hE.lL
      · rw [k]; exact hE.lS
    exact numberOf_at E C s w hE hl h _ e
theorem num_I (E : En) : (Er.sen E.I).num E = 1 := by simp [Er.num]
theorem num_L {E : En} {w : World} (h : E.ok w) : (Er.sen E.L).num E = 3 := by simp [Er.num, h.ne.2.1, h.ne.2.2]
end Go.Proofs.YtoldppbakapohaaGreatDoor.Mw
end
