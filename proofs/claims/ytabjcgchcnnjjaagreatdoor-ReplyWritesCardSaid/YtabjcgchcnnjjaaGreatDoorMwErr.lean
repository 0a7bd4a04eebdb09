/- errors.As at a target of type *msg.below, and errors.Is at a sentinel, over the errors that msg makes. Conditions: what each theorem names of the world (where the package-level variables lie). -/
import Derived.Test.YtabjcgchcnnjjaaGreatDoorMwErr0
import Derived.Test.YtabjcgchcnnjjaaGreatDoorKitA
set_option maxRecDepth 8000
namespace Go.Proofs.YtabjcgchcnnjjaaGreatDoor.Mw
open Go.RowKit Go.Extern.Stop Go.Stop Go.Extern By

theorem unwrap_any (p : ByteArray) (c : Value) (w : World) : Calls Tryz.prog 149 #[.agg #[.string p, c]] w fun e w' => e = .returned c ∧ Below w.heap.size w w' := by
  go_enter Tryz.func149, Tryz.ntmps149
  go_wp2
  go_ret
  exact ⟨rfl, (Below.refl _ _).alloc (Nat.le_refl _) _⟩

theorem Er.form (d : Er) : ∃ u x, Hid (d.v = .iface u x) := by
  cases d <;> exact ⟨_, _, rfl⟩
set_option maxHeartbeats 4000000 in
theorem as_sen (C : Er) (s : Addr) (hC : C.last = .sen s) (t a : Addr) (w : World) :
    Calls Tryz.prog 79 #[C.v, .iface 97 (.pointer (some t)), .agg #[.pointer (some ⟨6, 97, none⟩), .pointer (some a), .int .u64 150], .iface 171 (.agg #[.pointer (some ⟨6, 95, none⟩)])] w
      fun e w' => e = .returned (.bool false) ∧ Below w.heap.size w w' := by
  have h10 := @run_callFunc_extern Tryz.prog 80 _ ReflectliteType.typeOf Tryz.func80 (by kernel_rfl) (by kernel_rfl) (by kernel_rfl) (by kernel_rfl)
  have h35 := @run_callFunc_extern Tryz.prog 155 _ (ReflectliteType.relation "AssignableTo" ReflectliteType.assignableTo) Tryz.func155 (by kernel_rfl) (by kernel_rfl) (by kernel_rfl) (by kernel_rfl)
  have tS := typeOfS
  have tF := typeOfF
  have mA := methodAssignableTo
  have aS := assignS
  have aF := assignF
  have nS := noAsS
  have nF := noAsF
  have uS := noUnwrapS
  have vS := noUnwrapsS
  have uF := hasUnwrapF
  have mU := methodUnwrap
  have HC := Lib.hid hC
  clear hC
  go_enter Tryz.func79, Tryz.ntmps79
  go_wp2
  go_loopw [0] (fun v wr => ∃ c : Er, v = c.v ∧ c.last = .sen s ∧ Below w.heap.size w wr) (fun v _ => SizeOf.sizeOf v)
  case atStart => exact ⟨C, rfl, HC.out, (Below.refl _ _).alloc (Nat.le_refl _) _⟩
  case round =>
    obtain ⟨c, rfl, hc, hb⟩ := hrel
    match c, hc with
    | .sen b, _ =>
      simp only [Er.v]
      go_wp2
      go_ret
      exact ⟨rfl, hb⟩
    | .flt p d, hd =>
      have HD := Lib.hid hd
      clear hd
      simp only [Er.v]
      have hmeas : Hid (SizeOf.sizeOf d.v < SizeOf.sizeOf (Value.iface 90 (.agg #[.string p, d.v]))) := by show _ < _; simp; omega
      obtain ⟨u, x, hx⟩ := d.form
      rw [hx.out] at hmeas ⊢
      go_wp2_with (go_at_call 149; refine (unwrap_any p (.iface u x) _).mono ?_; rintro e w1 ⟨rfl, hb1⟩)
      go_roundw
      case rel => exact ⟨d, hx.out.symm, HD.out, hb.trans (hb1.mono hb.size)⟩
      case measure => exact hmeas.out
end Go.Proofs.YtabjcgchcnnjjaaGreatDoor.Mw
