/- errors.As that finds its target, and errors.Is, over the errors that msg makes; msg.numberOf. Conditions: what each theorem names of the world (where the package-level variables lie). -/
import Derived.Test.YtabjcgchcnnjjaaGreatDoorMwErr
set_option maxRecDepth 8000
namespace Go.Proofs.YtabjcgchcnnjjaaGreatDoor.Mw
open Go.RowKit Go.Extern.Stop Go.Stop Go.Extern By

set_option maxHeartbeats 4000000 in
theorem as_bel (C : Er) (n : Int) (hC : C.last = .bel n) (B tb : Nat) (a : Addr) (old : Value) (w : World) (hB : B ≤ w.heap.size) (hBt : B ≤ tb) (ha : w.cell? a = some (.pointer (some ⟨tb, 0, none⟩))) (ht : w.cell? ⟨tb, 0, none⟩ = some old) (hf : w.frozen? ⟨tb, 0, none⟩ = false) :
    Calls Tryz.prog 79 #[C.v, .iface 97 (.pointer (some ⟨tb, 0, none⟩)), .agg #[.pointer (some ⟨6, 97, none⟩), .pointer (some a), .int .u64 150], .iface 171 (.agg #[.pointer (some ⟨6, 95, none⟩)])] w
      fun e w' => e = .returned (.bool true) ∧ w'.cell? ⟨tb, 0, none⟩ = some (.int .i64 n) ∧ Below B w w' := by
  have h59 := @run_callFunc_extern Tryz.prog 76 _ (fun args => ReflectliteValue.unpack (args.getD 0 (.tuple #[]))) Tryz.func76 (by kernel_rfl) (by kernel_rfl) (by kernel_rfl) (by kernel_rfl)
  have h10 := @run_callFunc_extern Tryz.prog 80 _ ReflectliteType.typeOf Tryz.func80 (by kernel_rfl) (by kernel_rfl) (by kernel_rfl) (by kernel_rfl)
  have h35 := @run_callFunc_extern Tryz.prog 155 _ (ReflectliteType.relation "AssignableTo" ReflectliteType.assignableTo) Tryz.func155 (by kernel_rfl) (by kernel_rfl) (by kernel_rfl) (by kernel_rfl)
  have h71 := @run_callFunc_extern Tryz.prog 117 _ (ReflectliteValue.method (ReflectliteValue.valueError "reflectlite.Value.Elem" 0) ReflectliteValue.elem) Tryz.func117 (by kernel_rfl) (by kernel_rfl) (by kernel_rfl) (by kernel_rfl)
  have h72 := @run_callFunc_extern Tryz.prog 118 _ ReflectliteValue.set Tryz.func118 (by kernel_rfl) (by kernel_rfl) (by kernel_rfl) (by kernel_rfl)
  have tB := typeOfB
  have tF := typeOfF
  have mA := methodAssignableTo
  have aB := assignB
  have aF := assignF
  have nF := noAsF
  have uF := hasUnwrapF
  have mU := methodUnwrap
  have vB := valueOfB
  have HC := Lib.hid hC
  have HA := Lib.hid ha
  have HT := Lib.hid ht
  have HF := Lib.hid hf
  clear hC ha ht hf
  have hal : a.block < w.heap.size := World.block_lt_of_cell? w _ HA.out
  have htl : tb < w.heap.size := World.block_lt_of_cell? w _ HT.out
  go_enter Tryz.func79, Tryz.ntmps79
  go_wp2
  have hb0 : Below w.heap.size w (w.alloc (.cells #[.pointer (some ⟨6, 97, none⟩), .pointer (some a), .int .u64 150] 129)) := (Below.refl _ _).alloc (Nat.le_refl _) _
  have hcel := Cel.born w 129 #[.pointer (some ⟨6, 97, none⟩), .pointer (some a), .int .u64 150]
  have hsz0 : (w.alloc (.cells #[.pointer (some ⟨6, 97, none⟩), .pointer (some a), .int .u64 150] 129)).heap.size = w.heap.size + 1 := by simp
  generalize w.alloc (.cells #[.pointer (some ⟨6, 97, none⟩), .pointer (some a), .int .u64 150] 129) = w1 at *
  go_loopw [0] (fun v wr => ∃ c : Er, v = c.v ∧ c.last = .bel n ∧ Below w1.heap.size w1 wr) (fun v _ => SizeOf.sizeOf v)
  case atStart => exact ⟨C, rfl, HC.out, Below.refl _ _⟩
  case round =>
    obtain ⟨c, rfl, hc, hb⟩ := hrel
    have hcel1 := hcel.below hb (by omega)
    have hc0 : wr.cell? ⟨w.heap.size, 0, none⟩ = some (.pointer (some ⟨6, 97, none⟩)) := by rw [hcel1.cell]; rfl
    have hc1 : wr.cell? ⟨w.heap.size, 1, none⟩ = some (.pointer (some a)) := by rw [hcel1.cell]; rfl
    have hc2 : wr.cell? ⟨w.heap.size, 2, none⟩ = some (.int .u64 150) := by rw [hcel1.cell]; rfl
    clear hcel1
    match c, hc with
    | .bel m, hm =>
      obtain rfl : m = n := by simpa [Er.last] using hm
      have hsz := hb.size
      have el := elemV a ⟨tb, 0, none⟩ wr (((hb.cell (by omega)).trans (hb0.cell hal)).trans HA.out)
      have st := setB tb wr.heap.size m old (wr.alloc (.cells #[.int .i64 m] 95)) (by simp) (by rw [World.cell?_alloc_lt _ _ _ (by show tb < _; omega)]; exact ((hb.cell (p := ⟨tb, 0, none⟩) (by show tb < _; omega)).trans (hb0.cell (p := ⟨tb, 0, none⟩) htl)).trans HT.out)
        (by rw [World.frozen?_alloc_past _ _ _ (by omega)]; exact ((hb.frozen (p := ⟨tb, 0, none⟩) (by show tb < _; omega)).trans (hb0.frozen (p := ⟨tb, 0, none⟩) htl)).trans HF.out)
      have hcl : ((wr.alloc (.cells #[.int .i64 m] 95)).cell? ⟨tb, 0, none⟩) = some old := by rw [World.cell?_alloc_lt _ _ _ (by show tb < _; omega)]; exact ((hb.cell (p := ⟨tb, 0, none⟩) (by show tb < _; omega)).trans (hb0.cell (p := ⟨tb, 0, none⟩) htl)).trans HT.out
      have HCL := Lib.hid hcl
      clear hcl
      simp only [Er.v]
      go_wp2
      go_ret
      exact ⟨rfl, World.cell?_setCell_same _ _ _ HCL.out, (((hb0.mono hB).trans (hb.mono (by omega))).alloc (by omega) _).setCell hBt _⟩
    | .flt p d, hd =>
      have HD := Lib.hid hd
      clear hd
      simp only [Er.v]
      have hmeas : Hid (SizeOf.sizeOf d.v < SizeOf.sizeOf (Value.iface 90 (.agg #[.string p, d.v]))) := by show _ < _; simp; omega
      obtain ⟨u, x, hx⟩ := d.form
      rw [hx.out] at hmeas ⊢
      go_wp2_with (go_at_call 149; refine (unwrap_any p (.iface u x) _).mono ?_; rintro e w2 ⟨rfl, hb2⟩)
      go_roundw
      case rel => exact ⟨d, hx.out.symm, HD.out, hb.trans (hb2.mono hb.size)⟩
      case measure => exact hmeas.out

set_option maxHeartbeats 4000000 in
theorem is_any (C : Er) (s b : Addr) (hC : C.last = .sen s) (w : World) (hs : ∃ cs t, w.heap[s.block]? = some (.cells cs t (0, 0))) (hb : ∃ cs t, w.heap[b.block]? = some (.cells cs t (0, 0))) :
    Calls Tryz.prog 81 #[C.v, .iface 197 (.pointer (some b)), .bool true] w fun e w' => e = .returned (.bool (decide (s = b))) ∧ Below w.heap.size w w' := by
  obtain ⟨i, hi, hcmp⟩ := Option.map_eq_some_iff.1 compS
  obtain ⟨j, hj, hjs⟩ := Option.map_eq_some_iff.1 sizeS
  have nS := noIsS
  have nF := noIsF
  have uS := noUnwrapS
  have vS := noUnwrapsS
  have uF := hasUnwrapF
  have mU := methodUnwrap
  have HC := Lib.hid hC
  have HS := Lib.hid hs
  have HB := Lib.hid hb
  have HI := Lib.hid hi
  have HJ := Lib.hid hj
  clear hC hs hb hi hj
  go_enter Tryz.func81, Tryz.ntmps81
  go_wp2
  go_loopw [0] (fun v wr => ∃ c : Er, v = c.v ∧ c.last = .sen s ∧ Below w.heap.size w wr) (fun v _ => SizeOf.sizeOf v)
  case atStart => exact ⟨C, rfl, HC.out, Below.refl _ _⟩
  case round =>
    obtain ⟨c, rfl, hc, hb⟩ := hrel
    match c, hc with
    | .sen a, ha =>
      obtain rfl : a = s := by simpa [Er.last] using ha
      simp only [Er.v]
      by_cases he : a = b
      · subst he
        have heq := run_eql_iface_ptr_same (P := Tryz.prog) wr a Tryz.underlying61 Tryz.underlying197 HI.out hcmp HJ.out
        go_wp2
        go_ret
        exact ⟨ret_bool (by simp), hb⟩
      · have heq : (binOp .eql 61 (.iface 197 (.pointer (some a))) (.iface 197 (.pointer (some b)))).run Tryz.prog wr = .ok (.bool false) wr := by
          obtain ⟨ca, ta, h1⟩ := HS.out
          obtain ⟨cb, tb, h2⟩ := HB.out
          have l1 : a.block < w.heap.size := by
            rcases Nat.lt_or_ge a.block w.heap.size with k | k
            · exact k
            · rw [Array.getElem?_eq_none k] at h1; cases h1
          have l2 : b.block < w.heap.size := by
            rcases Nat.lt_or_ge b.block w.heap.size with k | k
            · exact k
            · rw [Array.getElem?_eq_none k] at h2; cases h2
          exact run_eql_iface_ptr_other (P := Tryz.prog) wr Tryz.underlying61 Tryz.underlying197 HI.out hcmp HJ.out (by rw [hjs]; decide) he ((hb.block _ l1).trans h1) ((hb.block _ l2).trans h2)
        have HE := Lib.hid he
        clear he
        go_wp2
        go_ret
        exact ⟨ret_bool (decide_eq_false HE.out).symm, hb⟩
    | .flt p d, hd =>
      have HD := Lib.hid hd
      clear hd
      simp only [Er.v]
      have hmeas : Hid (SizeOf.sizeOf d.v < SizeOf.sizeOf (Value.iface 90 (.agg #[.string p, d.v]))) := by show _ < _; simp; omega
      have hty := fun W => run_eql_iface_types (P := Tryz.prog) 90 197 (.agg #[.string p, d.v]) (.pointer (some b)) Tryz.underlying61 (by decide) W
      obtain ⟨u, x, hx⟩ := d.form
      rw [hx.out] at hmeas hty ⊢
      go_wp2_with (go_at_call 149; refine (unwrap_any p (.iface u x) _).mono ?_; rintro e w2 ⟨rfl, hb2⟩)
      go_roundw
      case rel => exact ⟨d, hx.out.symm, HD.out, hb.trans (hb2.mono hb.size)⟩
      case measure => exact hmeas.out
end Go.Proofs.YtabjcgchcnnjjaaGreatDoor.Mw
