/- What the walks of msg want of the world (where its package-level variables lie and what they hold); errors.As, errors.Is; msg.numberOf, over the errors that msg makes. -/
import Derived.Test.YtabjcgchcnnjjaaGreatDoorMwErr2
set_option maxRecDepth 8000
namespace Go.Proofs.YtabjcgchcnnjjaaGreatDoor.Mw
open Go.RowKit Go.Extern.Stop Go.Stop Go.Extern By

def widL : List Nat := [1, 1, 1, 1, 4, 2, 2, 4, 4, 4, 4]
/-- Where the sentinels' texts lie. -/
structure En where
  I : Addr
  L : Addr
  S : Addr
  F : Addr
/-- There is a block there, of cells, none of them frozen. -/
def Lies (w : World) (a : Addr) : Prop := ∃ cs t, w.heap[a.block]? = some (.cells cs t (0, 0))
structure En.ok (E : En) (w : World) : Prop where
  gI : w.cell? ⟨0, 0, none⟩ = some (.iface 197 (.pointer (some E.I)))
  gL : w.cell? ⟨1, 0, none⟩ = some (.iface 197 (.pointer (some E.L)))
  gS : w.cell? ⟨2, 0, none⟩ = some (.iface 197 (.pointer (some E.S)))
  gF : w.cell? ⟨5, 0, none⟩ = some (.iface 197 (.pointer (some E.F)))
  gT : w.cell? ⟨4, 0, none⟩ = some (.iface 171 (.agg #[.pointer (some ⟨6, 61, none⟩)]))
  gW : ∀ i (h : i < widL.length), w.cell? ⟨3, i, none⟩ = some (.int .i64 (widL[i] : Nat))
  lI : Lies w E.I
  lL : Lies w E.L
  lS : Lies w E.S
  lF : Lies w E.F
  ne : E.S ≠ E.I ∧ E.L ≠ E.I ∧ E.L ≠ E.S ∧ E.F ≠ E.I ∧ E.F ≠ E.S ∧ E.F ≠ E.L
theorem Lies.below {w w' : World} {a : Addr} (h : Lies w a) (hb : Below w.heap.size w w') : Lies w' a := by
  obtain ⟨cs, t, h⟩ := h
  have hl : a.block < w.heap.size := by
    rcases Nat.lt_or_ge a.block w.heap.size with k | k
    · exact k
    · rw [Array.getElem?_eq_none k] at h; cases h
  exact ⟨cs, t, (hb.block _ hl).trans h⟩
theorem En.ok.below {E : En} {w w' : World} (h : E.ok w) (hb : Below w.heap.size w w') : E.ok w' :=
  have k : ∀ {p : Addr} {v : Value}, w.cell? p = some v → w'.cell? p = some v := fun hp => (hb.cell (World.block_lt_of_cell? w _ hp)).trans hp
  ⟨k h.gI, k h.gL, k h.gS, k h.gF, k h.gT, fun i hi => k (h.gW i hi), h.lI.below hb, h.lL.below hb, h.lS.below hb, h.lF.below hb, h.ne⟩
theorem En.ok.alloc {E : En} {w : World} (h : E.ok w) (o : Obj) : E.ok (w.alloc o) := h.below ((Below.refl _ _).alloc (Nat.le_refl _) _)

set_option maxHeartbeats 4000000 in
theorem As_sen (C : Er) (s : Addr) (hC : C.last = .sen s) (t : Addr) (w : World) (hg : w.cell? ⟨4, 0, none⟩ = some (.iface 171 (.agg #[.pointer (some ⟨6, 61, none⟩)]))) :
    Calls Tryz.prog 48 #[C.v, .iface 97 (.pointer (some t))] w fun e w' => e = .returned (.bool false) ∧ Below w.heap.size w w' := by
  have h59 := @run_callFunc_extern Tryz.prog 76 _ (fun args => ReflectliteValue.unpack (args.getD 0 (.tuple #[]))) Tryz.func76 (by kernel_rfl) (by kernel_rfl) (by kernel_rfl) (by kernel_rfl)
  have h60 := @run_callFunc_extern Tryz.prog 77 _ (ReflectliteValue.methodAny (ReflectliteValue.valueError "reflectlite.Value.Type" 0) (fun t _ _ _ => ReflectliteType.toType t)) Tryz.func77 (by kernel_rfl) (by kernel_rfl) (by kernel_rfl) (by kernel_rfl)
  have h61 := @run_callFunc_extern Tryz.prog 78 _ (ReflectliteValue.method (ReflectliteValue.valueError "reflectlite.Value.IsNil" 0) ReflectliteValue.isNil) Tryz.func78 (by kernel_rfl) (by kernel_rfl) (by kernel_rfl) (by kernel_rfl)
  have h94 := @run_callFunc_extern Tryz.prog 145 _ (ReflectliteType.abiMethod fun t => do pure (.int .u8 (← Rtype.kind t))) Tryz.func145 (by kernel_rfl) (by kernel_rfl) (by kernel_rfl) (by kernel_rfl)
  have h106 := @run_callFunc_extern Tryz.prog 157 _ (ReflectliteType.method ReflectliteType.elem) Tryz.func157 (by kernel_rfl) (by kernel_rfl) (by kernel_rfl) (by kernel_rfl)
  have h107 := @run_callFunc_extern Tryz.prog 158 _ (ReflectliteType.relation "Implements" ReflectliteType.implements_) Tryz.func158 (by kernel_rfl) (by kernel_rfl) (by kernel_rfl) (by kernel_rfl)
  have vP := valueOfP
  have tP := typeP
  have mK := methodKind
  have mE := methodElem
  have mI := methodImplements
  have kP := kindP
  have kB := kindB
  have eT := elemT
  have iB := implementsB
  have nP := isNilP ⟨w.heap.size, 0, none⟩ t ((w.alloc (.cells #[.pointer (some t)] 97)).alloc (.cells #[.pointer (some ⟨6, 97, none⟩), .pointer (some ⟨w.heap.size, 0, none⟩), .int .u64 150] 129)) (by simp)
  have hlt : 4 < w.heap.size := World.block_lt_of_cell? w _ hg
  have hg2 : ((w.alloc (.cells #[.pointer (some t)] 97)).alloc (.cells #[.pointer (some ⟨6, 97, none⟩), .pointer (some ⟨w.heap.size, 0, none⟩), .int .u64 150] 129)).cell? ⟨4, 0, none⟩ = some (.iface 171 (.agg #[.pointer (some ⟨6, 61, none⟩)])) := by
    rw [World.cell?_alloc_lt _ _ _ (by simp; omega), World.cell?_alloc_lt _ _ _ hlt]; exact hg
  have HC := Lib.hid hC
  clear hC
  obtain ⟨u, x, hx⟩ := C.form
  rw [hx.out]
  go_enter Tryz.func48, Tryz.ntmps48
  go_wp2_with (go_at_call 79; rw [← hx.out]; refine (as_sen C s HC.out t _ _).mono ?_; rintro e w2 ⟨rfl, hb2⟩)
  go_ret
  exact ⟨rfl, (((Below.refl _ _).alloc (Nat.le_refl _) _).alloc (by simp) _).trans (hb2.mono (by simp; omega))⟩

set_option maxHeartbeats 4000000 in
theorem As_bel (C : Er) (n : Int) (hC : C.last = .bel n) (B tb : Nat) (old : Value) (w : World) (hB : B ≤ w.heap.size) (hBt : B ≤ tb) (ht : w.cell? ⟨tb, 0, none⟩ = some old) (hf : w.frozen? ⟨tb, 0, none⟩ = false)
    (hg : w.cell? ⟨4, 0, none⟩ = some (.iface 171 (.agg #[.pointer (some ⟨6, 61, none⟩)]))) :
    Calls Tryz.prog 48 #[C.v, .iface 97 (.pointer (some ⟨tb, 0, none⟩))] w fun e w' => e = .returned (.bool true) ∧ w'.cell? ⟨tb, 0, none⟩ = some (.int .i64 n) ∧ Below B w w' := by
  have h59 := @run_callFunc_extern Tryz.prog 76 _ (fun args => ReflectliteValue.unpack (args.getD 0 (.tuple #[]))) Tryz.func76 (by kernel_rfl) (by kernel_rfl) (by kernel_rfl) (by kernel_rfl)
  have h60 := @run_callFunc_extern Tryz.prog 77 _ (ReflectliteValue.methodAny (ReflectliteValue.valueError "reflectlite.Value.Type" 0) (fun t _ _ _ => ReflectliteType.toType t)) Tryz.func77 (by kernel_rfl) (by kernel_rfl) (by kernel_rfl) (by kernel_rfl)
  have h61 := @run_callFunc_extern Tryz.prog 78 _ (ReflectliteValue.method (ReflectliteValue.valueError "reflectlite.Value.IsNil" 0) ReflectliteValue.isNil) Tryz.func78 (by kernel_rfl) (by kernel_rfl) (by kernel_rfl) (by kernel_rfl)
  have h94 := @run_callFunc_extern Tryz.prog 145 _ (ReflectliteType.abiMethod fun t => do pure (.int .u8 (← Rtype.kind t))) Tryz.func145 (by kernel_rfl) (by kernel_rfl) (by kernel_rfl) (by kernel_rfl)
  have h106 := @run_callFunc_extern Tryz.prog 157 _ (ReflectliteType.method ReflectliteType.elem) Tryz.func157 (by kernel_rfl) (by kernel_rfl) (by kernel_rfl) (by kernel_rfl)
  have h107 := @run_callFunc_extern Tryz.prog 158 _ (ReflectliteType.relation "Implements" ReflectliteType.implements_) Tryz.func158 (by kernel_rfl) (by kernel_rfl) (by kernel_rfl) (by kernel_rfl)
  have vP := valueOfP
  have tP := typeP
  have mK := methodKind
  have mE := methodElem
  have mI := methodImplements
  have kP := kindP
  have kB := kindB
  have eT := elemT
  have iB := implementsB
  have nP := isNilP ⟨w.heap.size, 0, none⟩ ⟨tb, 0, none⟩ ((w.alloc (.cells #[.pointer (some ⟨tb, 0, none⟩)] 97)).alloc (.cells #[.pointer (some ⟨6, 97, none⟩), .pointer (some ⟨w.heap.size, 0, none⟩), .int .u64 150] 129)) (by simp)
  have hlt : 4 < w.heap.size := World.block_lt_of_cell? w _ hg
  have hg2 : ((w.alloc (.cells #[.pointer (some ⟨tb, 0, none⟩)] 97)).alloc (.cells #[.pointer (some ⟨6, 97, none⟩), .pointer (some ⟨w.heap.size, 0, none⟩), .int .u64 150] 129)).cell? ⟨4, 0, none⟩ = some (.iface 171 (.agg #[.pointer (some ⟨6, 61, none⟩)])) := by
    rw [World.cell?_alloc_lt _ _ _ (by simp; omega), World.cell?_alloc_lt _ _ _ hlt]; exact hg
  have htl : tb < w.heap.size := World.block_lt_of_cell? w _ ht
  have ht2 : ((w.alloc (.cells #[.pointer (some ⟨tb, 0, none⟩)] 97)).alloc (.cells #[.pointer (some ⟨6, 97, none⟩), .pointer (some ⟨w.heap.size, 0, none⟩), .int .u64 150] 129)).cell? ⟨tb, 0, none⟩ = some old := by
    rw [World.cell?_alloc_lt _ _ _ (by show tb < _; simp; omega), World.cell?_alloc_lt _ _ _ htl]; exact ht
  have hf2 : ((w.alloc (.cells #[.pointer (some ⟨tb, 0, none⟩)] 97)).alloc (.cells #[.pointer (some ⟨6, 97, none⟩), .pointer (some ⟨w.heap.size, 0, none⟩), .int .u64 150] 129)).frozen? ⟨tb, 0, none⟩ = false := by
    rw [World.frozen?_alloc_past _ _ _ (by simp; omega), World.frozen?_alloc_past _ _ _ htl]; exact hf
  have ha2 : ((w.alloc (.cells #[.pointer (some ⟨tb, 0, none⟩)] 97)).alloc (.cells #[.pointer (some ⟨6, 97, none⟩), .pointer (some ⟨w.heap.size, 0, none⟩), .int .u64 150] 129)).cell? ⟨w.heap.size, 0, none⟩ = some (.pointer (some ⟨tb, 0, none⟩)) := by simp
  have HC := Lib.hid hC
  have HA2 := Lib.hid ha2
  have HT2 := Lib.hid ht2
  have HF2 := Lib.hid hf2
  clear hC ha2 ht2 hf2 ht hf
  obtain ⟨u, x, hx⟩ := C.form
  rw [hx.out]
  go_enter Tryz.func48, Tryz.ntmps48
  go_wp2_with (go_at_call 79; rw [← hx.out]; refine (as_bel C n HC.out B tb _ old _ (by simp; omega) hBt HA2.out HT2.out HF2.out).mono ?_; rintro e w2 ⟨rfl, hc2, hb2⟩)
  go_ret
  exact ⟨rfl, hc2, (((Below.refl _ _).alloc hB _).alloc (by simp; omega) _).trans hb2⟩

set_option maxHeartbeats 4000000 in
theorem Is_any (C : Er) (s b : Addr) (hC : C.last = .sen s) (w : World) (hs : Lies w s) (hb : Lies w b) :
    Calls Tryz.prog 49 #[C.v, .iface 197 (.pointer (some b))] w fun e w' => e = .returned (.bool (decide (s = b))) ∧ Below w.heap.size w w' := by
  have h63 := @run_callFunc_extern Tryz.prog 80 _ ReflectliteType.typeOf Tryz.func80 (by kernel_rfl) (by kernel_rfl) (by kernel_rfl) (by kernel_rfl)
  have h105 := @run_callFunc_extern Tryz.prog 156 _ comparableF Tryz.func156 (by kernel_rfl) (by kernel_rfl) (by kernel_rfl) (by kernel_rfl)
  have tS := typeOfS
  have cS := comparableS
  have mC := methodComparable
  have HC := Lib.hid hC
  have HS := Lib.hid hs
  have HB := Lib.hid hb
  clear hC hs hb
  obtain ⟨u, x, hx⟩ := C.form
  rw [hx.out]
  go_enter Tryz.func49, Tryz.ntmps49
  go_wp2_with (go_at_call 81; rw [← hx.out]; refine (is_any C s b HC.out _ HS.out HB.out).mono ?_; rintro e w2 ⟨rfl, hb2⟩)
  go_ret
  exact ⟨rfl, hb2⟩
end Go.Proofs.YtabjcgchcnnjjaaGreatDoor.Mw
