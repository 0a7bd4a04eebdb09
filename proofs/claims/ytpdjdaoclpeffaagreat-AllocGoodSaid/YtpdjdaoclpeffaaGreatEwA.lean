/- Words for leases by value, and which leases are right: what record's rightState and Right, and the document's own Right, come to. For all leases whose keys fit. -/
import Derived.Test.YtpdjdaoclpeffaaGreatMathA
import Derived.Test.YtpdjdaoclpeffaaGreatKitA
import Derived.Laws.StructEq
import Derived.Deep.QuietTactic
import Derived.BigQuiet
import Derived.Deep.LoopGhost
import Derived.Deep.RegionLaw
import Derived.Deep.CutRange
section
set_option maxRecDepth 8000
namespace Go.Proofs.YtpdjdaoclpeffaaGreat.Ew
open Go.RowKit Co By Ky Rc
open Dw (ba ba_size ba_data ba_list)

/-- A lease by value. -/
@[reducible] def lv (l : L) : Value := .agg #[.int .i64 l.addr, .int .i64 l.state, .int .i64 l.till, .string (ba l.key)]
@[reducible] def lcs (l : L) : Array Value := #[.int .i64 l.addr, .int .i64 l.state, .int .i64 l.till, .string (ba l.key)]
/-- A lease's key is a string that fits. -/
def Fk (l : L) : Prop := l.key.length ≤ 9223372036854775807
theorem keyRight_any (k : List UInt8) (w : World) (hs : k.length ≤ 9223372036854775807) :
    Calls Tryz.prog 40 #[.string (ba k)] w fun e w' => e = .returned (.bool (rightK k)) ∧ w = w' := Kw.right_any (ba k) w hs
theorem refKeyRight_any (k : List UInt8) (w : World) (hs : k.length ≤ 9223372036854775807) :
    Calls Tryz.prog 37 #[.string (ba k)] w fun e w' => e = .returned (.bool (rightK k)) ∧ w = w' := Kw.refRight_any (ba k) w hs
def stB (s : Int) : Bool := decide (1 ≤ s ∧ s ≤ 3)
theorem rightState_any (s : Int) (w : World) :
    Calls Tryz.prog 108 #[.int .i64 s] w fun e w' => e = .returned (.bool (stB s)) ∧ w = w' := by
  have H : Hid (stB s = decide (1 ≤ s ∧ s ≤ 3)) := rfl
  by_cases h1 : s = 1
  · subst h1
    go_enter Tryz.func108, Tryz.ntmps108
    go_wp2
    go_ret
    exact ⟨rfl, rfl⟩
  by_cases h2 : s = 2
  · subst h2
    go_enter Tryz.func108, Tryz.ntmps108
    go_wp2
    go_ret
    exact ⟨rfl, rfl⟩
  by_cases h3 : s = 3
  · subst h3
    go_enter Tryz.func108, Tryz.ntmps108
    go_wp2
    go_ret
    exact ⟨rfl, rfl⟩
  have b1 : (s == 1) = false := by simpa using h1
  have b2 : (s == 2) = false := by simpa using h2
  have b3 : (s == 3) = false := by simpa using h3
  have HF : Hid (stB s = false) := by show _ = _; rw [H.out]; exact decide_eq_false (by omega)
  clear h1 h2 h3 H
  go_enter Tryz.func108, Tryz.ntmps108
  go_wp2
  go_ret
  exact ⟨ret_bool HF.out.symm, rfl⟩
theorem rightR_iff (l : L) : rightR l = (Ad.rightB l.addr && stB l.state && decide (0 ≤ l.till) && decide (l.till ≤ 1125899906842624) && rightK l.key) := by
  rw [Bool.eq_iff_iff, show rightR l = true ↔ RightR l from decide_eq_true_iff]
  unfold RightR stB
  simp only [Bool.and_eq_true, decide_eq_true_eq, Ad.rightB_iff]
  constructor
  · rintro ⟨a, b, ⟨c, d⟩, e⟩
    exact ⟨⟨⟨⟨a, b⟩, c⟩, d⟩, e⟩
  · rintro ⟨⟨⟨⟨a, b⟩, c⟩, d⟩, e⟩
    exact ⟨a, b, ⟨c, d⟩, e⟩
end Go.Proofs.YtpdjdaoclpeffaaGreat.Ew
end
/- What record's Right and the document's Right come to. For all leases whose keys fit. -/
section
set_option maxRecDepth 8000
namespace Go.Proofs.YtpdjdaoclpeffaaGreat.Ew
open Go.RowKit Co By Ky Rc
open Dw (ba ba_size ba_data ba_list)

set_option maxHeartbeats 1000000 in
theorem right_parts (a s t : Int) (k : List UInt8) (w : World) (hk : k.length ≤ 9223372036854775807) :
    Calls Tryz.prog 64 #[.agg #[.int .i64 a, .int .i64 s, .int .i64 t, .string (ba k)]] w fun e w' => e = .returned (.bool (rightR ⟨a, s, t, k⟩)) ∧ Below w.heap.size w w' := by
  have H := Lib.hid (rightR_iff ⟨a, s, t, k⟩)
  have hb : ∀ x, Below w.heap.size w (w.alloc x) := fun x => (Below.refl _ _).alloc (Nat.le_refl _) _
  have HA := Lib.hid (fun W => Aw.right_any a W)
  have HS := Lib.hid (fun W => rightState_any s W)
  have HK := Lib.hid (fun W => keyRight_any k W hk)
  simp only at H
  generalize Ad.rightB a = b1 at H HA
  generalize stB s = b2 at H HS
  generalize rightK k = b5 at H HK
  cases b1 with
  | false =>
    go_enter Tryz.func64, Tryz.ntmps64
    go_wp2_with fail
    refine (HA.out _).mono ?_
    rintro e w1 ⟨rfl, rfl⟩
    go_wp2
    go_ret
    exact ⟨ret_bool (by rw [H.out]; rfl), hb _⟩
  | true =>
  cases b2 with
  | false =>
    go_enter Tryz.func64, Tryz.ntmps64
    go_wp2_with fail
    refine (HA.out _).mono ?_
    rintro e w1 ⟨rfl, rfl⟩
    go_wp2_with fail
    refine (HS.out _).mono ?_
    rintro e w1 ⟨rfl, rfl⟩
    go_wp2
    go_ret
    exact ⟨ret_bool (by rw [H.out]; rfl), hb _⟩
  | true =>
  by_cases t0 : 0 ≤ t
  rotate_left
  · have d0 : decide (0 ≤ t) = false := decide_eq_false t0
    have HF : Hid (rightR ⟨a, s, t, k⟩ = false) := by show _ = _; rw [H.out, d0]; rfl
    clear d0 H
    go_enter Tryz.func64, Tryz.ntmps64
    go_wp2_with fail
    refine (HA.out _).mono ?_
    rintro e w1 ⟨rfl, rfl⟩
    go_wp2_with fail
    refine (HS.out _).mono ?_
    rintro e w1 ⟨rfl, rfl⟩
    go_wp2
    go_ret
    exact ⟨ret_bool HF.out.symm, hb _⟩
  by_cases t1 : t ≤ 1125899906842624
  rotate_left
  · have d0 : decide (t ≤ 1125899906842624) = false := decide_eq_false t1
    have HF : Hid (rightR ⟨a, s, t, k⟩ = false) := by show _ = _; rw [H.out, d0]; simp
    clear d0 H
    go_enter Tryz.func64, Tryz.ntmps64
    go_wp2_with fail
    refine (HA.out _).mono ?_
    rintro e w1 ⟨rfl, rfl⟩
    go_wp2_with fail
    refine (HS.out _).mono ?_
    rintro e w1 ⟨rfl, rfl⟩
    go_wp2
    go_ret
    exact ⟨ret_bool HF.out.symm, hb _⟩
  have HF : Hid (rightR ⟨a, s, t, k⟩ = b5) := by show _ = _; rw [H.out, decide_eq_true t0, decide_eq_true t1]; simp
  clear H
  go_enter Tryz.func64, Tryz.ntmps64
  go_wp2_with fail
  refine (HA.out _).mono ?_
  rintro e w1 ⟨rfl, rfl⟩
  go_wp2_with fail
  refine (HS.out _).mono ?_
  rintro e w1 ⟨rfl, rfl⟩
  go_wp2_with fail
  refine (HK.out _).mono ?_
  rintro e w1 ⟨rfl, rfl⟩
  go_wp2
  go_ret
  exact ⟨ret_bool HF.out.symm, hb _⟩
theorem right_any (l : L) (w : World) (hk : Fk l) :
    Calls Tryz.prog 64 #[lv l] w fun e w' => e = .returned (.bool (rightR l)) ∧ Below w.heap.size w w' := right_parts l.addr l.state l.till l.key w hk

set_option maxHeartbeats 2000000 in
theorem refRight_parts (a s t : Int) (k : List UInt8) (w : World) (hk : k.length ≤ 9223372036854775807) :
    Calls Tryz.prog 55 #[.agg #[.int .i64 a, .int .i64 s, .int .i64 t, .string (ba k)]] w fun e w' => e = .returned (.bool (rightR ⟨a, s, t, k⟩)) ∧ Below w.heap.size w w' := by
  have H := Lib.hid (rightR_iff ⟨a, s, t, k⟩)
  have hb : ∀ x, Below w.heap.size w (w.alloc x) := fun x => (Below.refl _ _).alloc (Nat.le_refl _) _
  have HA := Lib.hid (fun W => Aw.refRight_any a W)
  have HK := Lib.hid (fun W => refKeyRight_any k W hk)
  simp only at H
  generalize Ad.rightB a = b1 at H HA
  generalize rightK k = b5 at H HK
  cases b1 with
  | false =>
    go_enter Tryz.func55, Tryz.ntmps55
    go_wp2_with fail
    refine (HA.out _).mono ?_
    rintro e w1 ⟨rfl, rfl⟩
    go_wp2
    go_ret
    exact ⟨ret_bool (by rw [H.out]; rfl), hb _⟩
  | true =>
  cases b5 with
  | false =>
    go_enter Tryz.func55, Tryz.ntmps55
    go_wp2_with fail
    refine (HA.out _).mono ?_
    rintro e w1 ⟨rfl, rfl⟩
    go_wp2_with fail
    refine (HK.out _).mono ?_
    rintro e w1 ⟨rfl, rfl⟩
    go_wp2
    go_ret
    exact ⟨ret_bool (by rw [H.out]; simp), hb _⟩
  | true =>
  have HF : Hid (rightR ⟨a, s, t, k⟩ = decide ((1 ≤ s ∧ s ≤ 3) ∧ 0 ≤ t ∧ t ≤ 1125899906842624)) := by
    show _ = _
    rw [H.out, Bool.eq_iff_iff]
    unfold stB
    simp only [Bool.and_eq_true, decide_eq_true_eq, and_true, true_and]
    omega
  clear H
  have hst : s = 1 ∨ s = 2 ∨ s = 3 ∨ ((s == 1) = false ∧ (s == 2) = false ∧ (s == 3) = false) := by
    simp only [beq_eq_false_iff_ne]
    omega
  rcases hst with rfl | rfl | rfl | ⟨b1, b2, b3⟩
  rotate_right
  · have HG : Hid (rightR ⟨a, s, t, k⟩ = false) := by show _ = _; rw [HF.out]; simp only [beq_eq_false_iff_ne] at b1 b2 b3; exact decide_eq_false (by omega)
    clear HF
    go_enter Tryz.func55, Tryz.ntmps55
    go_wp2_with fail
    refine (HA.out _).mono ?_
    rintro e w1 ⟨rfl, rfl⟩
    go_wp2_with fail
    refine (HK.out _).mono ?_
    rintro e w1 ⟨rfl, rfl⟩
    go_wp2
    go_ret
    exact ⟨ret_bool HG.out.symm, hb _⟩
  all_goals
    by_cases t0 : 0 ≤ t
    rotate_left
    · go_enter Tryz.func55, Tryz.ntmps55
      go_wp2_with fail
      refine (HA.out _).mono ?_
      rintro e w1 ⟨rfl, rfl⟩
      go_wp2_with fail
      refine (HK.out _).mono ?_
      rintro e w1 ⟨rfl, rfl⟩
      go_wp2
      go_ret
      exact ⟨ret_bool (by rw [HF.out]; first | (rw [decide_eq_decide]; omega) | exact (decide_eq_false (by omega)).symm), hb _⟩
    by_cases t1 : t ≤ 1125899906842624
    · go_enter Tryz.func55, Tryz.ntmps55
      go_wp2_with fail
      refine (HA.out _).mono ?_
      rintro e w1 ⟨rfl, rfl⟩
      go_wp2_with fail
      refine (HK.out _).mono ?_
      rintro e w1 ⟨rfl, rfl⟩
      go_wp2
      go_ret
      exact ⟨ret_bool (by rw [HF.out]; first | (rw [decide_eq_decide]; omega) | exact (decide_eq_true (by omega)).symm), hb _⟩
    · go_enter Tryz.func55, Tryz.ntmps55
      go_wp2_with fail
      refine (HA.out _).mono ?_
      rintro e w1 ⟨rfl, rfl⟩
      go_wp2_with fail
      refine (HK.out _).mono ?_
      rintro e w1 ⟨rfl, rfl⟩
      go_wp2
      go_ret
      exact ⟨ret_bool (by rw [HF.out]; first | (rw [decide_eq_decide]; omega) | exact (decide_eq_false (by omega)).symm), hb _⟩
theorem refRight_any (l : L) (w : World) (hk : Fk l) :
    Calls Tryz.prog 55 #[lv l] w fun e w' => e = .returned (.bool (rightR l)) ∧ Below w.heap.size w w' := refRight_parts l.addr l.state l.till l.key w hk
end Go.Proofs.YtpdjdaoclpeffaaGreat.Ew
end
/- Words for a lease in a block of its own: its four cells, stores to them, and a call that returns it. -/
section
set_option maxRecDepth 8000
namespace Go.Proofs.YtpdjdaoclpeffaaGreat.Ew
open Go.RowKit Co By Ky Rc
open Dw (ba ba_size ba_data ba_list)

theorem celFr {w : World} {g : Nat} {t : TypeId} {cs : Array Value} (h : Cel w g t cs) (i : Nat) : w.frozen? ⟨g, i, none⟩ = false := by
  unfold Cel at h
  simp [World.frozen?, h]
theorem celPut {w : World} {g : Nat} {t : TypeId} {cs : Array Value} (h : Cel w g t cs) (i : Nat) (v : Value) : Cel (w.setCell ⟨g, i, none⟩ v) g t (cs.setIfInBounds i v) := by
  unfold Cel at *
  rw [setCell_eq_setRow w g i cs t (0, 0) v h]
  exact setRow_heap w g cs _ t _ h
theorem celFar {w : World} {g g' : Nat} {t : TypeId} {cs : Array Value} (h : Cel w g t cs) (i : Nat) (v : Value) (hne : g ≠ g') : Cel (w.setCell ⟨g', i, none⟩ v) g t cs := by
  unfold Cel at *
  rw [Below.heap_setCell w ⟨g', i, none⟩ v g hne]
  exact h
theorem celFr4 {w : World} {g : Nat} {t : TypeId} {cs : Array Value} (h : Cel w g t cs) : w.frozen? ⟨g, 0, none⟩ = false ∧ w.frozen? ⟨g, 1, none⟩ = false ∧ w.frozen? ⟨g, 2, none⟩ = false ∧ w.frozen? ⟨g, 3, none⟩ = false := ⟨celFr h 0, celFr h 1, celFr h 2, celFr h 3⟩
/-- The lease l stored to the block g whole. -/
@[reducible] def put4 (w : World) (g : Nat) (l : L) : World := (((w.setCell ⟨g, 0, none⟩ (.int .i64 l.addr)).setCell ⟨g, 1, none⟩ (.int .i64 l.state)).setCell ⟨g, 2, none⟩ (.int .i64 l.till)).setCell ⟨g, 3, none⟩ (.string (ba l.key))
theorem celPut4 {w : World} {g : Nat} {t : TypeId} {m l : L} (h : Cel w g t (lcs m)) : Cel (put4 w g l) g t (lcs l) := celPut (celPut (celPut (celPut h 0 _) 1 _) 2 _) 3 _
theorem belowPut4 {B : Nat} {v w : World} (h : Below B v w) {g : Nat} (hg : B ≤ g) (l : L) : Below B v (put4 w g l) :=
  (((h.setCell (p := ⟨g, 0, none⟩) hg _).setCell (p := ⟨g, 1, none⟩) hg _).setCell (p := ⟨g, 2, none⟩) hg _).setCell (p := ⟨g, 3, none⟩) hg _
theorem cellPut4 (w : World) (g : Nat) (l : L) (p : Addr) (h : p.block ≠ g) : (put4 w g l).cell? p = w.cell? p := by
  simp only [put4, World.cell?]
  rw [Below.heap_setCell _ ⟨g, 3, none⟩ _ p.block h, Below.heap_setCell _ ⟨g, 2, none⟩ _ p.block h, Below.heap_setCell _ ⟨g, 1, none⟩ _ p.block h, Below.heap_setCell _ ⟨g, 0, none⟩ _ p.block h]
theorem ret_lease2 {fn : Func} {p u : Tmp} (hres : fn.results = #[.cell p 34, .tmp u]) (tmps : Array Value) (w : World) (g : Nat) (l : L) (hp : tmps.getD p undef = .pointer (some ⟨g, 0, none⟩)) (hc : Cel w g 34 (lcs l)) :
    (results fn tmps).run Tryz.prog w = .ok (.tuple #[lv l, tmps.getD u undef]) w := by
  rw [results_cell_tmp hres, hp]
  have := run_loadVar_row (P := Tryz.prog) w g 34 34 (lcs l) (0, 0) _ hc Tryz.underlying34 rfl (by kernel_rfl)
  simp [asAddr, this]
/-- What a call that answers a lease and an error answers. -/
def RdL (w : World) (p : L × Int) (e : Ending) (w' : World) : Prop := e = .returned (.tuple #[lv p.1, .int .i64 p.2]) ∧ Below w.heap.size w w'
theorem val_one {l : List UInt8} (h : 4 < l.length) : valL ((l.drop 4).take 1) = (l.getD 4 0).toNat := by
  rw [List.drop_eq_getElem_cons h, List.take_succ_cons, List.take_zero, List.getD_eq_getElem?_getD, List.getElem?_eq_getElem h]
  show 0 * 256 + _ = _
  simp
end Go.Proofs.YtpdjdaoclpeffaaGreat.Ew
end
/- Words for slices of leases. No conditions but those that each theorem names. -/
section
set_option maxRecDepth 8000
namespace Go.Proofs.YtpdjdaoclpeffaaGreat.Jw
open Go.RowKit Co By Ky Rc Ew
open Dw (ba ba_size ba_data ba_list)

/-! ### Leases -/
def layL : Lay L := ⟨4, fun l => [.int .i64 l.addr, .int .i64 l.state, .int .i64 l.till, .string (ba l.key)], fun _ => rfl, fun l u hu => by
  simp only [List.mem_cons, List.not_mem_nil, or_false] at hu
  rcases hu with rfl | rfl | rfl | rfl <;> rfl⟩
abbrev RdLs (U : Nat) (w : World) (A : Option Addr) (n c : Nat) (l : List L) : Prop := RdG layL U w A n c l
abbrev OwnLs (B : Nat) (w : World) (A : Option Addr) (n c : Nat) (l : List L) : Prop := OwnG layL 34 B w A n c l
theorem lesP : RgP Tryz.prog 25 34 layL (.agg #[.int .i64 0, .int .i64 0, .int .i64 0, .string ⟨#[]⟩]) 40 := ⟨Tryz.underlying25, by kernel_rfl⟩
/-- One lease of a slice that reads. -/
theorem atL {U : Nat} {w : World} {A : Option Addr} {n c : Nat} {l : List L} (h : RdLs U w A n c l) {k : Nat} (hk : k < n) : ∃ b o a, A = some ⟨b, o, none⟩ ∧ b < U ∧ Hid (l[k]? = some a) ∧
    w.cell? ⟨b, o + k * 4, none⟩ = some (.int .i64 a.addr) ∧ w.cell? ⟨b, o + k * 4 + 1, none⟩ = some (.int .i64 a.state) ∧ w.cell? ⟨b, o + k * 4 + 2, none⟩ = some (.int .i64 a.till) ∧ w.cell? ⟨b, o + k * 4 + 3, none⟩ = some (.string (ba a.key)) := by
  obtain ⟨b, o, e, hU, a, hl, hc⟩ := h.at_ hk
  exact ⟨b, o, a, e, hU, hl, hc 0 _ rfl, hc 1 _ rfl, hc 2 _ rfl, hc 3 _ rfl⟩
/-- A literal of one lease. -/
theorem litL (w : World) (l : L) : RdLs (w.heap.size + 1) (w.alloc (.cells (lcs l) 34)) (some ⟨w.heap.size, 0, none⟩) 1 1 [l] := by
  have := (OwnG.lit (Y := layL) 34 w [l] (by simp)).rd
  have e : (w.alloc (.cells (layL.cells [l]).toArray 34)).heap.size = w.heap.size + 1 := by simp
  rw [e, layL.cells_one] at this
  exact this
end Go.Proofs.YtpdjdaoclpeffaaGreat.Jw
end
/- A row of leases that the call owns; slices.Clone. For rows of less than a million leases. -/
section
set_option maxRecDepth 8000
namespace Go.Proofs.YtpdjdaoclpeffaaGreat.Lw
open Go.RowKit Go.Lib Co By Ky Rc Ew Jw
open Dw (ba ba_size ba_data ba_list alloc_more)

theorem own_lt {B g n c : Nat} {w : World} {l : List L} (h : OwnLs B w (some ⟨g, 0, none⟩) n c l) : g < w.heap.size ∧ B ≤ g := by
  have := World.ownsRow.lt h.1 g rfl
  exact ⟨this.2, this.1⟩
/-- A slice of the call's own that holds the leases l. -/
def OwL (B : Nat) (w : World) (l : List L) (e : Ending) (w' : World) : Prop := ∃ A' k c', e = .returned (.slice A' k c') ∧ OwnLs B w' A' k c' l ∧ Below B w w'
theorem litL0 (w : World) : OwnLs w.heap.size (w.alloc (.cells #[] 34)) (some ⟨w.heap.size, 0, none⟩) 0 0 [] := ⟨World.ownsRow_lit w #[] 0 (Nat.le_refl _) (by unfold maxLen; omega) rfl, rfl⟩
end Go.Proofs.YtpdjdaoclpeffaaGreat.Lw
end
/- What the document's SameLeases comes to: at lists that are alike, at lists of different lengths, and that it answers at any two. -/
section
set_option maxRecDepth 8000
namespace Go.Proofs.YtpdjdaoclpeffaaGreat.Jw
open Go.RowKit Co By Ky Rc Ew
open Dw (ba ba_size ba_data ba_list)

theorem lneq_self (l : L) (W : World) : (binOp .neq 34 (lv l) (lv l)).run Tryz.prog W = .ok (.bool false) W := by
  have hS : Tryz.prog.underlying 34 = some (.struct (Tryz.prog.fieldsOf 34)) := by kernel_rfl
  have hp : Tryz.prog.stoodInHeld 34 = false := by kernel_rfl
  have u3 := Tryz.underlying3
  have a3 := Tryz.isAgg3
  have z3 := Tryz.sizeOf3
  have u9 := Tryz.underlying9
  have a9 := Tryz.isAgg9
  have z9 := Tryz.sizeOf9
  rw [run_neq_struct, show (10000 : Nat) = 9999 + 1 from rfl, run_equalIn_agg W 9999 34 _ _ hS hp]
  simp only [Program.fieldsOf, Tryz.underlying34]
  go_simp
def isB (b : Bool) (w : World) (e : Ending) (w' : World) : Prop := e = .returned (.bool b) ∧ Below w.heap.size w w'
theorem lneq_some (l m : L) : ∃ b, ∀ W, (binOp .neq 34 (lv l) (lv m)).run Tryz.prog W = .ok (.bool b) W := by
  have hS : Tryz.prog.underlying 34 = some (.struct (Tryz.prog.fieldsOf 34)) := by kernel_rfl
  have hp : Tryz.prog.stoodInHeld 34 = false := by kernel_rfl
  have u3 := Tryz.underlying3
  have a3 := Tryz.isAgg3
  have z3 := Tryz.sizeOf3
  have u9 := Tryz.underlying9
  have a9 := Tryz.isAgg9
  have z9 := Tryz.sizeOf9
  by_cases h1 : l.addr = m.addr
  · by_cases h2 : l.state = m.state
    · by_cases h3 : l.till = m.till
      · by_cases h4 : l.key = m.key
        · refine ⟨false, fun W => ?_⟩
          rw [run_neq_struct, show (10000 : Nat) = 9999 + 1 from rfl, run_equalIn_agg W 9999 34 _ _ hS hp]
          simp only [Program.fieldsOf, Tryz.underlying34, h1, h2, h3, h4]
          go_simp
        · refine ⟨true, fun W => ?_⟩
          rw [run_neq_struct, show (10000 : Nat) = 9999 + 1 from rfl, run_equalIn_agg W 9999 34 _ _ hS hp]
          simp only [Program.fieldsOf, Tryz.underlying34, h1, h2, h3]
          go_simp
          rw [ba_list, ba_list]
          exact h4
      · refine ⟨true, fun W => ?_⟩
        have b4 : (l.till == m.till) = false := by simpa using h3
        rw [run_neq_struct, show (10000 : Nat) = 9999 + 1 from rfl, run_equalIn_agg W 9999 34 _ _ hS hp]
        simp only [Program.fieldsOf, Tryz.underlying34, h1, h2]
        go_simp
    · refine ⟨true, fun W => ?_⟩
      have b4 : (l.state == m.state) = false := by simpa using h2
      rw [run_neq_struct, show (10000 : Nat) = 9999 + 1 from rfl, run_equalIn_agg W 9999 34 _ _ hS hp]
      simp only [Program.fieldsOf, Tryz.underlying34, h1]
      go_simp
  · refine ⟨true, fun W => ?_⟩
    have b4 : (l.addr == m.addr) = false := by simpa using h1
    rw [run_neq_struct, show (10000 : Nat) = 9999 + 1 from rfl, run_equalIn_agg W 9999 34 _ _ hS hp]
    simp only [Program.fieldsOf, Tryz.underlying34]
    go_simp
def SomeB (w : World) (e : Ending) (w' : World) : Prop := ∃ b : Bool, e = .returned (.bool b) ∧ Below w.heap.size w w'
end Go.Proofs.YtpdjdaoclpeffaaGreat.Jw
end
/- What the document's Last comes to: whether one of the address stands behind, those with none behind them, and the least of them one by one; and what the law's own 'great' tells. For rows of less than 100000 leases. -/
section
set_option maxRecDepth 8000
namespace Go.Proofs.YtpdjdaoclpeffaaGreat.Lw
open Go.RowKit Co By Ky Rc Ew Jw La
open Dw (ba ba_size ba_data ba_list alloc_more)

/-! ### behind -/
/-- One of the address x from the place k on. -/
def behB (l : List L) (k : Nat) (x : Int) : Bool := decide (∃ b ∈ l.drop k, b.addr = x)
theorem beh_yes {l : List L} {k : Nat} {a : L} {x : Int} (h : l[k]? = some a) (hv : a.addr = x) : behB l k x = true := by
  obtain ⟨hk, e⟩ := List.getElem?_eq_some_iff.1 h
  exact decide_eq_true ⟨a, by rw [List.drop_eq_getElem_cons hk, e]; exact .head _, hv⟩
theorem beh_no {l : List L} {k : Nat} {a : L} {x : Int} (h : l[k]? = some a) (hv : ¬ a.addr = x) : behB l k x = behB l (k + 1) x := by
  obtain ⟨hk, e⟩ := List.getElem?_eq_some_iff.1 h
  unfold behB
  rw [List.drop_eq_getElem_cons hk, e]
  refine decide_eq_decide.2 ⟨?_, ?_⟩
  · rintro ⟨b, hb, hx⟩
    rcases List.mem_cons.1 hb with rfl | hb
    · exact absurd hx hv
    · exact ⟨b, hb, hx⟩
  · rintro ⟨b, hb, hx⟩
    exact ⟨b, .tail _ hb, hx⟩
theorem beh_end {l : List L} {k : Nat} (x : Int) (h : l.length ≤ k) : behB l k x = false := by
  unfold behB
  rw [List.drop_of_length_le h]
  exact decide_eq_false (by rintro ⟨b, hb, _⟩; cases hb)
/-! ### Last -/
theorem uniq_put {l : List L} {k : Nat} {a : L} (h : l[k]? = some a) {ks : List L} (hk : ks ++ uniqL (l.drop k) = uniqL l) (hb : behB l (k + 1) a.addr = false) : (ks ++ [a]) ++ uniqL (l.drop (k + 1)) = uniqL l := by
  obtain ⟨hlt, e⟩ := List.getElem?_eq_some_iff.1 h
  rw [← hk, List.drop_eq_getElem_cons hlt, e, uniqL, if_pos, List.append_assoc]
  · rfl
  · intro b hb2 hx
    have := of_decide_eq_false hb
    exact this ⟨b, hb2, hx⟩
theorem uniq_skip {l : List L} {k : Nat} {a : L} (h : l[k]? = some a) {ks : List L} (hk : ks ++ uniqL (l.drop k) = uniqL l) (hb : behB l (k + 1) a.addr = true) : ks ++ uniqL (l.drop (k + 1)) = uniqL l := by
  obtain ⟨hlt, e⟩ := List.getElem?_eq_some_iff.1 h
  rw [← hk, List.drop_eq_getElem_cons hlt, e, uniqL, if_neg]
  intro hall
  obtain ⟨b, hb2, hx⟩ := of_decide_eq_true hb
  exact hall b hb2 hx
theorem best_lt {l : List L} {n : Nat} (h : n < l.length) : bestL l n < l.length := Nat.lt_of_le_of_lt (best_le l n) h
theorem best_all {l : List L} {n : Nat} (h : n + 1 = l.length) {a : L} (ha : l[bestL l n]? = some a) : ∀ b ∈ l, a.addr ≤ b.addr := by
  intro b hb
  obtain ⟨i, hi, rfl⟩ := List.mem_iff_getElem.1 hb
  have := best_least l n i (by omega)
  rw [List.getD_eq_getElem?_getD, List.getD_eq_getElem?_getD, ha, List.getElem?_eq_getElem hi] at this
  exact this
theorem best_more {l : List L} {k : Nat} {x y : L} (hx : l[k + 1]? = some x) (hy : l[bestL l k]? = some y) (hv : x.addr < y.addr) : bestL l (k + 1) = k + 1 := by
  rw [bestL, if_pos]
  rw [List.getD_eq_getElem?_getD, List.getD_eq_getElem?_getD, hx, hy]
  exact hv
theorem best_same {l : List L} {k : Nat} {x y : L} (hx : l[k + 1]? = some x) (hy : l[bestL l k]? = some y) (hv : ¬ x.addr < y.addr) : bestL l (k + 1) = bestL l k := by
  rw [bestL, if_neg]
  rw [List.getD_eq_getElem?_getD, List.getD_eq_getElem?_getD, hx, hy]
  exact hv
/-- The row that is grown and the row that is left: the one's block is older than the other's. -/
structure Two2 (w wr : World) (A1 A2 : Option Addr) (c1 c2 : Nat) (lf o : List L) : Prop where
  b : Below w.heap.size w wr
  out : OwnLs w.heap.size wr A2 o.length c2 o
  left : ∃ B, OwnLs B wr A1 lf.length c1 lf ∧ B ≤ wr.heap.size ∧ ∀ g, A2 = some ⟨g, 0, none⟩ → g < B
theorem Two2.below {w wr w' : World} {A1 A2 : Option Addr} {c1 c2 : Nat} {lf o : List L} (h : Two2 w wr A1 A2 c1 c2 lf o) (hb : Below wr.heap.size wr w') : Two2 w w' A1 A2 c1 c2 lf o := by
  obtain ⟨B, h1, h2, h3⟩ := h.left
  exact ⟨h.b.trans (hb.mono h.b.size), h.out.below hb, B, h1.below hb, Nat.le_trans h2 hb.size, h3⟩
theorem own_cases2 {B n c : Nat} {w : World} {A : Option Addr} {l : List L} (h : OwnLs B w A n c l) : (A = none ∧ n = 0) ∨ ∃ g, A = some ⟨g, 0, none⟩ := by
  rcases h.1.2 with ⟨h', _⟩ | ⟨g, cap, cur, h', _⟩
  · simp only [Value.slice.injEq] at h'
    exact .inl ⟨h'.1, h'.2.1⟩
  · simp only [Value.slice.injEq, true_and] at h'
    exact .inr ⟨g, h'.1⟩
theorem own_ge {B n c g : Nat} {w : World} {A : Option Addr} {l : List L} (h : OwnLs B w A n c l) (hA : A = some ⟨g, 0, none⟩) : B ≤ g := by
  subst hA
  exact (own_lt h).2
theorem rd_apart {B n c : Nat} {w w' : World} {A : Option Addr} {l : List L} {row : Option Nat} (h : OwnLs B w A n c l) (hg : w.grownBy w' row) (hne : ∀ g, A = some ⟨g, 0, none⟩ → row ≠ some g) : RdLs w.heap.size w' A n c l := by
  have hr := h.rd
  refine ⟨hr.1, hr.2.1, hr.2.2.1, fun h0 => ?_⟩
  obtain ⟨b, o, e, hb, hc⟩ := hr.2.2.2 h0
  refine ⟨b, o, e, hb, fun i hi => ?_⟩
  have hbl : w'.heap[b]? = w.heap[b]? := hg.block b hb fun k => by
    rcases own_cases2 h with ⟨rfl, _⟩ | ⟨g, rfl⟩
    · cases e
    · cases e
      exact hne b rfl k.symm
  have := hc i hi
  simp only [World.cell?, hbl] at *
  exact this
theorem below_grownBy {B : Nat} {w w' : World} {row : Option Nat} (hg : w.grownBy w' row) (hB : B ≤ w.heap.size) (hr : ∀ k, row = some k → B ≤ k) : Below B w w' := (Below.refl _ _).grown hg hB hr
/-! ### great -/
theorem take_nextL {α : Type} {l : List α} {k : Nat} {a : α} (h : l[k]? = some a) : l.take (k + 1) = l.take k ++ [a] := by
  obtain ⟨hk, e⟩ := List.getElem?_eq_some_iff.1 h
  rw [List.take_succ_eq_append_getElem hk, e]
def greatL (l : List L) : Bool := decide (∃ a ∈ l, 1000 < a.key.length) || decide (200 < l.length)
theorem small_of {l : List L} (h : greatL l = false) : l.length ≤ 200 ∧ ∀ a ∈ l, a.key.length ≤ 1000 := by
  unfold greatL at h
  obtain ⟨h1, h2⟩ := Bool.or_eq_false_iff.1 h
  have h1 := of_decide_eq_false h1
  have h2 := of_decide_eq_false h2
  exact ⟨by omega, fun a ha => by
    rcases Nat.lt_or_ge 1000 a.key.length with k | k
    · exact absurd ⟨a, ha, k⟩ h1
    · exact k⟩
end Go.Proofs.YtpdjdaoclpeffaaGreat.Lw
end
