/- Words for leases by value, and which leases are right: what record's rightState and Right, and the document's own Right, come to. For all leases whose keys fit. -/
import Derived.Test.YtoldppbakapohaaGreatDoorMathA
import Derived.Test.YtoldppbakapohaaGreatDoorKitA
import Derived.Laws.StructEq
import Derived.Deep.QuietTactic
import Derived.BigQuiet
import Derived.Deep.LoopGhost
import Derived.Deep.RegionLaw
import Derived.Deep.CutRange
section
set_option maxRecDepth 8000
namespace Go.Proofs.YtoldppbakapohaaGreatDoor.Ew
open Go.RowKit Co By Ky Rc
open Dw (ba ba_size ba_data ba_list)

/-- A lease by value. -/
@[reducible] def lv (l : L) : Value := .agg #[.int .i64 l.addr, .int .i64 l.state, .int .i64 l.till, .string (ba l.key)]
@[reducible] def lcs (l : L) : Array Value := #[.int .i64 l.addr, .int .i64 l.state, .int .i64 l.till, .string (ba l.key)]
/-- A lease's key is a string that fits. -/
def Fk (l : L) : Prop := l.key.length ≤ 9223372036854775807
theorem keyRight_any (k : List UInt8) (w : World) (hs : k.length ≤ 9223372036854775807) :
    Calls Tryz.prog 110 #[.string (ba k)] w fun e w' => e = .returned (.bool (rightK k)) ∧ w = w' := Kw.right_any (ba k) w hs
theorem refKeyRight_any (k : List UInt8) (w : World) (hs : k.length ≤ 9223372036854775807) :
    Calls Tryz.prog 67 #[.string (ba k)] w fun e w' => e = .returned (.bool (rightK k)) ∧ w = w' := Kw.refRight_any (ba k) w hs
def stB (s : Int) : Bool := decide (1 ≤ s ∧ s ≤ 3)
theorem rightState_any (s : Int) (w : World) :
    Calls Tryz.prog 109 #[.int .i64 s] w fun e w' => e = .returned (.bool (stB s)) ∧ w = w' := by
  have H : Hid (stB s = decide (1 ≤ s ∧ s ≤ 3)) := rfl
  by_cases h1 : s = 1
  · subst h1
    go_enter Tryz.func109, Tryz.ntmps109
    go_wp2
    go_ret
    exact ⟨rfl, rfl⟩
  by_cases h2 : s = 2
  · subst h2
    go_enter Tryz.func109, Tryz.ntmps109
    go_wp2
    go_ret
    exact ⟨rfl, rfl⟩
  by_cases h3 : s = 3
  · subst h3
    go_enter Tryz.func109, Tryz.ntmps109
    go_wp2
    go_ret
    exact ⟨rfl, rfl⟩
  have b1 : (s == 1) = false := by simpa using h1
  have b2 : (s == 2) = false := by simpa using h2
  have b3 : (s == 3) = false := by simpa using h3
  have HF : Hid (stB s = false) := by show _ = _; rw [H.out]; exact decide_eq_false (by omega)
  clear h1 h2 h3 H
  go_enter Tryz.func109, Tryz.ntmps109
  go_wp2
  go_ret
  exact ⟨ret_bool HF.out.symm, rfl⟩
theorem rightR_iff (l : L) : rightR l = (Ad.rightB l.addr && stB l.state && decide (0 ≤ l.till) && decide (l.till ≤ 1125899906842624) && rightK l.key) := by
  rw [Bool.eq_iff_iff, show rightR l = true ↔ RightR l from decide_eq_true_iff]
  unfold RightR stB
  simp only [Bool.and_eq_true, decide_eq_true_eq, Ad.rightB_iff]
  constructor
  · rintro ⟨a, b, ⟨c, d⟩, e⟩
    exact ⟨⟨⟨⟨a, b⟩, c⟩, d⟩, e⟩
  · rintro ⟨⟨⟨⟨a, b⟩, c⟩, d⟩, e⟩
    exact ⟨a, b, ⟨c, d⟩, e⟩
end Go.Proofs.YtoldppbakapohaaGreatDoor.Ew
end
/- What record's Right and the document's Right come to. For all leases whose keys fit. -/
section
set_option maxRecDepth 8000
namespace Go.Proofs.YtoldppbakapohaaGreatDoor.Ew
open Go.RowKit Co By Ky Rc
open Dw (ba ba_size ba_data ba_list)

set_option maxHeartbeats 1000000 in
theorem right_parts (a s t : Int) (k : List UInt8) (w : World) (hk : k.length ≤ 9223372036854775807) :
    Calls Tryz.prog 62 #[.agg #[.int .i64 a, .int .i64 s, .int .i64 t, .string (ba k)]] w fun e w' => e = .returned (.bool (rightR ⟨a, s, t, k⟩)) ∧ Below w.heap.size w w' := by
  have H := Lib.hid (rightR_iff ⟨a, s, t, k⟩)
  have hb : ∀ x, Below w.heap.size w (w.alloc x) := fun x => (Below.refl _ _).alloc (Nat.le_refl _) _
  have HA := Lib.hid (fun W => Aw.right_any a W)
  have HS := Lib.hid (fun W => rightState_any s W)
  have HK := Lib.hid (fun W => keyRight_any k W hk)
  simp only at H
  generalize Ad.rightB a = b1 at H HA
  generalize stB s = b2 at H HS
  generalize rightK k = b5 at H HK
  cases b1 with
  | false =>
    go_enter Tryz.func62, Tryz.ntmps62
    go_wp2_with fail
    refine (HA.out _).mono ?_
    rintro e w1 ⟨rfl, rfl⟩
    go_wp2
    go_ret
    exact ⟨ret_bool (by rw [H.out]; rfl), hb _⟩
  | true =>
  cases b2 with
  | false =>
    go_enter Tryz.func62, Tryz.ntmps62
    go_wp2_with fail
    refine (HA.out _).mono ?_
    rintro e w1 ⟨rfl, rfl⟩
    go_wp2_with fail
    refine (HS.out _).mono ?_
    rintro e w1 ⟨rfl, rfl⟩
    go_wp2
    go_ret
    exact ⟨ret_bool (by rw [H.out]; rfl), hb _⟩
  | true =>
  by_cases t0 : 0 ≤ t
  rotate_left
  · have d0 : decide (0 ≤ t) = false := decide_eq_false t0
    have HF : Hid (rightR ⟨a, s, t, k⟩ = false) := by show _ = _; rw [H.out, d0]; rfl
    clear d0 H
    go_enter Tryz.func62, Tryz.ntmps62
    go_wp2_with fail
    refine (HA.out _).mono ?_
    rintro e w1 ⟨rfl, rfl⟩
    go_wp2_with fail
    refine (HS.out _).mono ?_
    rintro e w1 ⟨rfl, rfl⟩
    go_wp2
    go_ret
    exact ⟨ret_bool HF.out.symm, hb _⟩
  by_cases t1 : t ≤ 1125899906842624
  rotate_left
  · have d0 : decide (t ≤ 1125899906842624) = false := decide_eq_false t1
    have HF : Hid (rightR ⟨a, s, t, k⟩ = false) := by show _ = _; rw [H.out, d0]; simp
    clear d0 H
    go_enter Tryz.func62, Tryz.ntmps62
    go_wp2_with fail
    refine (HA.out _).mono ?_
    rintro e w1 ⟨rfl, rfl⟩
    go_wp2_with fail
    refine (HS.out _).mono ?_
    rintro e w1 ⟨rfl, rfl⟩
    go_wp2
    go_ret
    exact ⟨ret_bool HF.out.symm, hb _⟩
  have HF : Hid (rightR ⟨a, s, t, k⟩ = b5) := by show _ = _; rw [H.out, decide_eq_true t0, decide_eq_true t1]; simp
  clear H
  go_enter Tryz.func62, Tryz.ntmps62
  go_wp2_with fail
  refine (HA.out _).mono ?_
  rintro e w1 ⟨rfl, rfl⟩
  go_wp2_with fail
  refine (HS.out _).mono ?_
  rintro e w1 ⟨rfl, rfl⟩
  go_wp2_with fail
  refine (HK.out _).mono ?_
  rintro e w1 ⟨rfl, rfl⟩
  go_wp2
  go_ret
  exact ⟨ret_bool HF.out.symm, hb _⟩
theorem right_any (l : L) (w : World) (hk : Fk l) :
    Calls Tryz.prog 62 #[lv l] w fun e w' => e = .returned (.bool (rightR l)) ∧ Below w.heap.size w w' := right_parts l.addr l.state l.till l.key w hk

set_option maxHeartbeats 2000000 in
theorem refRight_parts (a s t : Int) (k : List UInt8) (w : World) (hk : k.length ≤ 9223372036854775807) :
    Calls Tryz.prog 30 #[.agg #[.int .i64 a, .int .i64 s, .int .i64 t, .string (ba k)]] w fun e w' => e = .returned (.bool (rightR ⟨a, s, t, k⟩)) ∧ Below w.heap.size w w' := by
  have H := Lib.hid (rightR_iff ⟨a, s, t, k⟩)
  have hb : ∀ x, Below w.heap.size w (w.alloc x) := fun x => (Below.refl _ _).alloc (Nat.le_refl _) _
  have HA := Lib.hid (fun W => Aw.refRight_any a W)
  have HK := Lib.hid (fun W => refKeyRight_any k W hk)
  simp only at H
  generalize Ad.rightB a = b1 at H HA
  generalize rightK k = b5 at H HK
  cases b1 with
  | false =>
    go_enter Tryz.func30, Tryz.ntmps30
    go_wp2_with fail
    refine (HA.out _).mono ?_
    rintro e w1 ⟨rfl, rfl⟩
    go_wp2
    go_ret
    exact ⟨ret_bool (by rw [H.out]; rfl), hb _⟩
  | true =>
  cases b5 with
  | false =>
    go_enter Tryz.func30, Tryz.ntmps30
    go_wp2_with fail
    refine (HA.out _).mono ?_
    rintro e w1 ⟨rfl, rfl⟩
    go_wp2_with fail
    refine (HK.out _).mono ?_
    rintro e w1 ⟨rfl, rfl⟩
    go_wp2
    go_ret
    exact ⟨ret_bool (by rw [H.out]; simp), hb _⟩
  | true =>
  have HF : Hid (rightR ⟨a, s, t, k⟩ = decide ((1 ≤ s ∧ s ≤ 3) ∧ 0 ≤ t ∧ t ≤ 1125899906842624)) := by
    show _ = _
    rw [H.out, Bool.eq_iff_iff]
    unfold stB
    simp only [Bool.and_eq_true, decide_eq_true_eq, and_true, true_and]
    omega
  clear H
  have hst : s = 1 ∨ s = 2 ∨ s = 3 ∨ ((s == 1) = false ∧ (s == 2) = false ∧ (s == 3) = false) := by
    simp only [beq_eq_false_iff_ne]
    omega
  rcases hst with rfl | rfl | rfl | ⟨b1, b2, b3⟩
  rotate_right
  · have HG : Hid (rightR ⟨a, s, t, k⟩ = false) := by show _ = _; rw [HF.out]; simp only [beq_eq_false_iff_ne] at b1 b2 b3; exact decide_eq_false (by omega)
    clear HF
    go_enter Tryz.func30, Tryz.ntmps30
    go_wp2_with fail
    refine (HA.out _).mono ?_
    rintro e w1 ⟨rfl, rfl⟩
    go_wp2_with fail
    refine (HK.out _).mono ?_
    rintro e w1 ⟨rfl, rfl⟩
    go_wp2
    go_ret
    exact ⟨ret_bool HG.out.symm, hb _⟩
  all_goals
    by_cases t0 : 0 ≤ t
    rotate_left
    · go_enter Tryz.func30, Tryz.ntmps30
      go_wp2_with fail
      refine (HA.out _).mono ?_
      rintro e w1 ⟨rfl, rfl⟩
      go_wp2_with fail
      refine (HK.out _).mono ?_
      rintro e w1 ⟨rfl, rfl⟩
      go_wp2
      go_ret
      exact ⟨ret_bool (by rw [HF.out]; first | (rw [decide_eq_decide]; omega) | exact (decide_eq_false (by omega)).symm), hb _⟩
    by_cases t1 : t ≤ 1125899906842624
    · go_enter Tryz.func30, Tryz.ntmps30
      go_wp2_with fail
      refine (HA.out _).mono ?_
      rintro e w1 ⟨rfl, rfl⟩
      go_wp2_with fail
      refine (HK.out _).mono ?_
      rintro e w1 ⟨rfl, rfl⟩
      go_wp2
      go_ret
      exact ⟨ret_bool (by rw [HF.out]; first | (rw [decide_eq_decide]; omega) | exact (decide_eq_true (by omega)).symm), hb _⟩
    · go_enter Tryz.func30, Tryz.ntmps30
      go_wp2_with fail
      refine (HA.out _).mono ?_
      rintro e w1 ⟨rfl, rfl⟩
      go_wp2_with fail
      refine (HK.out _).mono ?_
      rintro e w1 ⟨rfl, rfl⟩
      go_wp2
      go_ret
      exact ⟨ret_bool (by rw [HF.out]; first | (rw [decide_eq_decide]; omega) | exact (decide_eq_false (by omega)).symm), hb _⟩
theorem refRight_any (l : L) (w : World) (hk : Fk l) :
    Calls Tryz.prog 30 #[lv l] w fun e w' => e = .returned (.bool (rightR l)) ∧ Below w.heap.size w w' := refRight_parts l.addr l.state l.till l.key w hk
end Go.Proofs.YtoldppbakapohaaGreatDoor.Ew
end
/- Words for a lease in a block of its own: its four cells, stores to them, and a call that returns it. -/
section
set_option maxRecDepth 8000
namespace Go.Proofs.YtoldppbakapohaaGreatDoor.Ew
open Go.RowKit Co By Ky Rc
open Dw (ba ba_size ba_data ba_list)

theorem celFr {w : World} {g : Nat} {t : TypeId} {cs : Array Value} (h : Cel w g t cs) (i : Nat) : w.frozen? ⟨g, i, none⟩ = false := by
  unfold Cel at h
  simp [World.frozen?, h]
theorem celPut {w : World} {g : Nat} {t : TypeId} {cs : Array Value} (h : Cel w g t cs) (i : Nat) (v : Value) : Cel (w.setCell ⟨g, i, none⟩ v) g t (cs.setIfInBounds i v) := by
  unfold Cel at *
  rw [setCell_eq_setRow w g i cs t (0, 0) v h]
  exact setRow_heap w g cs _ t _ h
theorem celFr4 {w : World} {g : Nat} {t : TypeId} {cs : Array Value} (h : Cel w g t cs) : w.frozen? ⟨g, 0, none⟩ = false ∧ w.frozen? ⟨g, 1, none⟩ = false ∧ w.frozen? ⟨g, 2, none⟩ = false ∧ w.frozen? ⟨g, 3, none⟩ = false := ⟨celFr h 0, celFr h 1, celFr h 2, celFr h 3⟩
/-- The lease l stored to the block g whole. -/
@[reducible] def put4 (w : World) (g : Nat) (l : L) : World := (((w.setCell ⟨g, 0, none⟩ (.int .i64 l.addr)).setCell ⟨g, 1, none⟩ (.int .i64 l.state)).setCell ⟨g, 2, none⟩ (.int .i64 l.till)).setCell ⟨g, 3, none⟩ (.string (ba l.key))
theorem celPut4 {w : World} {g : Nat} {t : TypeId} {m l : L} (h : Cel w g t (lcs m)) : Cel (put4 w g l) g t (lcs l) := celPut (celPut (celPut (celPut h 0 _) 1 _) 2 _) 3 _
theorem belowPut4 {B : Nat} {v w : World} (h : Below B v w) {g : Nat} (hg : B ≤ g) (l : L) : Below B v (put4 w g l) :=
  (((h.setCell (p := ⟨g, 0, none⟩) hg _).setCell (p := ⟨g, 1, none⟩) hg _).setCell (p := ⟨g, 2, none⟩) hg _).setCell (p := ⟨g, 3, none⟩) hg _
theorem ret_lease2 {fn : Func} {p u : Tmp} (hres : fn.results = #[.cell p 35, .tmp u]) (tmps : Array Value) (w : World) (g : Nat) (l : L) (hp : tmps.getD p undef = .pointer (some ⟨g, 0, none⟩)) (hc : Cel w g 35 (lcs l)) :
    (results fn tmps).run Tryz.prog w = .ok (.tuple #[lv l, tmps.getD u undef]) w := by
  rw [results_cell_tmp hres, hp]
  have := run_loadVar_row (P := Tryz.prog) w g 35 35 (lcs l) (0, 0) _ hc Tryz.underlying35 rfl (by kernel_rfl)
  simp [asAddr, this]
end Go.Proofs.YtoldppbakapohaaGreatDoor.Ew
end
/- Words for slices of leases. No conditions but those that each theorem names. -/
section
set_option maxRecDepth 8000
namespace Go.Proofs.YtoldppbakapohaaGreatDoor.Jw
open Go.RowKit Co By Ky Rc Ew
open Dw (ba ba_size ba_data ba_list)

/-! ### Leases -/
def layL : Lay L := ⟨4, fun l => [.int .i64 l.addr, .int .i64 l.state, .int .i64 l.till, .string (ba l.key)], fun _ => rfl, fun l u hu => by
  simp only [List.mem_cons, List.not_mem_nil, or_false] at hu
  rcases hu with rfl | rfl | rfl | rfl <;> rfl⟩
abbrev RdLs (U : Nat) (w : World) (A : Option Addr) (n c : Nat) (l : List L) : Prop := RdG layL U w A n c l
abbrev OwnLs (B : Nat) (w : World) (A : Option Addr) (n c : Nat) (l : List L) : Prop := OwnG layL 35 B w A n c l
theorem lesP : RgP Tryz.prog 25 35 layL (.agg #[.int .i64 0, .int .i64 0, .int .i64 0, .string ⟨#[]⟩]) 40 := ⟨Tryz.underlying25, by kernel_rfl⟩
/-- One lease of a slice that reads. -/
theorem atL {U : Nat} {w : World} {A : Option Addr} {n c : Nat} {l : List L} (h : RdLs U w A n c l) {k : Nat} (hk : k < n) : ∃ b o a, A = some ⟨b, o, none⟩ ∧ b < U ∧ Hid (l[k]? = some a) ∧
    w.cell? ⟨b, o + k * 4, none⟩ = some (.int .i64 a.addr) ∧ w.cell? ⟨b, o + k * 4 + 1, none⟩ = some (.int .i64 a.state) ∧ w.cell? ⟨b, o + k * 4 + 2, none⟩ = some (.int .i64 a.till) ∧ w.cell? ⟨b, o + k * 4 + 3, none⟩ = some (.string (ba a.key)) := by
  obtain ⟨b, o, e, hU, a, hl, hc⟩ := h.at_ hk
  exact ⟨b, o, a, e, hU, hl, hc 0 _ rfl, hc 1 _ rfl, hc 2 _ rfl, hc 3 _ rfl⟩
/-- A literal of one lease. -/
theorem litL (w : World) (l : L) : RdLs (w.heap.size + 1) (w.alloc (.cells (lcs l) 35)) (some ⟨w.heap.size, 0, none⟩) 1 1 [l] := by
  have := (OwnG.lit (Y := layL) 35 w [l] (by simp)).rd
  have e : (w.alloc (.cells (layL.cells [l]).toArray 35)).heap.size = w.heap.size + 1 := by simp
  rw [e, layL.cells_one] at this
  exact this
end Go.Proofs.YtoldppbakapohaaGreatDoor.Jw
end
/- A row of leases that the call owns; slices.Clone. For rows of less than a million leases. -/
section
set_option maxRecDepth 8000
namespace Go.Proofs.YtoldppbakapohaaGreatDoor.Lw
open Go.RowKit Go.Lib Co By Ky Rc Ew Jw
open Dw (ba ba_size ba_data ba_list alloc_more)

/-- A slice of the call's own that holds the leases l. -/
def OwL (B : Nat) (w : World) (l : List L) (e : Ending) (w' : World) : Prop := ∃ A' k c', e = .returned (.slice A' k c') ∧ OwnLs B w' A' k c' l ∧ Below B w w'
end Go.Proofs.YtoldppbakapohaaGreatDoor.Lw
end
/- What the document's SameLeases comes to: at lists that are alike, at lists of different lengths, and that it answers at any two. -/
section
set_option maxRecDepth 8000
namespace Go.Proofs.YtoldppbakapohaaGreatDoor.Jw
open Go.RowKit Co By Ky Rc Ew
open Dw (ba ba_size ba_data ba_list)

def isB (b : Bool) (w : World) (e : Ending) (w' : World) : Prop := e = .returned (.bool b) ∧ Below w.heap.size w w'
end Go.Proofs.YtoldppbakapohaaGreatDoor.Jw
end
/- What the document's Last comes to: whether one of the address stands behind, those with none behind them, and the least of them one by one; and what the law's own 'great' tells. For rows of less than 100000 leases. -/
section
set_option maxRecDepth 8000
namespace Go.Proofs.YtoldppbakapohaaGreatDoor.Lw
open Go.RowKit Co By Ky Rc Ew Jw La
open Dw (ba ba_size ba_data ba_list alloc_more)

/-! ### behind -/
/-! ### Last -/
/-! ### great -/
theorem take_nextL {α : Type} {l : List α} {k : Nat} {a : α} (h : l[k]? = some a) : l.take (k + 1) = l.take k ++ [a] := by
  obtain ⟨hk, e⟩ := List.getElem?_eq_some_iff.1 h
  rw [List.take_succ_eq_append_getElem hk, e]
def greatL (l : List L) : Bool := decide (∃ a ∈ l, 1000 < a.key.length) || decide (200 < l.length)
end Go.Proofs.YtoldppbakapohaaGreatDoor.Lw
end
