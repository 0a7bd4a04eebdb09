/- What the document's Parts, Bytes and Link come to. Conditions: for Bytes, 100000 options at most. -/
import Derived.Test.YtfdlhfindcngeaaRwBytes
import Derived.Test.YtfdlhfindcngeaaRwLink
import Derived.Deep.RegionLaw
namespace Go.Proofs.Ytfdlhfindcngeaa.By
open Go.RowKit Tl
section
variable {P : Program} {T e S : TypeId} {w : World} {A : Option Addr} {n c : Nat}
/-- 'append' of options as a step of a region that draws its order. -/
theorem step_appO {ps : List Po} (hp : OpP P T e) {ops : Array Oper} {o : Oper} {a : Act} {K : Act → World → Prop} {Q : Exit → Act → World → Prop} {E : Prop} (hgd : o.guard = none) (s x : Operand)
    (ho : o.op = .call { callee := .builtin .append, args := #[s, x], argTypes := #[T, T] }) {B : Nat} (hs : a.eval s = .slice A n c) (hown : OwnC e B w A n c ps)
    {A2 : Option Addr} {m c2 : Nat} {qs : List Po} (hx : a.eval x = .slice A2 m c2) (h2 : RdC w A2 m c2 (cellsP qs)) (hb : (n + m) * 32 ≤ 140737488355328) (hB : B ≤ w.heap.size)
    (h : ∀ A' c' w', OwnC e B w' A' (n + m) c' (ps ++ qs) → Below B w w' → w.grownBy w' (Value.slice A n c).ownBlock → K (a.put o.dst (.slice A' (n + m) c')) w') :
    if Region.wanted o (yielded ops a.tmps) = true then Oper.wp P o a w K Q else E := by
  have hw : Region.wanted o (yielded ops a.tmps) = true := by simp [Region.wanted, hgd]
  rw [if_pos hw]
  exact wp_appO hp s x ho hs hown hx h2 hb hB h
/-- 'append' of bytes as a step of a region that draws its order. -/
theorem step_appB {l : List UInt8} (hp : ByP P T e S) {ops : Array Oper} {o : Oper} {a : Act} {K : Act → World → Prop} {Q : Exit → Act → World → Prop} {E : Prop} (hgd : o.guard = none) (s x : Operand)
    (ho : o.op = .call { callee := .builtin .append, args := #[s, x], argTypes := #[T, T] }) {B : Nat} (hs : a.eval s = .slice A n c) (hown : Own e B w A n c l)
    {A2 : Option Addr} {m c2 : Nat} {l2 : List UInt8} (hx : a.eval x = .slice A2 m c2) (h2 : Bs w A2 m c2 l2) (hb : n + m ≤ 140737488355328) (hB : B ≤ w.heap.size)
    (h : ∀ A' c' w', Own e B w' A' (n + m) c' (l ++ l2) → Below B w w' → K (a.put o.dst (.slice A' (n + m) c')) w') :
    if Region.wanted o (yielded ops a.tmps) = true then Oper.wp P o a w K Q else E := by
  have hw : Region.wanted o (yielded ops a.tmps) = true := by simp [Region.wanted, hgd]
  rw [if_pos hw]
  exact wp_app hp s x ho hs hown hx h2 hb hB fun A' c' w' h1 h2 _ _ => h A' c' w' h1 h2
end
end Go.Proofs.Ytfdlhfindcngeaa.By
namespace Go.Proofs.Ytfdlhfindcngeaa.Rw
open Go.RowKit Tl Co By Ry

/-- What the loop of the document's Parts holds. -/
def StQ (w : World) (l : List UInt8) (N : Nat) (R : List O × Int) (v i : Value) (wr : World) : Prop :=
  ∃ k A n c ps, k ≤ N ∧ i = .int .i64 (k : Nat) ∧ v = .slice A n c ∧ OwnC 42 w.heap.size wr A n c ps ∧ (∀ p ∈ ps, BsU w.heap.size wr p.A p.l.length p.c p.l) ∧ 2 * n ≤ k ∧ goL (osP ps) (l.drop k) = R ∧ Below w.heap.size w wr

set_option maxRecDepth 8000 in
set_option maxHeartbeats 4000000 in
theorem refParts_any (A : Option Addr) (n c : Nat) (l : List UInt8) (w : World) (h : Bs w A n c l) :
    Calls Try.prog 11 #[.slice A n c] w (PtR w (partsR l)) := by
  have HL := Lib.hid h.len
  have hcap := h.cap
  have hmax := h.max
  by_cases h6 : 600 < n
  · have H : Hid (partsR l = ([], 3)) := partsR_long (by rw [HL.out]; exact h6)
    go_enter Try.func11, Try.ntmps11
    go_wp2
    go_ret2
    exact PtR.err H.out (Below.refl _ _)
  have H0 : Hid (goL [] l = partsR l) := (go_start (by rw [HL.out]; exact h6)).symm
  have h6' : n ≤ 600 := by omega
  have h0 := h.upto
  clear h6 h
  go_enter Try.func11, Try.ntmps11
  go_wp2
  go_loopw [4, 5] (fun v i wr => StQ w l n (partsR l) v i wr) (fun _ i _ => n - (intOf i).toNat)
  case atStart => exact ⟨0, none, 0, 0, [], by omega, rfl, rfl, OwnC.nil _ _ _, (fun p hp => by cases hp), by omega, H0.out, Below.refl _ _⟩
  case round =>
    obtain ⟨k, A2, n2, c2, ps, hk, rfl, rfl, hown, hdat, hn2, hR, hb⟩ := hrel
    have HR := Lib.hid hR
    have HDT := Lib.hid hdat
    clear hR hdat
    have hsz := hb.size
    have hbs := h0.below hb
    by_cases hlt : k < n
    rotate_left
    · obtain rfl : k = n := by omega
      have H : Hid (partsR l = (osP ps, 0)) := by
        rw [← HR.out, List.drop_eq_nil_of_le (by rw [HL.out]; exact Nat.le_refl _)]
        exact go_nil _
      go_wp2
      go_ret2
      exact PtR.good H.out (rd_of hown HDT.out) hb
    obtain ⟨b, o, rfl, hc⟩ := hbs.1.at_ hlt
    have hkl : k < l.length := by rw [HL.out]; exact hlt
    have hcell := hc k hkl
    have HDr := Lib.hid (List.drop_eq_getElem_cons hkl)
    obtain ⟨y, hy⟩ : ∃ y, l[k] = y := ⟨_, rfl⟩
    rw [hy] at hcell HDr
    have HC := Lib.hid hc
    clear hc hy hkl
    have hyl := y.toNat_lt
    by_cases hlt2 : k + 1 < n
    rotate_left
    · have H : Hid (partsR l = ([], 2)) := by
        rw [← HR.out, HDr.out, List.drop_eq_nil_of_le (by rw [HL.out]; omega)]
        exact go_lone _ _
      obtain rfl : n = k + 1 := by omega
      generalize y.toNat = u at hcell hyl
      go_wp2
      go_ret2
      exact PtR.err H.out hb
    have hkl2 : k + 1 < l.length := by rw [HL.out]; exact hlt2
    have hcell1 := HC.out (k + 1) hkl2
    have HDr2 := Lib.hid (List.drop_eq_getElem_cons hkl2)
    obtain ⟨z, hz⟩ : ∃ z, l[k + 1] = z := ⟨_, rfl⟩
    rw [hz] at hcell1 HDr2
    have hrl : (l.drop (k + 1 + 1)).length = n - (k + 2) := by rw [List.length_drop, HL.out]
    have hzl := z.toNat_lt
    have hne : ((k : Int) + 1 == (n : Int)) = false := by simp; omega
    clear hz hkl2
    by_cases hsh : n < k + 2 + z.toNat
    · have H : Hid (partsR l = ([], 2)) := by
        rw [← HR.out, HDr.out, HDr2.out]
        exact go_short _ (by rw [hrl]; omega)
      clear hrl
      generalize y.toNat = u at hcell hyl
      generalize z.toNat = m at hcell1 hzl hsh
      go_wp2
      go_ret2
      exact PtR.err H.out hb
    have H : Hid (goL (osP ps ++ [((y.toNat : Int), (l.drop (k + 2)).take z.toNat)]) (l.drop (k + 2 + z.toNat)) = partsR l) := by
      have e := go_step (osP ps) (c := y) (n := z) (r := l.drop (k + 1 + 1)) (by rw [hrl]; omega)
      rw [List.drop_drop] at e
      show goL (osP ps ++ [((y.toNat : Int), (l.drop (k + 1 + 1)).take z.toNat)]) (l.drop (k + 1 + 1 + z.toNat)) = partsR l
      rw [← e, ← HR.out, HDr.out, HDr2.out]
    obtain ⟨D, hD, hrun⟩ := byP.cutU_lh hbs (k + 2) (k + 2 + z.toNat) ((k : Int) + 2) ((k : Int) + 2 + (z.toNat : Int)) (by omega) (by omega) (by omega) (by omega)
    rw [show k + 2 + z.toNat - (k + 2) = z.toNat by omega] at hD hrun
    clear hrl
    generalize y.toNat = u at hcell hyl H
    generalize z.toNat = m at hcell1 hzl hsh H hD hrun
    have hba : Below wr.heap.size wr (wr.alloc (Obj.cells #[Value.int IntKind.i64 (u : Int), Value.slice D m (c - (k + 2))] 42)).drew := ((Below.refl _ _).alloc (Nat.le_refl _) _).drew
    have hlit : RdC (wr.alloc (Obj.cells #[Value.int IntKind.i64 (u : Int), Value.slice D m (c - (k + 2))] 42)).drew (some ⟨wr.heap.size, 0, none⟩) 1 1 (cellsP [⟨(u : Int), D, c - (k + 2), (l.drop (k + 2)).take m⟩]) :=
      (OwnC.lit1m 42 wr (u : Int) D m (c - (k + 2)) ((l.drop (k + 2)).take m) hD.len).rdc
    have howna := hown.below hba
    have hszb : w.heap.size ≤ (wr.alloc (Obj.cells #[Value.int IntKind.i64 (u : Int), Value.slice D m (c - (k + 2))] 42)).drew.heap.size := Nat.le_trans hsz hba.size
    have hba' : Below w.heap.size wr (wr.alloc (Obj.cells #[Value.int IntKind.i64 (u : Int), Value.slice D m (c - (k + 2))] 42)).drew := hba.mono hsz
    have hi1 : (0 : Int) ≤ (k : Int) := by omega
    have hi2 : (k : Int) < (n : Int) := by omega
    clear hown hba hbs
    have hw1 : IntKind.i64.wrap ((k : Int) + 2) = (k : Int) + 2 := IntWalk.i64_in _ (by omega)
    have hw2 : IntKind.i64.wrap ((k : Int) + 2 + (m : Int)) = (k : Int) + 2 + (m : Int) := IntWalk.i64_in _ (by omega)
    have hw0 : IntKind.i64.wrap (u : Int) = (u : Int) := IntWalk.i64_in _ (by omega)
    have HW0 := Lib.hid hw0
    have HW1 := Lib.hid hw1
    have HW2 := Lib.hid hw2
    have hb600 : (n2 + 1) * 32 ≤ 140737488355328 := by omega
    clear hw0 hw1 hw2
    go_wp2_with fail
    have hw0 := HW0.out
    have hw1 := HW1.out
    have hw2 := HW2.out
    go_region_law (refine step_appO Tw.opP (by rfl) (.tmp 39) (.tmp 54) (by rfl) (by rfl) howna (by rfl) hlit hb600 hszb ?_; intro A3 c3 w3 hown3 hb3 _)
    all_goals
      clear hw0 hw1 hw2
      have hb13 : Below w.heap.size wr w3 := hba'.trans hb3
      go_wp2
      go_roundw
      case rel => exact ⟨k + 2 + m, A3, n2 + 1, c3, ps ++ [⟨(u : Int), D, c - (k + 2), (l.drop (k + 2)).take m⟩], by omega, by go_num, rfl, hown3, data_more HDT.out hD hb13, by omega, by rw [os_app]; exact H.out, hb.trans hb13⟩
      case measure => simp [intOf]; omega
end Go.Proofs.Ytfdlhfindcngeaa.Rw
