/- How pick reads the four places that a message may tell, and the first of them that counts. Condition: the options' data are no longer than 1000 bytes (boarderlaw04's Great is false). -/
import Derived.Test.YtehanbmnkoebcaaMathA
import Derived.Test.YtehanbmnkoebcaaRwA
import Derived.Test.YtehanbmnkoebcaaOwLeaf
import Derived.Test.YtehanbmnkoebcaaMwA
import Derived.BigQuiet
set_option maxRecDepth 8000
namespace Go.Proofs.Ytehanbmnkoebcaa.Pk
open Tl Co Ms Ry Cf Ad
theorem link_nil : linkR [] = none := by rfl
/-- What the k-th of the four tells, and whether the address 0 is one there. -/
def altR (m : M) : Nat → Int × Bool
  | 0 => (((linkM m).getD 0 : Nat), (linkM m).isSome)
  | 1 => (m.gi, true)
  | 2 => (((numM m).getD 0 : Nat), (numM m).isSome)
  | _ => (m.ci, true)
def altZ : Nat → Bool
  | 0 => true
  | _ => false
def altB (m : M) (k : Nat) : Bool := (altR m k).2 && (decide ((altR m k).1 ≠ 0) || altZ k)
theorem alt_0 {m : M} (h : altB m 0 = false) : linkM m = none := by
  cases hl : linkM m with
  | none => rfl
  | some a => simp [altB, altR, altZ, hl] at h
theorem alt_1 {m : M} (h : altB m 1 = false) : m.gi = 0 := by simpa [altB, altR, altZ] using h
theorem alt_2 {m : M} (h : altB m 2 = false) : numM m = none ∨ numM m = some 0 := by
  cases hl : numM m with
  | none => exact .inl rfl
  | some a =>
    simp [altB, altR, altZ, hl] at h
    subst h
    exact .inr rfl
theorem place_never {m : M} (h : ∀ j, j < 4 → altB m j = false) : placeM m = (0, false) := by
  have h3 := h 3 (by omega)
  have hc : m.ci = 0 := by simpa [altB, altR, altZ] using h3
  rw [place_ci (alt_0 (h 0 (by omega))) (alt_1 (h 1 (by omega))) (alt_2 (h 2 (by omega))), hc]
  rfl
theorem place_at {m : M} : ∀ {k : Nat}, k < 4 → (∀ j, j < k → altB m j = false) → altB m k = true → placeM m = ((altR m k).1, true)
  | 0, _, _, h => by
    cases hl : linkM m with
    | none => simp [altB, altR, hl] at h
    | some a => rw [place_link hl]; simp [altR, hl]
  | 1, _, hE, h => by
    have hg : m.gi ≠ 0 := by simpa [altB, altR, altZ] using h
    rw [place_gi (alt_0 (hE 0 (by omega))) hg]
    rfl
  | 2, _, hE, h => by
    cases hl : numM m with
    | none => simp [altB, altR, hl] at h
    | some a =>
      have ha : a ≠ 0 := by simpa [altB, altR, altZ, hl] using h
      rw [place_num (alt_0 (hE 0 (by omega))) (alt_1 (hE 1 (by omega))) hl ha]
      simp [altR, hl]
  | 3, _, hE, h => by
    have hg : m.ci ≠ 0 := by simpa [altB, altR, altZ] using h
    rw [place_ci (alt_0 (hE 0 (by omega))) (alt_1 (hE 1 (by omega))) (alt_2 (hE 2 (by omega)))]
    simp [altR, hg]
theorem alt_next {m : M} {k : Nat} (hE : ∀ j, j < k → altB m j = false) (h : altB m k = false) : ∀ j, j < k + 1 → altB m j = false := fun j hj => by
  rcases Nat.lt_or_ge j k with q | q
  · exact hE j q
  · obtain rfl : j = k := by omega
    exact h
end Go.Proofs.Ytehanbmnkoebcaa.Pk
namespace Go.Proofs.Ytehanbmnkoebcaa.Pw
open Go.RowKit Tl Co Ms Ry Cf Ad By Pk
theorem alloc_more (w : World) (o : Obj) : Below w.heap.size w (w.alloc o) := (Below.refl _ _).alloc (Nat.le_refl _) _
/-- An address, and whether there is one. -/
def PlR (t : Int × Bool) (w : World) (e : Ending) (w' : World) : Prop := e = .returned (.tuple #[.int .i64 t.1, .bool t.2]) ∧ Below w.heap.size w w'
theorem small_ps {ps : List Po} (h : Tw.greatL (osP ps) = false) : ∀ p ∈ ps, p.l.length ≤ 1000 := fun p hp => by
  unfold Tw.greatL at h
  rw [Bool.or_eq_false_iff, List.any_eq_false] at h
  have := h.1 p.o (os_mem hp)
  simp only [decide_eq_true_eq] at this
  have h2 : p.o.2.length = p.l.length := rfl
  omega
theorem small_ms {x : Mv} (h : Mw.greatM x.mm = false) : ∀ p ∈ x.ps, p.l.length ≤ 1000 := by
  unfold Mw.greatM at h
  rw [Bool.or_eq_false_iff] at h
  exact small_ps h.2
theorem link_M (x : Mv) : linkM x.mm = (findL (osP x.ps) 82).bind linkR := rfl
theorem link_D (x : Mv) : linkR ((findL (osP x.ps) 82).getD []) = linkM x.mm := by
  rw [link_M]
  cases findL (osP x.ps) 82 with
  | none => exact link_nil
  | some d => rfl
theorem num_M (x : Mv) : numM x.mm = Ow.numL (osP x.ps) 118 4 := rfl

set_option maxHeartbeats 1000000 in
theorem link_any (x : Mv) (w : World) (h : x.ok w) (hsm : ∀ p ∈ x.ps, p.l.length ≤ 1000) : Calls Try.prog 36 #[x.v] w (PlR (altR x.mm 0) w) := by
  have HC := Lib.hid (fun W (hW : Below w.heap.size w W) => Tw.find_any x.B x.m x.d x.ps 82 W (h.os.below hW) hsm)
  have HD := Lib.hid (link_D x)
  have HR : Hid (altR x.mm 0 = ((((linkM x.mm).getD 0 : Nat) : Int), (linkM x.mm).isSome)) := rfl
  generalize altR x.mm 0 = t at HR ⊢
  clear h hsm
  go_enter Try.func36, Try.ntmps36
  go_wp2_with fail
  refine (HC.out _ (alloc_more _ _)).mono ?_
  rintro e w1 ⟨A1, m1, c1, rfl, hbs, hb1⟩
  generalize findL (osP x.ps) 82 = r at hbs HD
  have HB := Lib.hid ((alloc_more w (.cells x.cells 25)).trans (hb1.mono (alloc_more w (.cells x.cells 25)).size))
  have HL := Lib.hid (Rw.linkOf_any A1 m1 c1 _ w1 hbs)
  rw [HD.out] at HL
  clear hb1 hbs HC HD
  go_wp2_with fail
  refine HL.out.mono ?_
  rintro e w2 ⟨rfl, hb2⟩
  go_wp2
  go_ret2
  rw [HR.out]
  exact ⟨rfl, HB.out.trans (hb2.mono HB.out.size)⟩

theorem gi_any (x : Mv) (w : World) : Calls Try.prog 37 #[x.v] w (PlR (altR x.mm 1) w) := by
  go_enter Try.func37, Try.ntmps37
  go_wp2
  go_ret2
  exact ⟨rfl, alloc_more _ _⟩
theorem ci_any (x : Mv) (w : World) : Calls Try.prog 40 #[x.v] w (PlR (altR x.mm 3) w) := by
  go_enter Try.func40, Try.ntmps40
  go_wp2
  go_ret2
  exact ⟨rfl, alloc_more _ _⟩
set_option maxHeartbeats 1000000 in
theorem num_any (x : Mv) (w : World) (h : x.ok w) (hsm : ∀ p ∈ x.ps, p.l.length ≤ 1000) : Calls Try.prog 38 #[x.v] w (PlR (altR x.mm 2) w) := by
  have HC := Lib.hid (fun W (hW : Below w.heap.size w W) => Ow.number4_any x.B x.m x.d x.ps 118 W (h.os.below hW) hsm)
  have HR : Hid (altR x.mm 2 = ((((Ow.numL (osP x.ps) 118 4).getD 0 : Nat) : Int), (Ow.numL (osP x.ps) 118 4).isSome)) := rfl
  generalize altR x.mm 2 = t at HR ⊢
  clear h hsm
  go_enter Try.func38, Try.ntmps38
  go_wp2_with fail
  refine (HC.out _ (alloc_more _ _)).mono ?_
  generalize Ow.numL (osP x.ps) 118 4 = r at HR ⊢
  rintro e w1 ⟨rfl, hb1⟩
  go_wp2
  go_ret2
  rw [HR.out]
  exact ⟨rfl, (alloc_more w (.cells x.cells 25)).trans (hb1.mono (alloc_more w (.cells x.cells 25)).size)⟩

/-! ### The four, one after the other -/
/-- The functions that read them. -/
def altF : Nat → Nat
  | 0 => 36
  | 1 => 37
  | 2 => 38
  | _ => 40
theorem alt_any (x : Mv) (w : World) (h : x.ok w) (hsm : ∀ p ∈ x.ps, p.l.length ≤ 1000) : ∀ k : Nat, k < 4 → Calls Try.prog (altF k) #[x.v] w (PlR (altR x.mm k) w)
  | 0, _ => link_any x w h hsm
  | 1, _ => gi_any x w
  | 2, _ => num_any x w h hsm
  | 3, _ => ci_any x w
theorem alt_enter : ∀ (k : Nat) (args : Array Value) (W : World), k < 4 → (callFunc (altF k) args).run Try.prog W = .ok (.enter (altF k) args) W
  | 0, _, _, _ => by rfl
  | 1, _, _, _ => by rfl
  | 2, _, _, _ => by rfl
  | 3, _, _, _ => by rfl
@[reducible] def altCs : Array Value := #[.func (.func 36) #[] #[], .bool true, .func (.func 37) #[] #[], .bool false, .func (.func 38) #[] #[], .bool false, .func (.func 40) #[] #[], .bool false]
theorem alt_cells {w : World} {g : Nat} {t : TypeId} (h : Cel w g t altCs) : ∀ k : Nat, k < 4 → w.cell? ⟨g, k * 2, none⟩ = some (.func (.func (altF k)) #[] #[]) ∧ w.cell? ⟨g, k * 2 + 1, none⟩ = some (.bool (altZ k))
  | 0, _ => ⟨by rw [h.cell]; rfl, by rw [h.cell]; rfl⟩
  | 1, _ => ⟨by rw [h.cell]; rfl, by rw [h.cell]; rfl⟩
  | 2, _ => ⟨by rw [h.cell]; rfl, by rw [h.cell]; rfl⟩
  | 3, _ => ⟨by rw [h.cell]; rfl, by rw [h.cell]; rfl⟩
theorem alts_any (w : World) : Calls Try.prog 22 #[] w fun e w' => e = .returned (.slice (some ⟨w.heap.size, 0, none⟩) 4 4) ∧ Cel w' w.heap.size 60 altCs ∧ Below w.heap.size w w' := by
  go_enter Try.func22, Try.ntmps22
  go_wp2
  go_ret
  exact ⟨rfl, Cel.born _ _ _, alloc_more _ _⟩
end Go.Proofs.Ytehanbmnkoebcaa.Pw
