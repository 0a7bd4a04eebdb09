/- What class.Of, About and Foreign, and the document's own, come to. Condition: the options' data are no longer than 1000 bytes (for the program's). -/
import Derived.Test.YtmefnlgoejbgfaaClMath
import Derived.Test.YtmefnlgoejbgfaaOwLeaf
import Derived.Test.YtmefnlgoejbgfaaPwBox
import Derived.Deep.RegionHeld3
set_option maxRecDepth 8000
namespace Go.Proofs.Ytmefnlgoejbgfaa.Gw
open Go.RowKit Tl Co Ms By Cl Ow
open Pw (boxM celM_all alloc_more)
def BoR (t : Bool) (w : World) (e : Ending) (w' : World) : Prop := e = .returned (.bool t) ∧ Below w.heap.size w w'
def InR (t : Int) (w : World) (e : Ending) (w' : World) : Prop := e = .returned (.int .i64 t) ∧ Below w.heap.size w w'
theorem about_cases (m : M) : (classL m = 3 ∧ aboutL m = m.ci) ∨ (classL m = 0 ∧ aboutL m = 0) ∨ ((classL m = 1 ∨ classL m = 2) ∧ aboutL m = (((numE m.os 50 4).getD 0 : Nat) : Int)) := by
  rcases class_cases m with h | ⟨h, _, ⟨a, ha, e⟩, _⟩ | ⟨h, _, ⟨a, ha, e⟩, _⟩ | ⟨h, _, e, _⟩
  · exact .inr (.inl ⟨h, class_wrong h⟩)
  · exact .inr (.inr ⟨.inl h, by rw [e, ha]; rfl⟩)
  · exact .inr (.inr ⟨.inr h, by rw [e, ha]; rfl⟩)
  · exact .inl ⟨h, e⟩
theorem foreign_none {m : M} {s : Int} (h : numE m.os 54 4 = none) : foreignL m s = false := by unfold foreignL; rw [h]
theorem foreign_some {m : M} {s : Int} {a : Nat} (h : numE m.os 54 4 = some a) : foreignL m s = ((a : Int) != s) := by
  unfold foreignL
  rw [h]
  by_cases q : (a : Int) = s <;> simp [q]

set_option maxHeartbeats 1000000 in
theorem has_any (x : Mv) (code : Int) (w : World) (h : x.ok w) (hsm : ∀ p ∈ x.ps, p.l.length ≤ 1000) : Calls Try.prog 21 #[x.v, .int .i64 code] w (BoR (numE x.mm.os code 4).isSome w) := by
  have HC := Lib.hid (fun W (hW : Below w.heap.size w W) => number4_any x.B x.m x.d x.ps code W (h.os.below hW) hsm)
  have HR : Hid (numE x.mm.os code 4 = numL (osP x.ps) code 4) := rfl
  generalize numE x.mm.os code 4 = t at HR ⊢
  clear h hsm
  go_enter Try.func21, Try.ntmps21
  go_wp2_with fail
  refine (HC.out _ (alloc_more _ _)).mono ?_
  generalize numL (osP x.ps) code 4 = r at HR ⊢
  rintro e w1 ⟨rfl, hb1⟩
  go_wp2
  go_ret
  rw [HR.out]
  exact ⟨rfl, (alloc_more w (.cells x.cells 25)).trans (hb1.mono (alloc_more w (.cells x.cells 25)).size)⟩

set_option maxHeartbeats 1000000 in
theorem foreign_any (x : Mv) (s : Int) (w : World) (h : x.ok w) (hsm : ∀ p ∈ x.ps, p.l.length ≤ 1000) : Calls Try.prog 14 #[x.v, .int .i64 s] w (BoR (foreignL x.mm s) w) := by
  have HC := Lib.hid (fun W (hW : Below w.heap.size w W) => number4_any x.B x.m x.d x.ps 54 W (h.os.below hW) hsm)
  have HB := Lib.hid (alloc_more w (.cells x.cells 25))
  obtain ⟨r, hr⟩ : ∃ r, numE x.mm.os 54 4 = r := ⟨_, rfl⟩
  have HN : Hid (numL (osP x.ps) 54 4 = r) := hr
  cases r with
  | none =>
    have HR := Lib.hid (foreign_none (s := s) hr)
    clear h hsm hr
    go_enter Try.func14, Try.ntmps14
    go_wp2_with fail
    refine (HC.out _ (alloc_more _ _)).mono ?_
    rw [HN.out]
    rintro e w1 ⟨rfl, hb1⟩
    go_wp2
    go_ret
    exact ⟨ret_bool HR.out.symm, HB.out.trans (hb1.mono HB.out.size)⟩
  | some a =>
    have HR := Lib.hid (foreign_some (s := s) hr)
    clear h hsm hr
    go_enter Try.func14, Try.ntmps14
    go_wp2_with fail
    refine (HC.out _ (alloc_more _ _)).mono ?_
    rw [HN.out]
    rintro e w1 ⟨rfl, hb1⟩
    go_wp2
    go_ret
    exact ⟨ret_bool HR.out.symm, HB.out.trans (hb1.mono HB.out.size)⟩

set_option maxHeartbeats 1000000 in
theorem refForeign_any (x : Mv) (s : Int) (w : World) (h : x.ok w) : Calls Try.prog 15 #[x.v, .int .i64 s] w (BoR (foreignL x.mm s) w) := by
  have HC := Lib.hid (fun W (hW : Below w.heap.size w W) => refNumber_any x.B x.m x.d x.ps 54 W (h.os.below hW))
  have HB := Lib.hid (alloc_more w (.cells x.cells 28))
  obtain ⟨r, hr⟩ : ∃ r, numE x.mm.os 54 4 = r := ⟨_, rfl⟩
  have HN : Hid (numL (osP x.ps) 54 4 = r) := hr
  cases r with
  | none =>
    have HR := Lib.hid (foreign_none (s := s) hr)
    clear h hr
    go_enter Try.func15, Try.ntmps15
    go_wp2_with fail
    refine (HC.out _ (alloc_more _ _)).mono ?_
    rw [HN.out]
    rintro e w1 ⟨rfl, hb1⟩
    go_wp2
    go_ret
    exact ⟨ret_bool HR.out.symm, HB.out.trans (hb1.mono HB.out.size)⟩
  | some a =>
    have HR := Lib.hid (foreign_some (s := s) hr)
    clear h hr
    go_enter Try.func15, Try.ntmps15
    go_wp2_with fail
    refine (HC.out _ (alloc_more _ _)).mono ?_
    rw [HN.out]
    rintro e w1 ⟨rfl, hb1⟩
    go_wp2
    go_ret
    exact ⟨ret_bool HR.out.symm, HB.out.trans (hb1.mono HB.out.size)⟩
end Go.Proofs.Ytmefnlgoejbgfaa.Gw
