/- What boarderref19's given comes to. Conditions: the address may be had; the configuration, the leases and the message read. -/
import Derived.Test.YtoldppbakapohaaGreatDoorEyRef1
import Derived.Test.YtoldppbakapohaaGreatDoorBwB
import Derived.Test.YtoldppbakapohaaGreatDoorVwE
import Derived.Test.YtoldppbakapohaaGreatDoorXwC
import Derived.Deep.WholeRow
import Derived.Laws.Rows
set_option maxRecDepth 8000
namespace Go.Proofs.YtoldppbakapohaaGreatDoor.Ey
open Go.RowKit Tl Co Ms Cf Ad By Rp Ky Rc Ew Jw La Tb Pk Al Cl Eg
open Dw (ba ba_size ba_data ba_list)
open Pw (alloc_more celM_all boxM)
open Vw (Cx isB cel3C atN atS snsOf sns_len sns_get nets_len nets_get)
open Rpw (zc13)

theorem found_sub {c : Cf} {a : Int} (hf : (findC c a).2.2 = true) : Rpw.subB c (findC c a).1 (findC c a).2.1 = true := by
  have hc := (find_sn hf).1
  obtain ⟨i, k, l, x, e1, e2, h1, h2, _⟩ := find_there (c := c) (a := a) (n := (findC c a).1) (s := (findC c a).2.1) (by rw [← hf])
  obtain ⟨hi, hi2⟩ := List.getElem?_eq_some_iff.1 h1
  obtain ⟨hk, _⟩ := List.getElem?_eq_some_iff.1 h2
  refine Rpw.subB_iff.2 ⟨hc, ?_, ?_⟩
  · rw [e1]; omega
  · rw [e1, e2, Int.toNat_natCast, List.getD_eq_getElem?_getD, h1]
    show 0 ≤ (k : Int) ∧ (k : Int) < (l.length : Int)
    omega
theorem fair_found {c : Cf} {m : M} {a kind : Int} (hf : (findC c a).2.2 = true) (hr : rightM m = true) (hk : kind = 2 ∨ kind = 5 ∨ kind = 6) (ha : rightB a = true) : fairR c (findC c a).1 (findC c a).2.1 m kind a = true := by
  rw [Rpw.fair_sub, found_sub hf, hr, ha, decide_eq_true hk]
  rfl
/-- The answer with its lease kept. -/
def keepV (y : Av) (l : L) : Av := ⟨y.send, true, y.x, y.ta, y.tp, y.tr, l⟩
theorem cel_keep {w : World} {g : Nat} {t : TypeId} (y : Av) (l : L) (h : Cel w g t y.cs) : Cel (((((w.setCell ⟨g, 1, none⟩ (.bool true)).setCell ⟨g, 18, none⟩ (.int .i64 l.addr)).setCell ⟨g, 19, none⟩ (.int .i64 l.state)).setCell ⟨g, 20, none⟩ (.int .i64 l.till)).setCell ⟨g, 21, none⟩ (.string (ba l.key))) g t (keepV y l).cs := by
  have h0 := Rpw.celP h 1 (.bool true)
  have h1 := Rpw.celP h0 18 (.int .i64 l.addr)
  have h2 := Rpw.celP h1 19 (.int .i64 l.state)
  have h3 := Rpw.celP h2 20 (.int .i64 l.till)
  have h4 := Rpw.celP h3 21 (.string (ba l.key))
  exact h4
end Go.Proofs.YtoldppbakapohaaGreatDoor.Ey
