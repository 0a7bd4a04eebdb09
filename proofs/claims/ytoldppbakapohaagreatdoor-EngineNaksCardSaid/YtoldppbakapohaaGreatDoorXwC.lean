/- What boarderref15's Fair, In, other and May come to. Conditions: the configuration is small and the keys fit (Nd.ok). -/
import Derived.Test.YtoldppbakapohaaGreatDoorXwB
import Derived.Test.YtoldppbakapohaaGreatDoorVwE
import Derived.Test.YtoldppbakapohaaGreatDoorBwA
import Derived.BigQuiet
import Derived.Deep.QuietTactic
import Derived.Deep.RegionHeld3
section
set_option maxRecDepth 8000
namespace Go.Proofs.YtoldppbakapohaaGreatDoor.Xw
open Go.RowKit Co By Ky Rc Ew Jw La Tb Lw Cf Al Bw
open Vw (Cx RdPl layP atP FiR AdR KeR isI cel3C)
open Dw (ba ba_size ba_data ba_list alloc_more)

theorem boxR (w : World) (x : Cx) : ∃ w0, w0 = w.alloc (.cells x.cs 24) ∧ Cel w0 w.heap.size 24 x.cs ∧ Below w.heap.size w w0 := ⟨_, rfl, Cel.born _ _ _, alloc_more _ _⟩
set_option maxHeartbeats 4000000 in
theorem refIn_any (x : Cx) (net a : Int) (U : Nat) (w : World) (h : x.ok U w) (hU : U ≤ w.heap.size) (hS : Small x.cf) : Calls Tryz.prog 18 #[x.v, .int .i64 net, .int .i64 a] w (isB (inA x.cf net a) w) := by
  obtain ⟨w0, hw0, hc0, hb0⟩ := boxR w x
  have HK := Lib.hid (fun W (hW : Below w.heap.size w W) => Vw.refFind_any x a U W (h.below (hW.mono hU)) (Nat.le_trans hU hW.size) hS)
  have HB0 := Lib.hid hb0
  have HC0 := Lib.hid hc0
  have HIN : Hid (inA x.cf net a = ((findC x.cf a).2.2 && decide ((findC x.cf a).1 = net))) := rfl
  generalize inA x.cf net a = m at HIN ⊢
  generalize findC x.cf a = f at HK HIN
  obtain ⟨f1, f2, f3⟩ := f
  clear h hU hS hb0 hc0
  cases f3 with
  | false =>
    have HF : Hid (m = false) := HIN.out
    clear HIN
    go_enter Tryz.func18, Tryz.ntmps18
    go_upto_region 1 with fail
    rw [← hw0]
    clear hw0
    obtain ⟨c0, c1, c2⟩ := cel3C HC0.out
    go_wp2_with fail
    refine (HK.out _ HB0.out).mono ?_
    rintro e w1 ⟨rfl, hb1⟩
    have HB1 := Lib.hid (HB0.out.trans (hb1.mono HB0.out.size))
    have HC1 := Lib.hid (HC0.out.below hb1 HC0.out.lt)
    clear c0 c1 c2 hb1
    obtain ⟨c0, c1, c2⟩ := cel3C HC1.out
    go_wp2
    go_ret
    exact ⟨ret_bool HF.out.symm, HB1.out⟩
  | true =>
    by_cases hf : f1 = net
    · have HF : Hid (m = true) := HIN.out.trans (by rw [decide_eq_true hf]; rfl)
      have hfz : (f1 == net) = true := by simpa using hf
      clear HIN hf
      go_enter Tryz.func18, Tryz.ntmps18
      go_upto_region 1 with fail
      rw [← hw0]
      clear hw0
      obtain ⟨c0, c1, c2⟩ := cel3C HC0.out
      go_wp2_with fail
      refine (HK.out _ HB0.out).mono ?_
      rintro e w1 ⟨rfl, hb1⟩
      have HB1 := Lib.hid (HB0.out.trans (hb1.mono HB0.out.size))
      have HC1 := Lib.hid (HC0.out.below hb1 HC0.out.lt)
      clear c0 c1 c2 hb1
      obtain ⟨c0, c1, c2⟩ := cel3C HC1.out
      go_wp2
      go_ret
      exact ⟨ret_bool HF.out.symm, HB1.out⟩
    · have HF : Hid (m = false) := HIN.out.trans (by rw [decide_eq_false hf]; rfl)
      have hfz : (f1 == net) = false := by simpa using hf
      clear HIN hf
      go_enter Tryz.func18, Tryz.ntmps18
      go_upto_region 1 with fail
      rw [← hw0]
      clear hw0
      obtain ⟨c0, c1, c2⟩ := cel3C HC0.out
      go_wp2_with fail
      refine (HK.out _ HB0.out).mono ?_
      rintro e w1 ⟨rfl, hb1⟩
      have HB1 := Lib.hid (HB0.out.trans (hb1.mono HB0.out.size))
      have HC1 := Lib.hid (HC0.out.below hb1 HC0.out.lt)
      clear c0 c1 c2 hb1
      obtain ⟨c0, c1, c2⟩ := cel3C HC1.out
      go_wp2
      go_ret
      exact ⟨ret_bool HF.out.symm, HB1.out⟩
end Go.Proofs.YtoldppbakapohaaGreatDoor.Xw
end
/- What boarderref15's May comes to. Conditions: the configuration is small and the keys fit (Nd.ok). -/
section
set_option maxRecDepth 8000
namespace Go.Proofs.YtoldppbakapohaaGreatDoor.Xw
open Go.RowKit Co By Ky Rc Ew Jw La Tb Lw Cf Al Bw
open Vw (Cx RdPl layP atP FiR AdR KeR isI cel3C)
open Dw (ba ba_size ba_data ba_list alloc_more)

end Go.Proofs.YtoldppbakapohaaGreatDoor.Xw
end
/- How the document's Choose goes on, step by step: what the first address that serves is, wherever it is met. No program. -/
section
set_option maxRecDepth 8000
namespace Go.Proofs.YtoldppbakapohaaGreatDoor.Xw
open Go.RowKit Co By Ky Rc Ew Jw La Tb Lw Cf Al Ad

section
variable {H F : L → Bool} {kl pl r : List Int} {want own : Int} {q : Int → Bool} {t : List L} {j : Nat} {l : L}
end
/-! ### The pools, subnet by subnet -/
section
variable {xs : List Vw.Sx} {x : Vw.Sx} {q : Int → Bool} {i : Nat} {a : Int}
end
end Go.Proofs.YtoldppbakapohaaGreatDoor.Xw
end
