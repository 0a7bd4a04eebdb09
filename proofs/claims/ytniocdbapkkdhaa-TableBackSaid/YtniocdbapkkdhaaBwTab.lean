/- The table that a call is about, and the place of an address in a table. For all leases whose keys fit. -/
import Derived.Test.YtniocdbapkkdhaaBwRight
import Derived.Test.YtniocdbapkkdhaaBwRef
set_option maxRecDepth 8000
namespace Go.Proofs.Ytniocdbapkkdhaa.Bw
open Go.RowKit Co By Ky Rc Ew Jw La Tb Lw
open Dw (ba ba_size ba_data ba_list alloc_more)

/-- A slice that reads as the leases l, below U. -/
def RdR (U : Nat) (w : World) (l : List L) (e : Ending) (w' : World) : Prop := ∃ A' n' c', e = .returned (.slice A' n' c') ∧ RdLs U w' A' n' c' l ∧ Below w.heap.size w w'
theorem valid_any (A : Option Addr) (n c U : Nat) (l : List L) (w : World) (h : RdLs U w A n c l) (hU : U ≤ w.heap.size) (hk : ∀ a ∈ l, Fk a) :
    Calls Try.prog 30 #[.slice A n c] w (RdR U w (goodT l)) := by
  have HR := Lib.hid (Bw.right_any A n c U l w h hU hk)
  have HX := Lib.hid h
  have HUU := Lib.hid hU
  clear h hU hk
  cases hr : rightT l with
  | true =>
    rw [hr] at HR
    have HG := Lib.hid (good_yes hr)
    clear hr
    go_enter Try.func30, Try.ntmps30
    go_wp2_with fail
    refine HR.out.mono ?_
    rintro e w1 ⟨rfl, hb⟩
    go_wp2
    go_ret
    exact ⟨A, n, c, rfl, by rw [HG.out]; exact HX.out.below (hb.mono HUU.out), hb⟩
  | false =>
    rw [hr] at HR
    have HG := Lib.hid (good_no hr)
    clear hr
    go_enter Try.func30, Try.ntmps30
    go_wp2_with fail
    refine HR.out.mono ?_
    rintro e w1 ⟨rfl, hb⟩
    go_wp2
    go_ret
    exact ⟨none, 0, 0, rfl, by rw [HG.out]; exact RdG.nil _ _, hb⟩
theorem good_any (A : Option Addr) (n c U : Nat) (l : List L) (w : World) (h : RdLs U w A n c l) (hU : U ≤ w.heap.size) (hk : ∀ a ∈ l, Fk a) :
    Calls Try.prog 32 #[.slice A n c] w (RdR U w (goodT l)) := by
  have HR := Lib.hid (Bw.refRight_any A n c U l w h hU hk)
  have HX := Lib.hid h
  have HUU := Lib.hid hU
  clear h hU hk
  cases hr : rightT l with
  | true =>
    rw [hr] at HR
    have HG := Lib.hid (good_yes hr)
    clear hr
    go_enter Try.func32, Try.ntmps32
    go_wp2_with fail
    refine HR.out.mono ?_
    rintro e w1 ⟨rfl, hb⟩
    go_wp2
    go_ret
    exact ⟨A, n, c, rfl, by rw [HG.out]; exact HX.out.below (hb.mono HUU.out), hb⟩
  | false =>
    rw [hr] at HR
    have HG := Lib.hid (good_no hr)
    clear hr
    go_enter Try.func32, Try.ntmps32
    go_wp2_with fail
    refine HR.out.mono ?_
    rintro e w1 ⟨rfl, hb⟩
    go_wp2
    go_ret
    exact ⟨none, 0, 0, rfl, by rw [HG.out]; exact RdG.nil _ _, hb⟩
set_option maxHeartbeats 2000000 in
theorem place_any (A : Option Addr) (n c U : Nat) (l : List L) (a : Int) (w : World) (h : RdLs U w A n c l) (hU : U ≤ w.heap.size) (hi : Inc l) (hn : n ≤ 64) :
    Calls Try.prog 31 #[.slice A n c, .int .i64 a] w fun e w' => e = .returned (.tuple #[.int .i64 (posT l a : Nat), .bool (hasT l a)]) ∧ Below w.heap.size w w' := by
  have hm := h.max
  have hc := h.cap
  have HL := Lib.hid h.len
  have HX := Lib.hid h
  have HUU := Lib.hid hU
  have HI := Lib.hid hi
  have HB0 : Hid (Bound l a 0 n) := by rw [← HL.out]; exact bound_start l a
  clear h hU hi
  go_enter Try.func31, Try.ntmps31
  go_wp2
  go_step3
  go_wp2
  go_step3
  go_wp2
  go_loopw [6, 7, 8] (fun v6 v7 v8 wr => ∃ lo hi : Nat, v6 = .int .i64 lo ∧ v7 = .int .i64 hi ∧ v8 = .bool false ∧ hi ≤ n ∧ Hid (Bound l a lo hi) ∧ Hid (Below w.heap.size w wr)) (fun v6 v7 _ _ => (intOf v7).toNat - (intOf v6).toNat)
  case atStart => exact ⟨0, n, rfl, rfl, rfl, Nat.le_refl _, HB0.out, Below.refl _ _⟩
  case round =>
    obtain ⟨lo, hi, rfl, rfl, rfl, hhi, HE, HB⟩ := hrel
    by_cases hlt : lo < hi
    · obtain ⟨m, hm2⟩ : ∃ m, m = (lo + hi) / 2 := ⟨_, rfl⟩
      have hml : lo ≤ m := by omega
      have hmh : m < hi := by omega
      have hmn : m < n := by omega
      obtain ⟨b, o, x, rfl, hbU, HA, c0, c1, c2, c3⟩ := atL (HX.out.below (HB.out.mono HUU.out)) hmn
      have hlz : (lo : Int) < (hi : Int) := by omega
      have hmz : (m : Int) < (n : Int) := by omega
      have hm0 : (0 : Int) ≤ (m : Int) := by omega
      have hws : IntKind.i64.wrap ((lo : Int) + (hi : Int)) = (lo : Int) + (hi : Int) := by rw [IntKind.wrap_i64]; omega
      have hwq : ((lo : Int) + (hi : Int)) / 2 = (m : Int) := by omega
      have hwm : IntKind.i64.wrap (m : Int) = (m : Int) := by rw [IntKind.wrap_i64]; omega
      have hwn : IntKind.i64.wrap ((m : Int) + 1) = (m : Int) + 1 := by rw [IntKind.wrap_i64]; omega
      have hba : Below wr.heap.size wr (wr.alloc (.cells (lcs x) 26)) := alloc_more _ _
      have HB1 := Lib.hid (HB.out.trans (hba.mono HB.out.size))
      clear hba hm2
      rcases (show x.addr < a ∨ x.addr = a ∨ a < x.addr by omega) with hv | hv | hv
      · have HT := Lib.hid (bound_up HI.out HE.out HA.out hv)
        clear HE HA
        go_wp2
        go_roundw
        case rel => exact ⟨m + 1, hi, by go_num, rfl, rfl, hhi, HT.out, HB1.out⟩
        case measure => simp [intOf]; omega
      · obtain ⟨h1, h2⟩ := bound_hit HI.out HA.out hv
        have H1 := Lib.hid h1
        have H2 := Lib.hid h2
        obtain rfl : a = x.addr := hv.symm
        clear HE HA h1 h2
        go_wp2
        go_ret2
        exact ⟨by rw [H1.out, H2.out]; rfl, HB1.out⟩
      · have HT := Lib.hid (bound_down HI.out HE.out HA.out hv)
        have hv1 : ¬ x.addr < a := by omega
        clear HE HA
        go_wp2
        go_roundw
        case rel => exact ⟨lo, m, rfl, by rw [hwq], rfl, by omega, HT.out, HB1.out⟩
        case measure => simp [intOf]; omega
    · obtain ⟨h1, h2⟩ := bound_end HI.out HE.out hlt
      have H1 := Lib.hid h1
      have H2 := Lib.hid h2
      have hlz : ¬ (lo : Int) < (hi : Int) := by omega
      clear HE h1 h2
      go_wp2
      go_ret2
      exact ⟨by rw [H1.out, H2.out]; rfl, HB.out⟩
end Go.Proofs.Ytniocdbapkkdhaa.Bw
