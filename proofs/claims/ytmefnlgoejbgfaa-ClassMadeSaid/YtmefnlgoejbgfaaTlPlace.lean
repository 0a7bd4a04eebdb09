/- What the program's place comes to, its closure and slices.IndexFunc. For all inputs. -/
import Derived.Test.YtmefnlgoejbgfaaTlLeaf
namespace Go.Proofs.Ytmefnlgoejbgfaa.Tw
open Go.RowKit Tl By

theorem code_is (co code : Int) (A' : Option Addr) (m c' b : Nat) (w : World) (hb : b < w.heap.size) (hc : w.cell? ⟨b, 0, none⟩ = some (.int .i64 code)) :
    Calls Try.prog 39 #[.agg #[.int .i64 co, .slice A' m c'], .pointer (some ⟨b, 0, none⟩)] w fun e w' => e = .returned (.bool (co == code)) ∧ Below w.heap.size w w' := by
  have hne : b ≠ w.heap.size := by omega
  go_enter Try.func39, Try.ntmps39
  go_wp2
  go_ret
  exact ⟨by simp, (Below.refl _ _).alloc (Nat.le_refl _) _⟩

set_option maxHeartbeats 400000 in
theorem index_any (A : Option Addr) (n c : Nat) (ps : List Po) (code : Int) (g : Nat) (w : World) (h : RdO w A n c ps) (hg : g < w.heap.size) (hcode : w.cell? ⟨g, 0, none⟩ = some (.int .i64 code)) :
    Calls Try.prog 36 #[.slice A n c, .func (.func 39) #[] #[.pointer (some ⟨g, 0, none⟩)]] w fun e w' => e = .returned (.int .i64 (placeL (osP ps) code)) ∧ Below w.heap.size w w' := by
  have hl := Lib.hid h.len
  have hm := h.max
  have hcap := h.cap
  have HC := Lib.hid hcode
  clear hcode
  go_enter Try.func36, Try.ntmps36
  go_wp2
  go_loopw [8] (fun i wr => ∃ k : Nat, k ≤ n ∧ i = .int .i64 k ∧ code ∉ codesL ((osP ps).take k) ∧ Below w.heap.size w wr) (fun i _ => n - (intOf i).toNat)
  case atStart => exact ⟨0, by omega, rfl, by simp [codesL], Below.refl _ _⟩
  case round =>
    obtain ⟨k, hk, rfl, hs, hbw⟩ := hrel
    have HS := Lib.hid hs
    clear hs
    by_cases hlt : k < n
    · obtain ⟨b, o, co, A', m, c', l, rfl, hcell, hcell2, _, _, HO, _, _, _⟩ := (h.below hbw).at_ hlt
      have hsz := hbw.size
      go_wp2_with fail
      refine (code_is co code A' m c' g _ (by omega) ((hbw.cell (p := ⟨g, 0, none⟩) hg).trans HC.out)).mono ?_
      rintro e w1 ⟨rfl, hb1⟩
      have hb01 := hbw.trans (hb1.mono hsz)
      by_cases he : co = code
      · subst he
        have H : Hid (placeL (osP ps) co = (k : Int)) := by
          obtain ⟨h1, h2⟩ := HO.out
          exact place_hit h1 (by rw [h2]) HS.out
        go_wp2
        go_ret
        exact ⟨ret_int H.out.symm, hb01⟩
      · have hb : (co == code) = false := by simpa using he
        have H : Hid (code ∉ codesL ((osP ps).take (k + 1))) := by
          obtain ⟨h1, h2⟩ := HO.out
          exact not_codes_next h1 HS.out (by rw [h2]; exact he)
        clear he
        go_wp2
        go_roundw
        case rel => exact ⟨k + 1, by omega, by go_num, H.out, hb01⟩
        case measure => simp [intOf]; omega
    · obtain rfl : k = n := by omega
      have H : Hid (placeL (osP ps) code = -1) := place_none (by have := HS.out; rwa [List.take_of_length_le (by rw [os_len, hl.out]; exact Nat.le_refl _)] at this)
      go_wp2
      go_ret
      exact ⟨ret_int H.out.symm, hbw⟩

theorem place_any (A : Option Addr) (n c : Nat) (ps : List Po) (code : Int) (w : World) (h : RdO w A n c ps) :
    Calls Try.prog 38 #[.slice A n c, .int .i64 code] w fun e w' => e = .returned (.int .i64 (placeL (osP ps) code)) ∧ Below w.heap.size w w' := by
  go_enter Try.func38, Try.ntmps38
  go_wp2_with fail
  refine (index_any A n c ps code w.heap.size _ (h.alloc _) (by simp) (by simp)).mono ?_
  rintro e w1 ⟨rfl, hb1⟩
  go_wp2
  go_ret
  exact ⟨rfl, ((Below.refl _ _).alloc (Nat.le_refl _) _).trans (hb1.mono (by simp))⟩
end Go.Proofs.Ytmefnlgoejbgfaa.Tw
