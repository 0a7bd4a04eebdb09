/- What the document's Read and Join come to. Conditions: for Read, 2^40 bytes at most. -/
import Derived.Test.YtibcpdimdjipjaaDoorTlRef2
import Derived.Test.YtibcpdimdjipjaaDoorTlRead
import Derived.StillTailTactics
namespace Go.Proofs.YtibcpdimdjipjaaDoor.Tw
open Go.RowKit Tl By

/-- What the document's Read and Join answer. -/
def RefR (w : World) (R : List O × Int) (en : Ending) (w' : World) : Prop := ∃ A n c ps, en = .returned (.tuple #[.slice A n c, .int .i64 R.2]) ∧ osP ps = R.1 ∧ RdO w' A n c ps ∧ Below w.heap.size w w'
theorem RefR.err {w w' : World} {R : List O × Int} {e : Int} (hR : R = ([], e)) (hb : Below w.heap.size w w') : RefR w R (.returned (.tuple #[.slice none 0 0, .int .i64 e])) w' :=
  ⟨none, 0, 0, [], by rw [hR], by rw [hR]; rfl, RdO.nil _, hb⟩
theorem RefR.good {w w' : World} {R : List O × Int} {A : Option Addr} {n c : Nat} {ps : List Po} (hR : R = (osP ps, 0)) (ho : RdO w' A n c ps) (hb : Below w.heap.size w w') : RefR w R (.returned (.tuple #[.slice A n c, .int .i64 0])) w' :=
  ⟨A, n, c, ps, by rw [hR], by rw [hR], ho, hb⟩
/-- What Read's loop holds. -/
def StQ (w : World) (l : List UInt8) (N : Nat) (R : List O × Int) (v i : Value) (wr : World) : Prop :=
  ∃ k A n c ps, k ≤ N ∧ i = .int .i64 (k : Nat) ∧ v = .slice A n c ∧ RdO wr A n c ps ∧ rightL (osP ps) = true ∧ readL (osP ps) (l.drop k) = R ∧ Below w.heap.size w wr
theorem rd_small {w : World} {A : Option Addr} {n c : Nat} {ps : List Po} (h : RdO w A n c ps) (hr : rightL (osP ps) = true) : n ≤ 60 ∧ ∀ p ∈ ps, p.l.length ≤ 100000 := by
  have h1 := right_len hr
  rw [os_len, h.len] at h1
  refine ⟨h1, fun p hp => ?_⟩
  have := (right_fit hr (os_mem hp)).2.2
  have h2 : p.l.length ≤ 600 := this
  omega

set_option maxRecDepth 8000 in
set_option maxHeartbeats 4000000 in
theorem refRead_any (A : Option Addr) (n c : Nat) (l : List UInt8) (w : World) (h : Bs w A n c l) (hn : n ≤ 1099511627776) :
    Calls Tryd.prog 43 #[.slice A n c] w (RefR w (readL [] l)) := by
  have h0 := h.upto
  have HL := Lib.hid h.len
  have hcap := h.cap
  have hmax := h.max
  clear h
  go_enter Tryd.func43, Tryd.ntmps43
  go_wp2
  go_loopw [4, 5] (fun v i wr => StQ w l n (readL [] l) v i wr) (fun _ i _ => n - (intOf i).toNat)
  case atStart => exact ⟨0, none, 0, 0, [], by omega, rfl, rfl, RdO.nil _, rfl, rfl, Below.refl _ _⟩
  case round =>
    obtain ⟨k, A2, n2, c2, ps, hk, rfl, rfl, hrd, hr, hR, hb⟩ := hrel
    have HR := Lib.hid hR
    have HRT := Lib.hid hr
    clear hR hr
    have hsz := hb.size
    have hbs := h0.below hb
    by_cases hlt : k < n
    rotate_left
    · obtain rfl : k = n := by omega
      have H : Hid (readL [] l = (osP ps, 0)) := by
        rw [← HR.out, List.drop_eq_nil_of_le (by rw [HL.out]; exact Nat.le_refl _)]
        exact read_nil _
      go_wp2
      go_ret2
      exact RefR.good H.out hrd hb
    obtain ⟨b, o, rfl, hc⟩ := hbs.1.at_ hlt
    have hkl : k < l.length := by rw [HL.out]; exact hlt
    have hcell := hc k hkl
    have HDr := Lib.hid (List.drop_eq_getElem_cons hkl)
    obtain ⟨y, hy⟩ : ∃ y, l[k] = y := ⟨_, rfl⟩
    rw [hy] at hcell HDr
    have HC := Lib.hid hc
    clear hc hy hkl
    by_cases hy1 : y = 255
    · subst hy1
      have H : Hid (readL [] l = (osP ps, 0)) := by
        rw [← HR.out, HDr.out]
        exact read_end _ _
      have hcell' : wr.cell? ⟨b, o + k, none⟩ = some (.int .u8 255) := hcell
      clear hcell
      go_wp2
      go_ret2
      exact RefR.good H.out hrd hb
    by_cases hy0 : y = 0
    · subst hy0
      have hcell' : wr.cell? ⟨b, o + k, none⟩ = some (.int .u8 0) := hcell
      have H : Hid (readL (osP ps) (l.drop (k + 1)) = readL [] l) := by
        rw [← HR.out, HDr.out, read_zero]
        rfl
      clear hcell
      go_wp2
      go_roundw
      case rel => exact ⟨k + 1, A2, n2, c2, ps, by omega, by go_num, rfl, hrd, HRT.out, H.out, hb⟩
      case measure => simp [intOf]; omega
    have hyl := y.toNat_lt
    have hn1 : ((y.toNat : Int) != 255) = true := by have := ne_of_nat hy1; simp at this; simp; omega
    have hn0 : ((y.toNat : Int) == 0) = false := by have := ne_of_nat hy0; simp at this; simp; omega
    by_cases hlt2 : k + 1 < n
    rotate_left
    · have H : Hid (readL [] l = ([], 2)) := by
        rw [← HR.out, HDr.out, List.drop_eq_nil_of_le (by rw [HL.out]; omega)]
        exact read_lone _ hy1 hy0
      clear hy1 hy0
      generalize y.toNat = u at hcell hyl hn1 hn0
      go_wp2
      go_ret2
      exact RefR.err H.out hb
    have hkl2 : k + 1 < l.length := by rw [HL.out]; exact hlt2
    have hcell1 := HC.out (k + 1) hkl2
    have HDr2 := Lib.hid (List.drop_eq_getElem_cons hkl2)
    obtain ⟨z, hz⟩ : ∃ z, l[k + 1] = z := ⟨_, rfl⟩
    rw [hz] at hcell1 HDr2
    have hrl : (l.drop (k + 1 + 1)).length = n - (k + 2) := by rw [List.length_drop, HL.out]
    have hzl := z.toNat_lt
    clear hz hkl2
    by_cases hsh : n < k + 2 + z.toNat
    · have H : Hid (readL [] l = ([], 2)) := by
        rw [← HR.out, HDr.out, HDr2.out]
        exact read_short _ hy1 hy0 (by rw [hrl]; omega)
      clear hy1 hy0 hrl
      generalize y.toNat = u at hcell hyl hn1 hn0
      generalize z.toNat = m at hcell1 hzl hsh
      go_wp2
      go_ret2
      exact RefR.err H.out hb
    have HP := Lib.hid (read_part (osP ps) (r := l.drop (k + 1 + 1)) (n := z) hy1 hy0 (by rw [hrl]; omega))
    obtain ⟨D, hD, hrun⟩ := byP.cutU_lh hbs (k + 2) (k + 2 + z.toNat) ((k : Int) + 2) ((k : Int) + 2 + (z.toNat : Int)) (by omega) (by omega) (by omega) (by omega)
    rw [show k + 2 + z.toNat - (k + 2) = z.toNat by omega] at hD hrun
    have hsm := rd_small hrd HRT.out
    obtain ⟨hn60, hps⟩ := hsm
    have HPS := Lib.hid hps
    clear hy1 hy0 hrl hps
    have HDD : Hid ((l.drop (k + 1 + 1)).drop z.toNat = l.drop (k + 2 + z.toNat)) := by
      show (l.drop (k + 1 + 1)).drop z.toNat = _
      rw [List.drop_drop]
    generalize y.toNat = u at hcell hyl hn1 hn0 HP
    generalize z.toNat = m at hcell1 hzl hsh HP hD hrun HDD
    have HCL := Lib.hid (joined_any A2 n2 c2 ps (u : Int) D m (c - (k + 2)) ((l.drop (k + 2)).take m) wr.drew hrd.drew hD.bs.drew (by omega) HPS.out (by omega))
    clear hD hrd HPS hbs
    have hi1 : (0 : Int) ≤ (k : Int) := by omega
    have hi2 : (k : Int) < (n : Int) := by omega
    have hw1 : IntKind.i64.wrap ((k : Int) + 2) = (k : Int) + 2 := IntWalk.i64_in _ (by omega)
    have hw2 : IntKind.i64.wrap ((k : Int) + 2 + (m : Int)) = (k : Int) + 2 + (m : Int) := IntWalk.i64_in _ (by omega)
    have HW1 := Lib.hid hw1
    have HW2 := Lib.hid hw2
    by_cases hj : rightL (joinedL (osP ps) (u : Int) ((l.drop (k + 1 + 1)).take m)) = true
    · have H : Hid (readL (joinedL (osP ps) (u : Int) ((l.drop (k + 1 + 1)).take m)) (l.drop (k + 2 + m)) = readL [] l) := by
        rw [← HDD.out, ← HR.out, HDr.out, HDr2.out, HP.out, if_pos hj]
        rfl
      have HJ := Lib.hid hj
      clear hj
      clear hw1 hw2
      go_wp2_with fail
      have hw1 := HW1.out
      have hw2 := HW2.out
      go_still_tail 14, (by kernel_rfl)
      clear hw1 hw2
      change wpList _ _ _ _ _ wr.drew
      go_wp2_with fail
      refine HCL.out.mono ?_
      rintro e w1 ⟨A3, n3, c3, ps3, rfl, hps3, hrd3, hb3⟩
      have hb4 := hb.trans ((below_undrew hb3).mono hsz)
      have HP3 := Lib.hid hps3
      clear hps3 hb3
      go_wp2_with fail
      refine (refRight_any _ _ _ _ _ hrd3).mono ?_
      rw [HP3.out, HJ.out]
      rintro e w' ⟨rfl, rfl⟩
      go_wp2
      go_roundw
      case rel => exact ⟨k + 2 + m, A3, n3, c3, ps3, by omega, by go_num, rfl, hrd3, by rw [HP3.out]; exact HJ.out, by rw [HP3.out]; exact H.out, hb4⟩
      case measure => simp [intOf]; omega
    · have hj' : rightL (joinedL (osP ps) (u : Int) ((l.drop (k + 1 + 1)).take m)) = false := by simpa using hj
      have H : Hid (readL [] l = ([], 3)) := by
        rw [← HR.out, HDr.out, HDr2.out, HP.out, if_neg hj]
        rfl
      have HJ := Lib.hid hj'
      clear hj hj'
      clear hw1 hw2
      go_wp2_with fail
      have hw1 := HW1.out
      have hw2 := HW2.out
      go_still_tail 14, (by kernel_rfl)
      clear hw1 hw2
      change wpList _ _ _ _ _ wr.drew
      go_wp2_with fail
      refine HCL.out.mono ?_
      rintro e w1 ⟨A3, n3, c3, ps3, rfl, hps3, hrd3, hb3⟩
      have hb4 := hb.trans ((below_undrew hb3).mono hsz)
      have HP3 := Lib.hid hps3
      clear hps3 hb3
      go_wp2_with fail
      refine (refRight_any _ _ _ _ _ hrd3).mono ?_
      rw [HP3.out, HJ.out]
      rintro e w' ⟨rfl, rfl⟩
      go_wp2
      go_ret2
      exact RefR.err H.out hb4
end Go.Proofs.YtibcpdimdjipjaaDoor.Tw
