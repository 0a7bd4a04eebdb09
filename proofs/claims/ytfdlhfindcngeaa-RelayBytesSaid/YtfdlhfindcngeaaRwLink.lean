/- What relay.LinkOf comes to, its closure and slices.IndexFunc. For all inputs. -/
import Derived.Test.YtfdlhfindcngeaaRwParts
import Derived.Test.YtfdlhfindcngeaaCoLeaf
namespace Go.Proofs.Ytfdlhfindcngeaa.Ry
open Tl Co
theorem link_none {b : List UInt8} (h : (5 : Int) ∉ codesL (partsR b).1) : linkR b = none := by unfold linkR; rw [find_none h]; rfl
theorem link_four {b d : List UInt8} (h : findL (partsR b).1 5 = some d) (h4 : d.length = 4) : linkR b = some (valL d) := by unfold linkR; rw [h]; simp [h4]
theorem link_other {b d : List UInt8} (h : findL (partsR b).1 5 = some d) (h4 : d.length ≠ 4) : linkR b = none := by unfold linkR; rw [h]; simp [h4]
end Go.Proofs.Ytfdlhfindcngeaa.Ry
namespace Go.Proofs.Ytfdlhfindcngeaa.Rw
open Go.RowKit Tl Co By Ry

theorem link_is (co : Int) (A' : Option Addr) (m c' : Nat) (w : World) :
    Calls Try.prog 22 #[.agg #[.int .i64 co, .slice A' m c']] w fun e w' => e = .returned (.bool (co == 5)) ∧ Below w.heap.size w w' := by
  go_enter Try.func22, Try.ntmps22
  go_wp2
  go_ret
  exact ⟨by simp, (Below.refl _ _).alloc (Nat.le_refl _) _⟩

set_option maxHeartbeats 400000 in
theorem index5_any (A : Option Addr) (n c : Nat) (ps : List Po) (w : World) (h : RdO w A n c ps) :
    Calls Try.prog 21 #[.slice A n c, .func (.func 22) #[] #[]] w fun e w' => e = .returned (.int .i64 (placeL (osP ps) 5)) ∧ Below w.heap.size w w' := by
  have hl := Lib.hid h.len
  have hm := h.max
  have hcap := h.cap
  go_enter Try.func21, Try.ntmps21
  go_wp2
  go_loopw [8] (fun i wr => ∃ k : Nat, k ≤ n ∧ i = .int .i64 k ∧ (5 : Int) ∉ codesL ((osP ps).take k) ∧ Below w.heap.size w wr) (fun i _ => n - (intOf i).toNat)
  case atStart => exact ⟨0, by omega, rfl, by simp [codesL], Below.refl _ _⟩
  case round =>
    obtain ⟨k, hk, rfl, hs, hbw⟩ := hrel
    have HS := Lib.hid hs
    clear hs
    by_cases hlt : k < n
    · obtain ⟨b, o, co, A', m, c', l, rfl, hcell, hcell2, _, _, HO, _, _, _⟩ := (h.below hbw).at_ hlt
      have hsz := hbw.size
      go_wp2_with fail
      refine (link_is co A' m c' _).mono ?_
      rintro e w1 ⟨rfl, hb1⟩
      have hb01 := hbw.trans (hb1.mono hsz)
      by_cases he : co = 5
      · subst he
        have H : Hid (placeL (osP ps) 5 = (k : Int)) := by
          obtain ⟨h1, h2⟩ := HO.out
          exact place_hit h1 (by rw [h2]) HS.out
        go_wp2
        go_ret
        exact ⟨ret_int H.out.symm, hb01⟩
      · have hb : (co == 5) = false := by simpa using he
        have H : Hid ((5 : Int) ∉ codesL ((osP ps).take (k + 1))) := by
          obtain ⟨h1, h2⟩ := HO.out
          exact not_codes_next h1 HS.out (by rw [h2]; exact he)
        clear he
        go_wp2
        go_roundw
        case rel => exact ⟨k + 1, by omega, by go_num, H.out, hb01⟩
        case measure => simp [intOf]; omega
    · obtain rfl : k = n := by omega
      have H : Hid (placeL (osP ps) 5 = -1) := place_none (by have := HS.out; rwa [List.take_of_length_le (by rw [os_len, hl.out]; exact Nat.le_refl _)] at this)
      go_wp2
      go_ret
      exact ⟨ret_int H.out.symm, hbw⟩

/-- What LinkOf answers, the program's and the document's. -/
def LkR (w : World) (r : Option Nat) (e : Ending) (w' : World) : Prop := e = .returned (.tuple #[.int .i64 ((r.getD 0 : Nat) : Int), .bool r.isSome]) ∧ Below w.heap.size w w'

set_option maxHeartbeats 1600000 in
theorem linkOf_any (A : Option Addr) (n c : Nat) (l : List UInt8) (w : World) (h : Bs w A n c l) :
    Calls Try.prog 16 #[.slice A n c] w (LkR w (linkR l)) := by
  have HC := Lib.hid (parts_any A n c l w h)
  clear h
  by_cases hd : (5 : Int) ∈ codesL (partsR l).1
  rotate_left
  · have HP := Lib.hid (place_none hd)
    have H := Lib.hid (link_none hd)
    clear hd
    go_enter Try.func16, Try.ntmps16
    go_wp2_with fail
    refine HC.out.mono ?_
    rintro e w1 ⟨A1, n1, c1, ps, rfl, hps, hrd, hb1⟩
    have HI := Lib.hid (index5_any A1 n1 c1 ps w1 hrd)
    rw [hps, HP.out] at HI
    generalize (partsR l).2 = err
    go_wp2_with fail
    refine HI.out.mono ?_
    rintro e w2 ⟨rfl, hb2⟩
    go_wp2
    go_ret2
    rw [H.out]
    exact ⟨rfl, hb1.trans (hb2.mono hb1.size)⟩
  obtain ⟨i, hi, hp, hcode, hno⟩ := place_mem hd
  have HF := Lib.hid (find_hit (c := 5) hi hcode hno)
  have HP := Lib.hid hp
  obtain ⟨d, hdd⟩ : ∃ d, d = ((partsR l).1[i]).2 := ⟨_, rfl⟩
  rw [← hdd] at HF
  have HD : Hid (∃ h : i < (partsR l).1.length, ((partsR l).1[i]).2 = d) := ⟨hi, hdd.symm⟩
  clear hd hp hcode hno hdd hi
  by_cases h4 : d.length = 4
  · have H := Lib.hid (link_four HF.out h4)
    have HV : Hid (valL ((d.drop 0).take 4) = valL d) := by
      show valL ((d.drop 0).take 4) = valL d
      rw [List.drop_zero, List.take_of_length_le (by omega)]
    have H4 := Lib.hid h4
    clear h4
    go_enter Try.func16, Try.ntmps16
    go_wp2_with fail
    refine HC.out.mono ?_
    rintro e w1 ⟨A1, n1, c1, ps, rfl, hps, hrd, hb1⟩
    have HI := Lib.hid (index5_any A1 n1 c1 ps w1 hrd)
    rw [hps, HP.out] at HI
    have hin : i < n1 := by obtain ⟨g, _⟩ := HD.out; rw [← hps, os_len, hrd.len] at g; exact g
    generalize (partsR l).2 = err
    go_wp2_with fail
    refine HI.out.mono ?_
    rintro e w2 ⟨rfl, hb2⟩
    obtain ⟨b, o, co, A', m, c', d', rfl, hcell, hcell2, hbs, _, HO, HM, hmc, hc63⟩ := (hrd.below hb2).at_ hin
    obtain rfl : d' = d := by
      obtain ⟨g1, g2⟩ := HO.out
      obtain ⟨g3, g4⟩ := HD.out
      simp only [hps] at g2
      rw [g2] at g4
      exact g4
    obtain rfl : m = 4 := by rw [← HM.out]; exact H4.out
    have hi0 : (0 : Int) ≤ (i : Int) := by omega
    have hi1 : (i : Int) < (n1 : Int) := by omega
    clear hrd hps HI
    go_wp2_with fail
    refine (Cw.get_ok A' 4 c' d' 0 4 w2 hbs (by omega) (by omega) (by omega)).mono ?_
    rw [HV.out]
    rintro e w3 ⟨rfl, rfl⟩
    go_wp2
    go_ret2
    rw [H.out]
    exact ⟨rfl, hb1.trans (hb2.mono hb1.size)⟩
  · have H := Lib.hid (link_other HF.out h4)
    have H4 := Lib.hid h4
    clear h4
    go_enter Try.func16, Try.ntmps16
    go_wp2_with fail
    refine HC.out.mono ?_
    rintro e w1 ⟨A1, n1, c1, ps, rfl, hps, hrd, hb1⟩
    have HI := Lib.hid (index5_any A1 n1 c1 ps w1 hrd)
    rw [hps, HP.out] at HI
    have hin : i < n1 := by obtain ⟨g, _⟩ := HD.out; rw [← hps, os_len, hrd.len] at g; exact g
    generalize (partsR l).2 = err
    go_wp2_with fail
    refine HI.out.mono ?_
    rintro e w2 ⟨rfl, hb2⟩
    obtain ⟨b, o, co, A', m, c', d', rfl, hcell, hcell2, hbs, _, HO, HM, hmc, hc63⟩ := (hrd.below hb2).at_ hin
    obtain rfl : d' = d := by
      obtain ⟨g1, g2⟩ := HO.out
      obtain ⟨g3, g4⟩ := HD.out
      simp only [hps] at g2
      rw [g2] at g4
      exact g4
    have hne : ((m : Int) != 4) = true := by
      have e1 := HM.out
      have e2 := H4.out
      simp
      omega
    have hi0 : (0 : Int) ≤ (i : Int) := by omega
    have hi1 : (i : Int) < (n1 : Int) := by omega
    clear hrd hps HI hbs
    go_wp2
    go_ret2
    rw [H.out]
    exact ⟨rfl, hb1.trans (hb2.mono hb1.size)⟩
end Go.Proofs.Ytfdlhfindcngeaa.Rw
