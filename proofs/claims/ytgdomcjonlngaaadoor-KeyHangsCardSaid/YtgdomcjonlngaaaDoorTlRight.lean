/- What the program's Right and Find come to, and bytes.Clone. For all inputs. -/
import Derived.Test.YtgdomcjonlngaaaDoorTlPlace
import Derived.Lib.AppendZeros
import Derived.Lib.SliceRun
import Derived.Deep.RegionWith
namespace Go.Proofs.YtgdomcjonlngaaaDoor.Tw
open Go.RowKit Tl By

set_option maxHeartbeats 400000 in
theorem clone_any (A : Option Addr) (n c : Nat) (l : List UInt8) (w : World) (h : Bs w A n c l) (hn : n ≤ 140737488355328) :
    Calls Tryd.prog 35 #[.slice A n c] w (RB 5 w n l fun x => x) := by
  have q : ∀ (w : World) (a : Option Addr) (n c n' c' : Nat), (binOp .eql 22 (.slice a n c) (.slice none n' c')).run Tryd.prog w = .ok (.bool a.isNone) w := fun w a n c n' c' => Lib.run_eql_slice_nil w _ _ a n c n' c' Tryd.underlying22
  have hl := Lib.hid h.len
  cases A with
  | none =>
    have h0 : n = 0 := by
      rcases Nat.eq_zero_or_pos n with h0 | h0
      · exact h0
      · obtain ⟨b, o, e, _⟩ := h.at_ h0
        cases e
    subst h0
    obtain rfl : l = [] := List.length_eq_zero_iff.1 hl.out
    clear hl
    go_enter Tryd.func35, Tryd.ntmps35
    go_wp2
    go_ret
    exact ⟨none, 0, rfl, Own.nil _ _ _, Below.refl _ _⟩
  | some a =>
    go_enter Tryd.func35, Tryd.ntmps35
    go_wp2_with (at_builtin; refine wpList_app byP rfl (.tmp 5) (.tmp 6) rfl rfl (Own.lit0 5 w) rfl (h.alloc _) (by omega) (by simp) ?_; intro A' c' w2 hown2 hb2 _ _)
    go_ret
    exact ⟨A', c', by simp, by simpa using hown2, ((Below.refl _ _).alloc (Nat.le_refl _) _).trans hb2⟩

set_option maxHeartbeats 800000 in
theorem right_any (A : Option Addr) (n c : Nat) (ps : List Po) (w : World) (h : RdO w A n c ps) :
    Calls Tryd.prog 32 #[.slice A n c] w fun e w' => e = .returned (.bool (rightL (osP ps))) ∧ Below w.heap.size w w' := by
  have hl := Lib.hid h.len
  have hm := h.max
  have hcap := h.cap
  by_cases h60 : 60 < n
  · have H : Hid (rightL (osP ps) = false) := right_long (by rw [os_len, hl.out]; exact h60)
    go_enter Tryd.func32, Tryd.ntmps32
    go_wp2
    go_ret
    exact ⟨ret_bool H.out.symm, Below.refl _ _⟩
  go_enter Tryd.func32, Tryd.ntmps32
  go_wp2
  go_loopw [10] (fun i wr => ∃ k : Nat, k ≤ n ∧ i = .int .i64 k ∧ rightL ((osP ps).take k) = true ∧ Below w.heap.size w wr) (fun i _ => n - (intOf i).toNat)
  case atStart => exact ⟨0, by omega, rfl, rfl, Below.refl _ _⟩
  case round =>
    obtain ⟨k, hk, rfl, hs, hbw⟩ := hrel
    have HS := Lib.hid hs
    clear hs
    have hsz := hbw.size
    by_cases hlt : k < n
    · obtain ⟨b, o, co, A', m, c', l, rfl, hcell, hcell2, _, _, HO, HM, hmc, hc63⟩ := (h.below hbw).at_ hlt
      obtain ⟨A2, hA2, hrun2⟩ := opP.cut_h (h.below hbw) k (k : Int) rfl hk
      have hbA : ∀ x, Below w.heap.size w (wr.alloc x) := fun x => hbw.alloc hsz x
      have HN : Hid (¬ (1 ≤ co ∧ co ≤ 254 ∧ m ≤ 600) → rightL (osP ps) = false) := fun hf => by
        obtain ⟨h1, h2⟩ := HO.out
        refine right_unfit h1 ?_
        rw [h2]
        have := HM.out
        subst this
        exact hf
      by_cases h1 : co < 1
      · go_wp2
        go_ret
        exact ⟨ret_bool (HN.out (by omega)).symm, hbA _⟩
      by_cases h2 : 254 < co
      · go_wp2
        go_ret
        exact ⟨ret_bool (HN.out (by omega)).symm, hbA _⟩
      by_cases h3 : 600 < m
      · go_wp2
        go_ret
        exact ⟨ret_bool (HN.out (by omega)).symm, hbA _⟩
      have hb1 : decide (co < 1) = false := decide_eq_false h1
      have hb2 : decide (254 < co) = false := decide_eq_false h2
      have hb3 : decide (600 < m) = false := decide_eq_false h3
      clear HN
      have h1 : 1 ≤ co := by omega
      have h2 : co ≤ 254 := by omega
      by_cases hd : co ∈ codesL (osP (ps.take k))
      · obtain ⟨i, _, hp, _⟩ := place_mem hd
        have HP := Lib.hid hp
        have H : Hid (rightL (osP ps) = false) := by
          obtain ⟨g1, g2⟩ := HO.out
          refine right_twice g1 ?_
          rw [g2, ← os_take]
          exact hd
        have hge : (0 : Int) ≤ (i : Int) := by omega
        clear hp hd
        go_wp2_with fail
        go_region_with ((go_at_call 34; refine (place_any A2 k c (ps.take k) co _ (hA2.alloc _).drew).mono ?_; rw [HP.out]; rintro e w1 ⟨rfl, hb1⟩))
        all_goals
          go_wp2
          go_ret
          exact ⟨ret_bool H.out.symm, (hbA _).trans ((below_undrew hb1).mono (by simp; omega))⟩
      · have HP := Lib.hid (place_none hd)
        have H : Hid (rightL ((osP ps).take (k + 1)) = true) := by
          obtain ⟨g1, g2⟩ := HO.out
          have := HM.out
          subst this
          refine right_step g1 (by rw [os_len, hl.out]; omega) HS.out (by rw [g2]; exact ⟨h1, h2, by simpa using h3⟩) (by rw [g2, ← os_take]; exact hd)
        clear hd
        go_wp2_with fail
        go_region_with ((go_at_call 34; refine (place_any A2 k c (ps.take k) co _ (hA2.alloc _).drew).mono ?_; rw [HP.out]; rintro e w1 ⟨rfl, hb1⟩))
        all_goals
          go_wp2
          go_roundw
          case rel => exact ⟨k + 1, by omega, by go_num, H.out, (hbA _).trans ((below_undrew hb1).mono (by simp; omega))⟩
          case measure => simp [intOf]; omega
    · obtain rfl : k = n := by omega
      have H : Hid (rightL (osP ps) = true) := by have := HS.out; rwa [List.take_of_length_le (by rw [os_len, hl.out]; exact Nat.le_refl _)] at this
      go_wp2
      go_ret
      exact ⟨ret_bool H.out.symm, hbw⟩

/-- What the program's Find answers. -/
def FoundB (w : World) (r : Option (List UInt8)) (e : Ending) (w' : World) : Prop := ∃ A m c, e = .returned (.tuple #[.slice A m c, .bool r.isSome]) ∧ Bs w' A m c (r.getD []) ∧ Below w.heap.size w w'
set_option maxHeartbeats 400000 in
theorem find_any (A : Option Addr) (n c : Nat) (ps : List Po) (code : Int) (w : World) (h : RdO w A n c ps) (hsm : ∀ p ∈ ps, p.l.length ≤ 1000) :
    Calls Tryd.prog 23 #[.slice A n c, .int .i64 code] w (FoundB w (findL (osP ps) code)) := by
  have hl := Lib.hid h.len
  have hm := h.max
  have hcap := h.cap
  have HSM := Lib.hid hsm
  clear hsm
  by_cases hd : code ∈ codesL (osP ps)
  · obtain ⟨i, hi, hp, hcode, hno⟩ := place_mem hd
    have hin : i < n := by rw [os_len, hl.out] at hi; exact hi
    obtain ⟨b, o, co, A', m, c', l, rfl, _, _, _, HP0, HO, HM, _, _⟩ := h.at_ hin
    have HF : Hid (findL (osP ps) code = some l) := by
      obtain ⟨g1, g2⟩ := HO.out
      have := find_hit (c := code) hi hcode hno
      rw [g2] at this
      exact this
    have HPL := Lib.hid hp
    have hm1 : m ≤ 1000 := by
      have h1 := HSM.out _ (List.mem_of_getElem? HP0.out)
      have h2 := HM.out
      subst h2
      exact h1
    have HB : Hid (∀ W, Below w.heap.size w W → W.cell? ⟨b, o + i * 2 + 1, none⟩ = some (.slice A' m c') ∧ Bs W A' m c' l) := fun W hW => by
      obtain ⟨b2, o2, co2, A2, m2, c2, l2, e, h1, h2, h3, h4, h5, h6, _⟩ := (h.below hW).at_ hin
      cases e
      have h7 := h4.out.symm.trans HP0.out
      injection h7 with h7
      injection h7 with e1 e2 e3 e4
      subst e2; subst e3; subst e4
      have e5 := h6.out
      have e6 := HM.out
      rw [e5] at e6
      subst e6
      exact ⟨h2, h3⟩
    clear hp hcode hno hd hi HO
    go_enter Tryd.func23, Tryd.ntmps23
    go_wp2_with fail
    refine (place_any _ n c ps code _ h).mono ?_
    rw [HPL.out]
    rintro e w1 ⟨rfl, hb1⟩
    obtain ⟨hcell, hbs⟩ := HB.out w1 hb1
    go_wp2_with fail
    refine (clone_any A' m c' l _ hbs (by omega)).mono ?_
    rintro e w2 ⟨A3, c3, rfl, hown3, hb2⟩
    go_wp2
    go_ret2
    exact ⟨A3, m, c3, by rw [HF.out]; rfl, by rw [HF.out]; exact hown3.bs, hb1.trans (hb2.mono hb1.size)⟩
  · have HP := Lib.hid (place_none hd)
    have HF := Lib.hid (find_none hd)
    clear hd
    go_enter Tryd.func23, Tryd.ntmps23
    go_wp2_with fail
    refine (place_any _ n c ps code _ h).mono ?_
    rw [HP.out]
    rintro e w1 ⟨rfl, hb1⟩
    go_wp2
    go_ret2
    exact ⟨none, 0, 0, by rw [HF.out]; rfl, by rw [HF.out]; exact Bs.nil _, hb1⟩
end Go.Proofs.YtgdomcjonlngaaaDoor.Tw
