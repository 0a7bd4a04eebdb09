/- What the document's Bytes and Link come to. Conditions: for Bytes, 100000 options at most. -/
import Derived.Test.YtfdlhfindcngeaaRwRef
namespace Go.Proofs.Ytfdlhfindcngeaa.Rw
open Go.RowKit Tl Co By Ry

set_option maxRecDepth 8000 in
set_option maxHeartbeats 4000000 in
theorem refBytes_any (A : Option Addr) (n c : Nat) (ps : List Po) (w : World) (h : RdO w A n c ps) (hn : n ≤ 100000) :
    Calls Try.prog 15 #[.slice A n c] w (ByR w (bytesR (osP ps))) := by
  have hl := Lib.hid h.len
  have hm := h.max
  have hcap := h.cap
  go_enter Try.func15, Try.ntmps15
  go_wp2
  go_loop [4] (fun i => ∃ k : Nat, k ≤ n ∧ i = .int .i64 k ∧ Hid (∀ o ∈ (osP ps).take k, FitR o)) (fun i => n - (intOf i).toNat)
  case atStart => exact ⟨0, by omega, rfl, fun o ho => by simp at ho⟩
  case round =>
    obtain ⟨k, hk, rfl, HE⟩ := hrel
    by_cases hlt : k < n
    · obtain ⟨b, o, co, A', m, c', l, rfl, hcell, hcell2, _, _, HO, HM, hmc, hc63⟩ := h.at_ hlt
      have HN : Hid (¬ (0 ≤ co ∧ co ≤ 255 ∧ m ≤ 255) → bytesR (osP ps) = ([], 1)) := fun hf => by
        obtain ⟨g1, g2⟩ := HO.out
        refine bytesR_arg (List.getElem_mem g1) ?_
        rw [g2]
        have := HM.out
        subst this
        exact hf
      have HY : Hid ((0 ≤ co ∧ co ≤ 255 ∧ m ≤ 255) → ∀ o ∈ (osP ps).take (k + 1), FitR o) := fun hf => by
        obtain ⟨g1, g2⟩ := HO.out
        refine fit_next g1 HE.out ?_
        rw [g2]
        have := HM.out
        subst this
        exact hf
      have hi1 : (0 : Int) ≤ (k : Int) := by omega
      have hi2 : (k : Int) < (n : Int) := by omega
      by_cases h1 : co < 0
      · have H := Lib.hid (HN.out (by omega))
        go_wp2
        go_ret2
        exact ByR.err H.out (Below.refl _ _)
      by_cases h2 : 255 < co
      · have H := Lib.hid (HN.out (by omega))
        go_wp2
        go_ret2
        exact ByR.err H.out (Below.refl _ _)
      by_cases h3 : 255 < m
      · have H := Lib.hid (HN.out (by omega))
        go_wp2
        go_ret2
        exact ByR.err H.out (Below.refl _ _)
      have H := Lib.hid (HY.out (by omega))
      go_wp2
      go_round
      case rel => exact ⟨k + 1, by omega, by go_num, H⟩
      case measure => simp [intOf]; omega
    · obtain rfl : k = n := by omega
      have HT : Hid ((osP ps).take k = osP ps) := List.take_of_length_le (by rw [os_len, hl.out]; exact Nat.le_refl _)
      rw [HT.out] at HE
      go_wp2
      go_loopw [5, 6] (fun v i wr => ∃ (j M : Nat) (A2 : Option Addr) (c2 : Nat), j ≤ k ∧ i = .int .i64 j ∧ v = .slice A2 M c2 ∧ M ≤ 600 ∧ Own 5 w.heap.size wr A2 M c2 (encL ((osP ps).take j)) ∧ Below w.heap.size w wr) (fun _ i _ => k - (intOf i).toNat)
      case atStart => exact ⟨0, 0, none, 0, by omega, rfl, rfl, by omega, Own.nil _ _ _, Below.refl _ _⟩
      case round =>
        obtain ⟨j, M, A2, c2, hj, rfl, rfl, hM, hown, hbw⟩ := hrel
        have hsz := hbw.size
        by_cases hlt : j < k
        · obtain ⟨b, o, co, A', m, c', l, rfl, hcell, hcell2, hbs, _, HO, HM, hmc, hc63, hblt⟩ := h.atU hbw hlt
          have hfit : 0 ≤ co ∧ co ≤ 255 ∧ m ≤ 255 := by
            obtain ⟨g1, g2⟩ := HO.out
            have := HE.out _ (List.getElem_mem g1)
            rw [g2] at this
            have e := HM.out
            subst e
            exact this
          obtain ⟨hf1, hf2, hf3⟩ := hfit
          have HJ : Hid (encL ((osP ps).take (j + 1)) = encL ((osP ps).take j) ++ [codeB co, UInt8.ofNat m] ++ l) := by
            obtain ⟨g1, g2⟩ := HO.out
            have e := HM.out
            show encL ((osP ps).take (j + 1)) = _
            rw [enc_next g1, g2]
            unfold encO
            rw [← e]
            simp
          have HL : Hid ((encL ((osP ps).take (j + 1))).length = M + 2 + m) := by
            have e1 := hown.bs.len
            have e2 := HM.out
            show (encL ((osP ps).take (j + 1))).length = M + 2 + m
            rw [HJ.out, List.length_append, List.length_append, e1, e2]
            rfl
          have hw1 := wrap_codeR hf1 hf2
          have hw2 := wrap_lenR hf3
          generalize codeB co = x at hw1 HJ
          generalize UInt8.ofNat m = y at hw2 HJ
          have HW1 := Lib.hid hw1
          have HW2 := Lib.hid hw2
          have hba : Below wr.heap.size wr (wr.alloc (Obj.cells #[.int .u8 (x.toNat : Int), .int .u8 (y.toNat : Int)] 5)).drew := ((Below.refl _ _).alloc (Nat.le_refl _) _).drew
          have hlit : Bs (wr.alloc (Obj.cells #[.int .u8 (x.toNat : Int), .int .u8 (y.toNat : Int)] 5)).drew (some ⟨wr.heap.size, 0, none⟩) 2 2 [x, y] := (Own.lit2 5 wr x y).bs
          have howna := hown.below hba
          have hba' : Below w.heap.size wr (wr.alloc (Obj.cells #[.int .u8 (x.toNat : Int), .int .u8 (y.toNat : Int)] 5)).drew := hba.mono hsz
          have hszb := Nat.le_trans hsz hba.size
          have HCE : Hid (∀ W, Below w.heap.size wr W → W.cell? ⟨b, o + j * 2 + 1, none⟩ = some (.slice A' m c') ∧ Bs W A' m c' l) := fun W hW => ⟨(hW.cell (p := ⟨b, o + j * 2 + 1, none⟩) hblt).trans hcell2, (hbs.below hW).bs⟩
          have hi1 : (0 : Int) ≤ (j : Int) := by omega
          have hi2 : (j : Int) < (k : Int) := by omega
          have hbM : M + 2 ≤ 140737488355328 := by omega
          have hbM2 : M + 2 + m ≤ 140737488355328 := by omega
          clear hown hba hbs hw1 hw2
          go_wp2_with fail
          have hw1 := HW1.out
          have hw2 := HW2.out
          go_region_law (refine step_appB byP (by rfl) (.tmp 42) (.tmp 56) (by rfl) (by rfl) howna (by rfl) hlit hbM hszb ?_; intro A3 c3 w3 hown3 hb3)
          all_goals
            clear hw1 hw2
            have hb13 : Below w.heap.size wr w3 := hba'.trans hb3
            obtain ⟨hc3, hbs3⟩ := HCE.out w3 hb13
            have hs3 : w.heap.size ≤ w3.heap.size := Nat.le_trans hsz hb13.size
            go_wp2_with (at_builtin; refine wpList_app byP rfl (.tmp 58) (.tmp 63) rfl rfl hown3 rfl hbs3 hbM2 hs3 ?_; intro A4 c4 w4 hown4 hb4 _ _; by_cases h6 : 600 < M + 2 + m)
            · have H : Hid (bytesR (osP ps) = ([], 3)) := bytesR_full HE.out (by have e1 := enc_mono (l := osP ps) (j + 1); have e2 := HL.out; omega)
              go_wp2
              go_ret2
              exact ByR.err H.out ((hbw.trans hb13).trans hb4)
            · have h6' : M + 2 + m ≤ 600 := by omega
              clear h6
              go_wp2
              go_roundw
              case rel => exact ⟨j + 1, M + 2 + m, A4, c4, by omega, by go_num, rfl, h6', by rw [HJ.out]; exact hown4, (hbw.trans hb13).trans hb4⟩
              case measure => simp [intOf]; omega
        · obtain rfl : j = k := by omega
          rw [HT.out] at hown
          have H : Hid (bytesR (osP ps) = (encL (osP ps), 0)) := bytesR_ok HE.out (by have e := hown.bs.len; omega)
          go_wp2
          go_ret2
          exact ByR.good H.out hown hbw

set_option maxHeartbeats 1600000 in
theorem refLink_any (A : Option Addr) (n c : Nat) (l : List UInt8) (w : World) (h : Bs w A n c l) :
    Calls Try.prog 17 #[.slice A n c] w (LkR w (linkR l)) := by
  have HC := Lib.hid (refParts_any A n c l w h)
  clear h
  go_enter Try.func17, Try.ntmps17
  go_wp2_with fail
  refine HC.out.mono ?_
  rintro e w1 ⟨A1, n1, c1, ps, rfl, hps, hrd, hb1⟩
  have HPS := Lib.hid hps
  have hl := Lib.hid hrd.len
  have hm := hrd.max
  have hcap := hrd.cap
  generalize (partsR l).2 = err
  clear hps
  go_wp2
  go_loop [6] (fun i => ∃ k : Nat, k ≤ n1 ∧ i = .int .i64 k ∧ Hid ((5 : Int) ∉ codesL ((osP ps).take k))) (fun i => n1 - (intOf i).toNat)
  case atStart => exact ⟨0, by omega, rfl, by show (5 : Int) ∉ codesL ((osP ps).take 0); simp [codesL]⟩
  case round =>
    obtain ⟨k, hk, rfl, HS⟩ := hrel
    by_cases hlt : k < n1
    · obtain ⟨b, o, co, A', m, c', d, rfl, hcell, hcell2, hbs, _, HO, HM, hmc, hc63⟩ := hrd.at_ hlt
      have hi1 : (0 : Int) ≤ (k : Int) := by omega
      have hi2 : (k : Int) < (n1 : Int) := by omega
      by_cases he : co = 5
      · subst he
        have HF : Hid (findL (partsR l).1 5 = some d) := by
          obtain ⟨h1, h2⟩ := HO.out
          have := find_hit (c := 5) h1 (by rw [h2]) HS.out
          rw [h2, HPS.out] at this
          exact this
        by_cases h4 : m = 4
        · subst h4
          have H := Lib.hid (link_four HF.out HM.out)
          go_wp2_with fail
          refine (Cw.value_any A' 4 c' d _ hbs (by omega)).mono ?_
          rintro e w2 ⟨rfl, rfl⟩
          go_wp2
          go_ret2
          rw [H.out]
          exact ⟨rfl, hb1⟩
        · have H := Lib.hid (link_other HF.out (by rw [HM.out]; exact h4))
          have hne : ((m : Int) == 4) = false := by simp; omega
          clear h4
          go_wp2
          go_ret2
          rw [H.out]
          exact ⟨rfl, hb1⟩
      · have hne : (co == 5) = false := by simpa using he
        have H : Hid ((5 : Int) ∉ codesL ((osP ps).take (k + 1))) := by
          obtain ⟨h1, h2⟩ := HO.out
          exact not_codes_next h1 HS.out (by rw [h2]; exact he)
        clear he
        go_wp2
        go_round
        case rel => exact ⟨k + 1, by omega, by go_num, H⟩
        case measure => simp [intOf]; omega
    · obtain rfl : k = n1 := by omega
      have H : Hid (linkR l = none) := link_none (by have := HS.out; rwa [List.take_of_length_le (by rw [os_len, hl.out]; exact Nat.le_refl _), HPS.out] at this)
      go_wp2
      go_ret2
      rw [H.out]
      exact ⟨rfl, hb1⟩
end Go.Proofs.Ytfdlhfindcngeaa.Rw
