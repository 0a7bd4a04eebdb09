/- What the document's Fair, has, named and Find come to. For all lists whose names fit. -/
import Derived.Test.YtoifdjpflannlaaDwKnows
set_option maxRecDepth 8000
namespace Go.Proofs.Ytoifdjpflannlaa.Dw
open Go.RowKit By Dk

theorem refFair_any (s : List UInt8) (w : World) (hs : s.length ≤ 9223372036854775807) :
    Calls Try.prog 67 #[.string (ba s)] w fun e w' => e = .returned (.bool (decide (FairN s))) ∧ w = w' := by
  have hz := Lib.hid (ba_size s)
  by_cases h1 : (0 : Int) < ((ba s).size : Int)
  · by_cases h2 : ((ba s).size : Int) ≤ 16
    · go_enter Try.func67, Try.ntmps67
      go_wp2
      go_ret
      exact ⟨ret_bool (decide_eq_true (by have := hz.out; unfold FairN; omega)).symm, rfl⟩
    · go_enter Try.func67, Try.ntmps67
      go_wp2
      go_ret
      exact ⟨ret_bool (decide_eq_false (by have := hz.out; unfold FairN; omega)).symm, rfl⟩
  · go_enter Try.func67, Try.ntmps67
    go_wp2
    go_ret
    exact ⟨ret_bool (decide_eq_false (by have := hz.out; unfold FairN; omega)).symm, rfl⟩

theorem files_next {l : List E} {k : Nat} {s : N} {f : Int} (h : l[k]? = some (s, f)) : filesOf (l.take (k + 1)) = filesOf (l.take k) ++ [f] := by
  rw [take_next h, filesOf, List.map_append]
  rfl
set_option maxHeartbeats 400000 in
theorem refHas_any (U : Nat) (A : Option Addr) (n c : Nat) (l : List E) (m : Nat) (f : Int) (w : World) (h : RdE U w A n c l) (hm : m ≤ n) :
    Calls Try.prog 100 #[.slice A n c, .int .i64 (m : Int), .int .i64 f] w fun e w' => e = .returned (.bool (decide (f ∈ filesOf (l.take m)))) ∧ w = w' := by
  have hmx := h.max
  have hcap := h.cap
  go_enter Try.func100, Try.ntmps100
  go_wp2
  go_loop [7] (fun i => ∃ k : Nat, k ≤ m ∧ i = .int .i64 k ∧ f ∉ filesOf (l.take k)) (fun i => m - (intOf i).toNat)
  case atStart => exact ⟨0, by omega, rfl, by simp [filesOf]⟩
  case round =>
    obtain ⟨k, hk, rfl, hs⟩ := hrel
    have HS := Lib.hid hs
    clear hs
    by_cases hlt : k < m
    · obtain ⟨b, o, s, g, rfl, _, HE, c1, c2⟩ := atE h (show k < n by omega)
      have hkn : (k : Int) < (n : Int) := by omega
      have HN := Lib.hid (files_next HE.out)
      by_cases he : g = f
      · have H : Hid (f ∈ filesOf (l.take m)) := by
          show _ ∈ _
          have h1 : f ∈ filesOf (l.take (k + 1)) := by rw [HN.out, he]; simp
          have h2 : l.take (k + 1) = (l.take m).take (k + 1) := by rw [List.take_take]; congr 1; omega
          rw [h2] at h1
          unfold filesOf at h1 ⊢
          obtain ⟨x, hx, hxf⟩ := List.mem_map.1 h1
          exact List.mem_map.2 ⟨x, List.mem_of_mem_take hx, hxf⟩
        have hb : (g == f) = true := by simpa using he
        clear he HE
        go_wp2
        go_ret
        exact ⟨ret_bool (decide_eq_true H.out).symm, rfl⟩
      · have H : Hid (f ∉ filesOf (l.take (k + 1))) := by
          show ¬ _
          rw [HN.out]
          intro hx
          rcases List.mem_append.1 hx with hx | hx
          · exact HS.out hx
          · simp at hx; exact he hx.symm
        have hb : (g == f) = false := by simpa using he
        clear he HE
        go_wp2
        go_round
        case rel => exact ⟨k + 1, by omega, by go_num, H.out⟩
        case measure => simp [intOf]; omega
    · obtain rfl : k = m := by omega
      go_wp2
      go_ret
      exact ⟨ret_bool (decide_eq_false HS.out).symm, rfl⟩

set_option maxHeartbeats 1000000 in
theorem refNamed_any (A : Option Addr) (n c : Nat) (l : List E) (m : Nat) (w : World) (h : RdE w.heap.size w A n c l) (hsm : ∀ e ∈ l, e.1.length ≤ 9223372036854775807) :
    Calls Try.prog 99 #[.slice A n c, .int .i64 (m : Int)] w fun e w' => e = .returned (.bool (decide (Named l m))) ∧ Below w.heap.size w w' := by
  have hl := Lib.hid h.len
  have hm := h.max
  have hcap := h.cap
  have HSM := Lib.hid hsm
  clear hsm
  go_enter Try.func99, Try.ntmps99
  go_wp2
  go_loopw [5] (fun i wr => ∃ k : Nat, k ≤ n ∧ i = .int .i64 k ∧ Named (l.take k) m ∧ Below w.heap.size w wr) (fun i _ => n - (intOf i).toNat)
  case atStart => exact ⟨0, by omega, rfl, ⟨(fun e he => by cases he), List.Pairwise.nil⟩, Below.refl _ _⟩
  case round =>
    obtain ⟨k, hk, rfl, hs, hbw⟩ := hrel
    have HS := Lib.hid hs
    clear hs
    by_cases hlt : k < n
    · have hR := h.below hbw
      have HHAS := Lib.hid (fun g => refHas_any w.heap.size A n c l k g wr hR hk)
      obtain ⟨b, o, s, f, rfl, hblt, HE, c1, c2⟩ := atE hR hlt
      have hss : s.length ≤ 9223372036854775807 := HSM.out _ (List.mem_of_getElem? HE.out)
      have HRN := refFair_any s wr hss
      by_cases hfair : FairN s
      rotate_left
      · have H := Lib.hid (decide_eq_false (named_no (m := m) HE.out fun k => hfair k.1))
        have hd : decide (FairN s) = false := decide_eq_false hfair
        rw [hd] at HRN
        clear hd hfair
        go_wp2_with fail
        refine HRN.mono ?_
        rintro e w1 ⟨rfl, rfl⟩
        go_wp2
        go_ret
        exact ⟨ret_bool H.out.symm, hbw⟩
      have hd : decide (FairN s) = true := decide_eq_true hfair
      rw [hd] at HRN
      have HRN := Lib.hid HRN
      clear hd
      by_cases h0 : f < 0
      · have H := Lib.hid (decide_eq_false (named_no (m := m) HE.out fun k => by omega))
        go_wp2_with fail
        refine HRN.out.mono ?_
        rintro e w1 ⟨rfl, rfl⟩
        go_wp2
        go_ret
        exact ⟨ret_bool H.out.symm, hbw⟩
      by_cases h1 : (m : Int) ≤ f
      · have H := Lib.hid (decide_eq_false (named_no (m := m) HE.out fun k => by omega))
        go_wp2_with fail
        refine HRN.out.mono ?_
        rintro e w1 ⟨rfl, rfl⟩
        go_wp2
        go_ret
        exact ⟨ret_bool H.out.symm, hbw⟩
      by_cases hin : f ∈ filesOf (l.take k)
      · have hd : decide (f ∈ filesOf (l.take k)) = true := decide_eq_true hin
        have HH := HHAS.out f
        rw [hd] at HH
        have H : Hid (decide (Named l m) = false) := decide_eq_false (by
          obtain ⟨⟨t', g'⟩, hx, hg'⟩ := List.mem_map.1 hin
          obtain ⟨i, hi⟩ := List.mem_iff_getElem?.1 hx
          have hi1 := (List.getElem?_eq_some_iff.1 hi).1
          rw [List.length_take] at hi1
          rw [List.getElem?_take, if_pos (by omega)] at hi
          simp only at hg'
          subst hg'
          exact named_no_file HE.out (by omega) hi)
        have HH := Lib.hid HH
        clear hd hin hfair HHAS
        go_wp2_with fail
        refine HRN.out.mono ?_
        rintro e w1 ⟨rfl, rfl⟩
        go_wp2_with fail
        refine HH.out.mono ?_
        rintro e w1 ⟨rfl, rfl⟩
        go_wp2
        go_ret
        exact ⟨ret_bool H.out.symm, hbw⟩
      have hd : decide (f ∈ filesOf (l.take k)) = false := decide_eq_false hin
      have HH := HHAS.out f
      rw [hd] at HH
      have HH := Lib.hid HH
      clear hd HHAS
      have hno : ∀ x ∈ l.take k, x.2 ≠ f := fun x hx k => hin (List.mem_map.2 ⟨x, hx, k⟩)
      have HNO := Lib.hid hno
      clear hin hno
      by_cases hk0 : k = 0
      · subst hk0
        rw [Nat.zero_mul, Nat.add_zero] at c1 c2
        have H : Hid (Named (l.take (0 + 1)) m) := by
          show Named _ _
          rw [take_next HE.out]
          exact named_snoc HS.out hfair (by omega) (by omega) (fun x hx => by cases hx) HNO.out
        clear hfair
        go_wp2_with fail
        refine HRN.out.mono ?_
        rintro e w1 ⟨rfl, rfl⟩
        go_wp2_with fail
        refine HH.out.mono ?_
        rintro e w1 ⟨rfl, rfl⟩
        go_wp2_with fail
        go_quiet (fail)
        go_wp2
        go_roundw
        case rel => exact ⟨1, by omega, by go_num, H.out, below_drewN hbw _⟩
        case measure => simp [intOf]; omega
      obtain ⟨j, rfl⟩ : ∃ j, k = j + 1 := ⟨k - 1, by omega⟩
      obtain ⟨b', o', t, g, eA, _, HE2, d1, d2⟩ := atE hR (k := j) (by omega)
      obtain ⟨rfl, rfl⟩ : b = b' ∧ o = o' := by
        simp only [Option.some.injEq, Addr.mk.injEq, and_true] at eA
        exact eA
      clear eA d2
      by_cases hts : t < s
      rotate_left
      · have H := Lib.hid (decide_eq_false (named_no_lt (m := m) HE2.out HE.out hts))
        have hl0 := less_no hts
        clear hts hfair
        go_wp2_with fail
        refine HRN.out.mono ?_
        rintro e w1 ⟨rfl, rfl⟩
        go_wp2_with fail
        refine HH.out.mono ?_
        rintro e w1 ⟨rfl, rfl⟩
        go_wp2_with fail
        go_quiet (fail)
        go_wp2
        go_ret
        exact ⟨ret_bool H.out.symm, below_drewN hbw _⟩
      have hl1 := less_yes hts
      have HB := Lib.hid (all_below HS.out.2 HE2.out hts)
      have H : Hid (Named (l.take (j + 1 + 1)) m) := by
        show Named _ _
        rw [take_next HE.out]
        exact named_snoc HS.out hfair (by omega) (by omega) HB.out HNO.out
      clear hts hfair
      go_wp2_with fail
      refine HRN.out.mono ?_
      rintro e w1 ⟨rfl, rfl⟩
      go_wp2_with fail
      refine HH.out.mono ?_
      rintro e w1 ⟨rfl, rfl⟩
      go_wp2_with fail
      go_quiet (fail)
      go_wp2
      go_roundw
      case rel => exact ⟨j + 1 + 1, by omega, by go_num, H.out, below_drewN hbw _⟩
      case measure => simp [intOf]; omega
    · obtain rfl : k = n := by omega
      have H : Hid (decide (Named l m) = true) := decide_eq_true (by have := HS.out; rwa [List.take_of_length_le (by rw [hl.out]; exact Nat.le_refl _)] at this)
      go_wp2
      go_ret
      exact ⟨ret_bool H.out.symm, hbw⟩

/-! ### Find -/
def fiV (o : Option Int) : Int := match o with
  | none => -1
  | some f => f
theorem find_first : ∀ {l : List E} {j : Nat} {s t : N} {f : Int}, l[j]? = some (s, f) → s = t → (∀ e ∈ l.take j, e.1 ≠ t) → findE l t = some f
  | [], _, _, _, _, h, _, _ => by simp at h
  | e :: l, 0, s, t, f, h, hs, _ => by
    simp at h
    subst h
    rw [findE, if_pos hs]
  | e :: l, j + 1, s, t, f, h, hs, hn => by
    rw [findE, if_neg (hn e (by simp))]
    exact find_first (by simpa using h) hs fun a ha => hn a (by rw [List.take_succ_cons]; exact .tail _ ha)
set_option maxHeartbeats 400000 in
theorem refFind_any (U : Nat) (A : Option Addr) (n c : Nat) (l : List E) (t : N) (w : World) (h : RdE U w A n c l) :
    Calls Try.prog 68 #[.slice A n c, .string (ba t)] w fun e w' => e = .returned (.int .i64 (fiV (findE l t))) ∧ w = w' := by
  have hl := Lib.hid h.len
  have hmx := h.max
  have hcap := h.cap
  go_enter Try.func68, Try.ntmps68
  go_wp2
  go_loop [5] (fun i => ∃ k : Nat, k ≤ n ∧ i = .int .i64 k ∧ ∀ e ∈ l.take k, e.1 ≠ t) (fun i => n - (intOf i).toNat)
  case atStart => exact ⟨0, by omega, rfl, by simp⟩
  case round =>
    obtain ⟨k, hk, rfl, hs⟩ := hrel
    have HS := Lib.hid hs
    clear hs
    by_cases hlt : k < n
    · obtain ⟨b, o, s, g, rfl, _, HE, c1, c2⟩ := atE h hlt
      by_cases he : s = t
      · have H := Lib.hid (find_first HE.out he HS.out)
        have hb := same_yes he
        clear he HE
        go_wp2
        go_ret
        exact ⟨ret_int (by rw [H.out]; rfl), rfl⟩
      · have H : Hid (∀ e ∈ l.take (k + 1), e.1 ≠ t) := by
          show ∀ e ∈ _, _
          rw [take_next HE.out]
          intro e he'
          rcases List.mem_append.1 he' with hx | hx
          · exact HS.out e hx
          · simp at hx; subst hx; exact he
        have hb := same_no he
        clear he HE
        go_wp2
        go_round
        case rel => exact ⟨k + 1, by omega, by go_num, H.out⟩
        case measure => simp [intOf]; omega
    · obtain rfl : k = n := by omega
      have H : Hid (findE l t = none) := find_none.2 (by have := HS.out; rwa [List.take_of_length_le (by rw [hl.out]; exact Nat.le_refl _)] at this)
      go_wp2
      go_ret
      exact ⟨ret_int (by rw [H.out]; rfl), rfl⟩
end Go.Proofs.Ytoifdjpflannlaa.Dw
