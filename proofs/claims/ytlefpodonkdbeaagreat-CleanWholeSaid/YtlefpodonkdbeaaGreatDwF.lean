/- What the document's Fair, has, named and Find come to. For all lists whose names fit. -/
import Derived.Test.YtlefpodonkdbeaaGreatDwE
import Derived.Deep.RegionLaw
import Derived.Deep.CutRange
section
set_option maxRecDepth 8000
namespace Go.Proofs.YtlefpodonkdbeaaGreat.Dw
open Go.RowKit By Dk

theorem refFair_any (s : List UInt8) (w : World) (hs : s.length ≤ 9223372036854775807) :
    Calls Tryz.prog 128 #[.string (ba s)] w fun e w' => e = .returned (.bool (decide (FairN s))) ∧ w = w' := by
  have hz := Lib.hid (ba_size s)
  by_cases h1 : (0 : Int) < ((ba s).size : Int)
  · by_cases h2 : ((ba s).size : Int) ≤ 16
    · go_enter Tryz.func128, Tryz.ntmps128
      go_wp2
      go_ret
      exact ⟨ret_bool (decide_eq_true (by have := hz.out; unfold FairN; omega)).symm, rfl⟩
    · go_enter Tryz.func128, Tryz.ntmps128
      go_wp2
      go_ret
      exact ⟨ret_bool (decide_eq_false (by have := hz.out; unfold FairN; omega)).symm, rfl⟩
  · go_enter Tryz.func128, Tryz.ntmps128
    go_wp2
    go_ret
    exact ⟨ret_bool (decide_eq_false (by have := hz.out; unfold FairN; omega)).symm, rfl⟩

theorem files_next {l : List E} {k : Nat} {s : N} {f : Int} (h : l[k]? = some (s, f)) : filesOf (l.take (k + 1)) = filesOf (l.take k) ++ [f] := by
  rw [take_next h, filesOf, List.map_append]
  rfl
set_option maxHeartbeats 400000 in
theorem refHas_any (U : Nat) (A : Option Addr) (n c : Nat) (l : List E) (m : Nat) (f : Int) (w : World) (h : RdE U w A n c l) (hm : m ≤ n) :
    Calls Tryz.prog 129 #[.slice A n c, .int .i64 (m : Int), .int .i64 f] w fun e w' => e = .returned (.bool (decide (f ∈ filesOf (l.take m)))) ∧ w = w' := by
  have hmx := h.max
  have hcap := h.cap
  go_enter Tryz.func129, Tryz.ntmps129
  go_wp2
  go_loop [7] (fun i => ∃ k : Nat, k ≤ m ∧ i = .int .i64 k ∧ f ∉ filesOf (l.take k)) (fun i => m - (intOf i).toNat)
  case atStart => exact ⟨0, by omega, rfl, by simp [filesOf]⟩
  case round =>
    obtain ⟨k, hk, rfl, hs⟩ := hrel
    have HS := Lib.hid hs
    clear hs
    by_cases hlt : k < m
    · obtain ⟨b, o, s, g, rfl, _, HE, c1, c2⟩ := atE h (show k < n by omega)
      have hkn : (k : Int) < (n : Int) := by omega
      have HN := Lib.hid (files_next HE.out)
      by_cases he : g = f
      · have H : Hid (f ∈ filesOf (l.take m)) := by
          show _ ∈ _
          have h1 : f ∈ filesOf (l.take (k + 1)) := by rw [HN.out, he]; simp
          have h2 : l.take (k + 1) = (l.take m).take (k + 1) := by rw [List.take_take]; congr 1; omega
          rw [h2] at h1
          unfold filesOf at h1 ⊢
          obtain ⟨x, hx, hxf⟩ := List.mem_map.1 h1
          exact List.mem_map.2 ⟨x, List.mem_of_mem_take hx, hxf⟩
        have hb : (g == f) = true := by simpa using he
        clear he HE
        go_wp2
        go_ret
        exact ⟨ret_bool (decide_eq_true H.out).symm, rfl⟩
      · have H : Hid (f ∉ filesOf (l.take (k + 1))) := by
          show ¬ _
          rw [HN.out]
          intro hx
          rcases List.mem_append.1 hx with hx | hx
          · exact HS.out hx
          · simp at hx; exact he hx.symm
        have hb : (g == f) = false := by simpa using he
        clear he HE
        go_wp2
        go_round
        case rel => exact ⟨k + 1, by omega, by go_num, H.out⟩
        case measure => simp [intOf]; omega
    · obtain rfl : k = m := by omega
      go_wp2
      go_ret
      exact ⟨ret_bool (decide_eq_false HS.out).symm, rfl⟩

set_option maxHeartbeats 1000000 in
theorem refNamed_any (A : Option Addr) (n c : Nat) (l : List E) (m : Nat) (w : World) (h : RdE w.heap.size w A n c l) (hsm : ∀ e ∈ l, e.1.length ≤ 9223372036854775807) :
    Calls Tryz.prog 121 #[.slice A n c, .int .i64 (m : Int)] w fun e w' => e = .returned (.bool (decide (Named l m))) ∧ Below w.heap.size w w' := by
  have hl := Lib.hid h.len
  have hm := h.max
  have hcap := h.cap
  have HSM := Lib.hid hsm
  clear hsm
  go_enter Tryz.func121, Tryz.ntmps121
  go_wp2
  go_loopw [5] (fun i wr => ∃ k : Nat, k ≤ n ∧ i = .int .i64 k ∧ Named (l.take k) m ∧ Below w.heap.size w wr) (fun i _ => n - (intOf i).toNat)
  case atStart => exact ⟨0, by omega, rfl, ⟨(fun e he => by cases he), List.Pairwise.nil⟩, Below.refl _ _⟩
  case round =>
    obtain ⟨k, hk, rfl, hs, hbw⟩ := hrel
    have HS := Lib.hid hs
    clear hs
    by_cases hlt : k < n
    · have hR := h.below hbw
      have HHAS := Lib.hid (fun g => refHas_any w.heap.size A n c l k g wr hR hk)
      obtain ⟨b, o, s, f, rfl, hblt, HE, c1, c2⟩ := atE hR hlt
      have hss : s.length ≤ 9223372036854775807 := HSM.out _ (List.mem_of_getElem? HE.out)
      have HRN := refFair_any s wr hss
      by_cases hfair : FairN s
      rotate_left
      · have H := Lib.hid (decide_eq_false (named_no (m := m) HE.out fun k => hfair k.1))
        have hd : decide (FairN s) = false := decide_eq_false hfair
        rw [hd] at HRN
        clear hd hfair
        go_wp2_with fail
        refine HRN.mono ?_
        rintro e w1 ⟨rfl, rfl⟩
        go_wp2
        go_ret
        exact ⟨ret_bool H.out.symm, hbw⟩
      have hd : decide (FairN s) = true := decide_eq_true hfair
      rw [hd] at HRN
      have HRN := Lib.hid HRN
      clear hd
      by_cases h0 : f < 0
      · have H := Lib.hid (decide_eq_false (named_no (m := m) HE.out fun k => by omega))
        go_wp2_with fail
        refine HRN.out.mono ?_
        rintro e w1 ⟨rfl, rfl⟩
        go_wp2
        go_ret
        exact ⟨ret_bool H.out.symm, hbw⟩
      by_cases h1 : (m : Int) ≤ f
      · have H := Lib.hid (decide_eq_false (named_no (m := m) HE.out fun k => by omega))
        go_wp2_with fail
        refine HRN.out.mono ?_
        rintro e w1 ⟨rfl, rfl⟩
        go_wp2
        go_ret
        exact ⟨ret_bool H.out.symm, hbw⟩
      by_cases hin : f ∈ filesOf (l.take k)
      · have hd : decide (f ∈ filesOf (l.take k)) = true := decide_eq_true hin
        have HH := HHAS.out f
        rw [hd] at HH
        have H : Hid (decide (Named l m) = false) := decide_eq_false (by
          obtain ⟨⟨t', g'⟩, hx, hg'⟩ := List.mem_map.1 hin
          obtain ⟨i, hi⟩ := List.mem_iff_getElem?.1 hx
          have hi1 := (List.getElem?_eq_some_iff.1 hi).1
          rw [List.length_take] at hi1
          rw [List.getElem?_take, if_pos (by omega)] at hi
          simp only at hg'
          subst hg'
          exact named_no_file HE.out (by omega) hi)
        have HH := Lib.hid HH
        clear hd hin hfair HHAS
        go_wp2_with fail
        refine HRN.out.mono ?_
        rintro e w1 ⟨rfl, rfl⟩
        go_wp2_with fail
        refine HH.out.mono ?_
        rintro e w1 ⟨rfl, rfl⟩
        go_wp2
        go_ret
        exact ⟨ret_bool H.out.symm, hbw⟩
      have hd : decide (f ∈ filesOf (l.take k)) = false := decide_eq_false hin
      have HH := HHAS.out f
      rw [hd] at HH
      have HH := Lib.hid HH
      clear hd HHAS
      have hno : ∀ x ∈ l.take k, x.2 ≠ f := fun x hx k => hin (List.mem_map.2 ⟨x, hx, k⟩)
      have HNO := Lib.hid hno
      clear hin hno
      by_cases hk0 : k = 0
      · subst hk0
        rw [Nat.zero_mul, Nat.add_zero] at c1 c2
        have H : Hid (Named (l.take (0 + 1)) m) := by
          show Named _ _
          rw [take_next HE.out]
          exact named_snoc HS.out hfair (by omega) (by omega) (fun x hx => by cases hx) HNO.out
        clear hfair
        go_wp2_with fail
        refine HRN.out.mono ?_
        rintro e w1 ⟨rfl, rfl⟩
        go_wp2_with fail
        refine HH.out.mono ?_
        rintro e w1 ⟨rfl, rfl⟩
        go_wp2_with fail
        go_quiet (fail)
        go_wp2
        go_roundw
        case rel => exact ⟨1, by omega, by go_num, H.out, below_drewN hbw _⟩
        case measure => simp [intOf]; omega
      obtain ⟨j, rfl⟩ : ∃ j, k = j + 1 := ⟨k - 1, by omega⟩
      obtain ⟨b', o', t, g, eA, _, HE2, d1, d2⟩ := atE hR (k := j) (by omega)
      obtain ⟨rfl, rfl⟩ : b = b' ∧ o = o' := by
        simp only [Option.some.injEq, Addr.mk.injEq, and_true] at eA
        exact eA
      clear eA d2
      by_cases hts : t < s
      rotate_left
      · have H := Lib.hid (decide_eq_false (named_no_lt (m := m) HE2.out HE.out hts))
        have hl0 := less_no hts
        clear hts hfair
        go_wp2_with fail
        refine HRN.out.mono ?_
        rintro e w1 ⟨rfl, rfl⟩
        go_wp2_with fail
        refine HH.out.mono ?_
        rintro e w1 ⟨rfl, rfl⟩
        go_wp2_with fail
        go_quiet (fail)
        go_wp2
        go_ret
        exact ⟨ret_bool H.out.symm, below_drewN hbw _⟩
      have hl1 := less_yes hts
      have HB := Lib.hid (all_below HS.out.2 HE2.out hts)
      have H : Hid (Named (l.take (j + 1 + 1)) m) := by
        show Named _ _
        rw [take_next HE.out]
        exact named_snoc HS.out hfair (by omega) (by omega) HB.out HNO.out
      clear hts hfair
      go_wp2_with fail
      refine HRN.out.mono ?_
      rintro e w1 ⟨rfl, rfl⟩
      go_wp2_with fail
      refine HH.out.mono ?_
      rintro e w1 ⟨rfl, rfl⟩
      go_wp2_with fail
      go_quiet (fail)
      go_wp2
      go_roundw
      case rel => exact ⟨j + 1 + 1, by omega, by go_num, H.out, below_drewN hbw _⟩
      case measure => simp [intOf]; omega
    · obtain rfl : k = n := by omega
      have H : Hid (decide (Named l m) = true) := decide_eq_true (by have := HS.out; rwa [List.take_of_length_le (by rw [hl.out]; exact Nat.le_refl _)] at this)
      go_wp2
      go_ret
      exact ⟨ret_bool H.out.symm, hbw⟩

/-! ### Find -/
def fiV (o : Option Int) : Int := match o with
  | none => -1
  | some f => f
theorem find_first : ∀ {l : List E} {j : Nat} {s t : N} {f : Int}, l[j]? = some (s, f) → s = t → (∀ e ∈ l.take j, e.1 ≠ t) → findE l t = some f
  | [], _, _, _, _, h, _, _ => by simp at h
  | e :: l, 0, s, t, f, h, hs, _ => by
    simp at h
    subst h
    rw [findE, if_pos hs]
  | e :: l, j + 1, s, t, f, h, hs, hn => by
    rw [findE, if_neg (hn e (by simp))]
    exact find_first (by simpa using h) hs fun a ha => hn a (by rw [List.take_succ_cons]; exact .tail _ ha)
set_option maxHeartbeats 400000 in
theorem refFind_any (U : Nat) (A : Option Addr) (n c : Nat) (l : List E) (t : N) (w : World) (h : RdE U w A n c l) :
    Calls Tryz.prog 70 #[.slice A n c, .string (ba t)] w fun e w' => e = .returned (.int .i64 (fiV (findE l t))) ∧ w = w' := by
  have hl := Lib.hid h.len
  have hmx := h.max
  have hcap := h.cap
  go_enter Tryz.func70, Tryz.ntmps70
  go_wp2
  go_loop [5] (fun i => ∃ k : Nat, k ≤ n ∧ i = .int .i64 k ∧ ∀ e ∈ l.take k, e.1 ≠ t) (fun i => n - (intOf i).toNat)
  case atStart => exact ⟨0, by omega, rfl, by simp⟩
  case round =>
    obtain ⟨k, hk, rfl, hs⟩ := hrel
    have HS := Lib.hid hs
    clear hs
    by_cases hlt : k < n
    · obtain ⟨b, o, s, g, rfl, _, HE, c1, c2⟩ := atE h hlt
      by_cases he : s = t
      · have H := Lib.hid (find_first HE.out he HS.out)
        have hb := same_yes he
        clear he HE
        go_wp2
        go_ret
        exact ⟨ret_int (by rw [H.out]; rfl), rfl⟩
      · have H : Hid (∀ e ∈ l.take (k + 1), e.1 ≠ t) := by
          show ∀ e ∈ _, _
          rw [take_next HE.out]
          intro e he'
          rcases List.mem_append.1 he' with hx | hx
          · exact HS.out e hx
          · simp at hx; subst hx; exact he
        have hb := same_no he
        clear he HE
        go_wp2
        go_round
        case rel => exact ⟨k + 1, by omega, by go_num, H.out⟩
        case measure => simp [intOf]; omega
    · obtain rfl : k = n := by omega
      have H : Hid (findE l t = none) := find_none.2 (by have := HS.out; rwa [List.take_of_length_le (by rw [hl.out]; exact Nat.le_refl _)] at this)
      go_wp2
      go_ret
      exact ⟨ret_int (by rw [H.out]; rfl), rfl⟩
end Go.Proofs.YtlefpodonkdbeaaGreat.Dw
end
/- What the document's came, Right and Good come to. For disks of up to 1000 entries whose names fit. -/
section
set_option maxRecDepth 8000
namespace Go.Proofs.YtlefpodonkdbeaaGreat.Dw
open Go.RowKit By Dk

theorem ref_cel3 {w : World} {g : Nat} {t : TypeId} {a b c : Value} (h : Cel w g t #[a, b, c]) : w.cell? ⟨g, 0, none⟩ = some a ∧ w.cell? ⟨g, 1, none⟩ = some b ∧ w.cell? ⟨g, 2, none⟩ = some c := ⟨by rw [h.cell]; rfl, by rw [h.cell]; rfl, by rw [h.cell]; rfl⟩
def CaR (w : World) (l : List Int) (e : Ending) (w' : World) : Prop := ∃ A n c, e = .returned (.slice A n c) ∧ Rd w' A n c (intV l) ∧ Below w.heap.size w w'
def StCa (U : Nat) (w2 : World) (L : List E) (n : Nat) (v i : Value) (wr : World) : Prop :=
  ∃ (k : Nat) (A1 : Option Addr) (n1 c1 : Nat), k ≤ n ∧ i = .int .i64 k ∧ v = .slice A1 n1 c1 ∧ n1 ≤ k ∧ OwnV 3 U wr A1 n1 c1 (intV (accAt [] L k)) ∧ Below U w2 wr
set_option maxHeartbeats 2000000 in
theorem refCame_any (x : Dv) (w : World) (h : RdD w.heap.size w x) (hn : x.now.length + x.kept.length ≤ 1000) :
    Calls Tryz.prog 122 #[x.v] w (CaR w (cameD x.d)) := by
  obtain ⟨w1, hw1⟩ : ∃ w1, w1 = w.alloc (.cells x.cs 37) := ⟨_, rfl⟩
  have hb1 : Below w.heap.size w w1 := by rw [hw1]; exact alloc_more _ _
  have hc1 : Cel w1 w.heap.size 37 x.cs := by rw [hw1]; exact Cel.born _ _ _
  obtain ⟨q0, q1, q2⟩ := ref_cel3 hc1
  have hnl := h.n.len
  have hkl := h.k.len
  have hN : x.nn + x.kn ≤ 1000 := by omega
  have hl0 := OwnG.lit0 (Y := layE) 69 w1.drew
  have hal0 : Below w1.heap.size w1 (w1.drew.alloc (.cells #[] 69)) := (Below.refl _ _).drew.alloc (Nat.le_refl _) _
  have hlt1 : w.heap.size < w1.heap.size := hc1.lt
  have hx : Below w1.heap.size w1 (w1.alloc (.cells #[] 69)) := alloc_more _ _
  have y1 : (w1.alloc (.cells #[] 69)).cell? ⟨w.heap.size, 1, none⟩ = some (.slice x.nA x.nn x.nc) := (hx.cell (p := ⟨w.heap.size, 1, none⟩) hlt1).trans q1
  have y2 : (w1.alloc (.cells #[] 69)).cell? ⟨w.heap.size, 2, none⟩ = some (.slice x.kA x.kn x.kc) := (hx.cell (p := ⟨w.heap.size, 2, none⟩) hlt1).trans q2
  have HN1 := Lib.hid ((h.n.below hb1).below (hal0.mono hb1.size))
  have HK1 := Lib.hid ((h.k.below hb1).below (hal0.mono hb1.size))
  have HB1 := Lib.hid hb1
  have HLL : Hid ((x.now ++ x.kept).length = x.nn + x.kn) := by show List.length _ = _; rw [List.length_append]; omega
  clear h hb1 hc1 hx hnl hkl
  go_enter Tryz.func122, Tryz.ntmps122
  go_wp2_with fail
  rw [← hw1]
  clear hw1
  go_cut [4] from 6 to 12 (fun v wx => ∃ A c, v = .slice A (x.nn + x.kn) c ∧ Hid (RdE wx.heap.size wx A (x.nn + x.kn) c (x.now ++ x.kept)) ∧ Hid (Below w.heap.size w wx))
  case first =>
   go_region_law (first
    | (refine step_appG rentP (by decide) (by decide) (by kernel_rfl) (by rfl) (.tmp 6) (.tmp 8) (by rfl) (by rfl) hl0 (by rfl) HN1.out (by omega) (by exact hal0.size) ?_; intro A2 c2 w2 happ2; have ho2 := happ2.1; simp only [Nat.zero_add, List.nil_append] at ho2; have hb2 : Below w1.heap.size w1 w2 := hal0.trans (happ2.2.1.mono (Nat.le_refl _)); have p1 : w2.cell? ⟨w.heap.size, 1, none⟩ = some (.slice x.nA x.nn x.nc) := (hb2.cell (p := ⟨w.heap.size, 1, none⟩) hlt1).trans q1; have p2 : w2.cell? ⟨w.heap.size, 2, none⟩ = some (.slice x.kA x.kn x.kc) := (hb2.cell (p := ⟨w.heap.size, 2, none⟩) hlt1).trans q2; have hk2 := HK1.out.below (happ2.2.1.mono HB1.out.size))
    | (refine step_appG rentP (by decide) (by decide) (by kernel_rfl) (by rfl) (.tmp 9) (.tmp 11) (by rfl) (by rfl) ho2 (by rfl) hk2 (by omega) (by exact hb2.size) ?_; intro A3 c3 w3 happ3; have hb3 : Below w1.heap.size w1 w3 := hb2.trans (happ3.2.1.mono (Nat.le_refl _))))
   all_goals (
    go_wp2_with fail
    go_meet
    exact ⟨A3, c3, rfl, happ3.1.rd, HB1.out.trans (hb3.mono HB1.out.size)⟩)
  case rest =>
  obtain ⟨A3, c3, rfl, HL, HB3⟩ := hcut
  obtain ⟨w3, hw3⟩ : ∃ q, q = wc := ⟨_, rfl⟩
  subst hw3
  have hLm := HL.out.max
  have hLc := HL.out.cap
  clear hl0 hal0 y1 y2 HN1 HK1 q0 q1 q2 hlt1
  go_wp2
  go_loopw [3, 5] (fun v i wr => StCa w3.heap.size w3 (x.now ++ x.kept) (x.nn + x.kn) v i wr) (fun _ i _ => (x.nn + x.kn) - (intOf i).toNat)
  case atStart => exact ⟨0, none, 0, 0, by omega, rfl, rfl, by omega, OwnV.nil _ _ _, Below.refl _ _⟩
  case round =>
    obtain ⟨k, A1, n1, c1, hk, rfl, rfl, hn1, hown, hbw⟩ := hrel
    have hsw := hbw.size
    by_cases hlt : k < x.nn + x.kn
    · have HHAS := Lib.hid (fun g => refHas_any w3.heap.size A3 (x.nn + x.kn) c3 (x.now ++ x.kept) k g wr (HL.out.below hbw) hk)
      obtain ⟨b, o, s, f, rfl, _, HE, c1', c2'⟩ := atE (HL.out.below hbw) hlt
      have HN := Lib.hid (acc_next (acc := []) HE.out)
      have hkz : (k : Int) < ((x.nn + x.kn : Nat) : Int) := by omega
      by_cases hin : f ∈ filesOf ((x.now ++ x.kept).take k)
      · have HH := HHAS.out f
        rw [decide_eq_true hin] at HH
        have HA : Hid (accAt [] (x.now ++ x.kept) (k + 1) = accAt [] (x.now ++ x.kept) k) := by show _ = _; rw [HN.out, add_in (show f ∈ accAt [] (x.now ++ x.kept) k from mem_firsts.2 hin)]
        have HH := Lib.hid HH
        clear hin HHAS HE HN
        go_wp2_with fail
        refine HH.out.mono ?_
        rintro e w' ⟨rfl, rfl⟩
        go_wp2
        go_roundw
        case rel => exact ⟨k + 1, A1, n1, c1, by omega, by go_num, rfl, by omega, by rw [HA.out]; exact hown, hbw⟩
        case measure => simp [intOf]; omega
      · have HH := HHAS.out f
        rw [decide_eq_false hin] at HH
        have HA : Hid (intV (accAt [] (x.now ++ x.kept) (k + 1)) = intV (accAt [] (x.now ++ x.kept) k) ++ [.int .i64 f]) := by show _ = _; rw [HN.out, add_out (show f ∉ accAt [] (x.now ++ x.kept) k from fun hm => hin (mem_firsts.1 hm))]; simp [intV]
        have HH := Lib.hid HH
        have hlit := (OwnV.lit1 3 wr (.int .i64 f)).rd
        have hba := alloc_more wr (.cells #[.int .i64 f] 3)
        clear hin HHAS HE HN
        go_wp2_with fail
        refine HH.out.mono ?_
        rintro e w' ⟨rfl, rfl⟩
        go_wp2_with (at_builtin; refine wpList_appV elI rfl (.tmp 28) (.tmp 34) rfl rfl (hown.below hba) rfl hlit (by intro u hu; simp at hu; subst hu; rfl) (by unfold maxLen; omega) (by omega) (by simp; omega) ?_; intro A5 c5 w5 hown5 hb5 _ _)
        go_roundw
        case rel => exact ⟨k + 1, A5, n1 + 1, c5, by omega, by go_num, rfl, by omega, by rw [HA.out]; exact hown5, (hbw.trans (hba.mono hsw)).trans hb5⟩
        case measure => simp [intOf]; omega
    · obtain rfl : k = x.nn + x.kn := by omega
      have HA : Hid (accAt [] (x.now ++ x.kept) (x.nn + x.kn) = cameD x.d) := by show _ = _; rw [acc_end (by rw [HLL.out]; exact Nat.le_refl _)]; rfl
      rw [HA.out] at hown
      go_wp2
      go_ret
      exact ⟨A1, n1, c1, rfl, hown.rd, HB3.out.trans (hbw.mono HB3.out.size)⟩
end Go.Proofs.YtlefpodonkdbeaaGreat.Dw
end
/- What the document's Right and Good come to. For disks whose names fit. -/
section
set_option maxRecDepth 8000
namespace Go.Proofs.YtlefpodonkdbeaaGreat.Dw
open Go.RowKit By Dk

theorem range_take {l : List Int} {k : Nat} (h : l.take k = rangeZ k) (hk : k < l.length) (he : l[k] = (k : Int)) : l.take (k + 1) = rangeZ (k + 1) := by
  rw [List.take_succ_eq_append_getElem hk, h, he, range_snoc]
theorem range_not {l : List Int} {k m : Nat} (hk : k < l.length) (he : l[k] ≠ (k : Int)) : l ≠ rangeZ m := fun h => by
  subst h
  apply he
  simp [rangeZ]
set_option maxHeartbeats 4000000 in
theorem refRight_any (x : Dv) (w : World) (h : RdD w.heap.size w x) (hsm : Sm x.d) :
    Calls Tryz.prog 100 #[x.v] w (isB w (decide (RightD x.d))) := by
  obtain ⟨w1, hw1⟩ : ∃ w1, w1 = w.alloc (.cells x.cs 37) := ⟨_, rfl⟩
  have hb1 : Below w.heap.size w w1 := by rw [hw1]; exact alloc_more _ _
  have hc1 : Cel w1 w.heap.size 37 x.cs := by rw [hw1]; exact Cel.born _ _ _
  obtain ⟨q0, q1, q2⟩ := ref_cel3 hc1
  have hfl : x.d.fs.length = x.fn := by show (fsOf x.xs).length = _; rw [fs_len, h.f.len]
  have hmx := h.f.max
  have hcp := h.f.cap
  have HIF := Lib.hid (rightD_iff x.d)
  rw [hfl] at HIF
  have HFL := Lib.hid hfl
  have HSM := Lib.hid hsm
  have HR := Lib.hid h
  have HB1 := Lib.hid hb1
  have HC1 := Lib.hid hc1
  by_cases h20 : (20 : Int) < (x.fn : Int)
  · have H : Hid (decide (RightD x.d) = false) := decide_eq_false fun k => by have := (HIF.out.1 k).1; omega
    clear hb1 hc1 h hfl hsm
    go_enter Tryz.func100, Tryz.ntmps100
    go_wp2
    go_ret
    exact ⟨ret_bool H.out.symm, alloc_more _ _⟩
  have HE1 := Lib.hid (refNamed_any x.nA x.nn x.nc x.now x.fn w1 ((h.n.below hb1).mono hb1.size) (fun e he => hsm e (List.mem_append_left _ he)))
  clear hb1 hc1 h hfl hsm
  go_enter Tryz.func100, Tryz.ntmps100
  go_wp2_with fail
  rw [← hw1]
  clear hw1
  refine HE1.out.mono ?_
  rintro e w2 ⟨rfl, hb2⟩
  have HB2 := Lib.hid (HB1.out.trans (hb2.mono HB1.out.size))
  have HC2 := Lib.hid (HC1.out.below hb2 HC1.out.lt)
  obtain ⟨p0, p1, p2⟩ := ref_cel3 HC2.out
  by_cases hn1 : Named x.now x.fn
  rotate_left
  · have hd : decide (Named x.now x.fn) = false := decide_eq_false hn1
    have H : Hid (decide (RightD x.d) = false) := decide_eq_false fun k => hn1 (HIF.out.1 k).2.2.1
    rw [hd]
    clear hd hn1 hb2
    go_wp2
    go_ret
    exact ⟨ret_bool H.out.symm, HB2.out⟩
  have hd : decide (Named x.now x.fn) = true := decide_eq_true hn1
  rw [hd]
  have HN1 := Lib.hid hn1
  have HE2 := Lib.hid (refNamed_any x.kA x.kn x.kc x.kept x.fn w2 ((HR.out.k.below HB2.out).mono HB2.out.size) (fun e he => HSM.out e (List.mem_append_right _ he)))
  clear hd hn1 hb2 q0 q1 q2
  go_wp2_with fail
  refine HE2.out.mono ?_
  rintro e w3 ⟨rfl, hb3⟩
  have HB3 := Lib.hid (HB2.out.trans (hb3.mono HB2.out.size))
  have HC3 := Lib.hid (HC2.out.below hb3 HC2.out.lt)
  by_cases hn2 : Named x.kept x.fn
  rotate_left
  · have hd : decide (Named x.kept x.fn) = false := decide_eq_false hn2
    have H : Hid (decide (RightD x.d) = false) := decide_eq_false fun k => hn2 (HIF.out.1 k).2.2.2.1
    rw [hd]
    clear hd hn2 hb3
    go_wp2
    go_ret
    exact ⟨ret_bool H.out.symm, HB3.out⟩
  have hd : decide (Named x.kept x.fn) = true := decide_eq_true hn2
  rw [hd]
  have HN2 := Lib.hid hn2
  clear hd hn2 hb3 p0 p1 p2
  go_wp2
  go_loopw [3] (fun i wr => ∃ k : Nat, k ≤ x.fn ∧ i = .int .i64 k ∧ allOk (fsOf (x.xs.take k)) ∧ Below w3.heap.size w3 wr) (fun i _ => x.fn - (intOf i).toNat)
  case atStart => exact ⟨0, by omega, rfl, (fun f hf => by cases hf), Below.refl _ _⟩
  case round =>
    obtain ⟨k, hk, rfl, hs, hbw⟩ := hrel
    have HS := Lib.hid hs
    have HBR := Lib.hid (HB3.out.trans (hbw.mono HB3.out.size))
    have HCR := Lib.hid (HC3.out.below hbw HC3.out.lt)
    obtain ⟨p0, p1, p2⟩ := ref_cel3 HCR.out
    clear hs
    by_cases hlt : k < x.fn
    · obtain ⟨b, o, v, eA, _, HE, hbs, c1, c2⟩ := atF (HR.out.f.below HBR.out) hlt
      rw [eA] at p0
      have HM := Lib.hid (List.mem_of_getElem? HE.out)
      have HT := Lib.hid (take_next HE.out)
      have hvc := hbs.bs.cap
      have hvm := hbs.bs.max
      have hkn : (k : Int) < (x.fn : Int) := by omega
      have HBQ := Lib.hid HBR.out
      have HNOK : Hid (¬ FileOk ⟨v.l, v.s⟩ → decide (RightD x.d) = false) := fun hno => decide_eq_false fun kk => hno ((HIF.out.1 kk).2.1 _ (List.mem_map.2 ⟨v, HM.out, rfl⟩))
      clear hbs HE eA
      by_cases hc1 : (20000 : Int) < ((v.l.length : Nat) : Int)
      · have H := Lib.hid (HNOK.out fun kk => by have := kk.1; simp only at this; omega)
        have db1 : decide ((20000 : Int) < ((v.l.length : Nat) : Int)) = true := decide_eq_true hc1
        go_wp2_with fail
        go_big_quiet (fail)
        go_wp2
        go_ret
        exact ⟨ret_bool H.out.symm, below_drewN HBR.out _⟩
      by_cases hc2 : v.s < 0
      · have H := Lib.hid (HNOK.out fun kk => by have := kk.2.1; simp only at this; omega)
        have db1 : decide ((20000 : Int) < ((v.l.length : Nat) : Int)) = false := decide_eq_false hc1
        have db2 : decide (v.s < 0) = true := decide_eq_true hc2
        go_wp2_with fail
        go_big_quiet (fail)
        go_wp2
        go_ret
        exact ⟨ret_bool H.out.symm, below_drewN HBR.out _⟩
      by_cases hc3 : ((v.l.length : Nat) : Int) < v.s
      · have H := Lib.hid (HNOK.out fun kk => by have := kk.2.2; simp only at this; omega)
        have db1 : decide ((20000 : Int) < ((v.l.length : Nat) : Int)) = false := decide_eq_false hc1
        have db2 : decide (v.s < 0) = false := decide_eq_false hc2
        have db3 : decide (((v.l.length : Nat) : Int) < v.s) = true := decide_eq_true hc3
        go_wp2_with fail
        go_big_quiet (fail)
        go_wp2
        go_ret
        exact ⟨ret_bool H.out.symm, below_drewN HBR.out _⟩
      · have H : Hid (allOk (fsOf (x.xs.take (k + 1)))) := by
          show allOk _
          rw [HT.out]
          unfold allOk fsOf
          rw [List.map_append]
          intro f hf
          rcases List.mem_append.1 hf with hf | hf
          · exact HS.out f hf
          · simp at hf
            subst hf
            exact ⟨by show v.l.length ≤ _; omega, by show 0 ≤ v.s; omega, by show v.s ≤ ((v.l.length : Nat) : Int); omega⟩
        have db1 : decide ((20000 : Int) < ((v.l.length : Nat) : Int)) = false := decide_eq_false hc1
        have db2 : decide (v.s < 0) = false := decide_eq_false hc2
        have db3 : decide (((v.l.length : Nat) : Int) < v.s) = false := decide_eq_false hc3
        go_wp2_with fail
        go_big_quiet (fail)
        go_wp2
        go_roundw
        case rel => exact ⟨k + 1, by omega, by go_num, H.out, below_drewN hbw _⟩
        case measure => simp [intOf]; omega
    · obtain rfl : k = x.fn := by omega
      have HOK : Hid (allOk (fsOf x.xs)) := by have := HS.out; rwa [List.take_of_length_le (by rw [HR.out.f.len]; exact Nat.le_refl _)] at this
      have HCA := Lib.hid (refCame_any x wr ((HR.out.below HBR.out).mono HBR.out.size) (by have e1 := named_len HN1.out; have e2 := named_len HN2.out; omega))
      have HDD : Hid (decide (RightD x.d) = decide (cameD x.d = rangeZ x.fn)) := by
        show _ = _
        rw [decide_eq_decide, HIF.out]
        exact ⟨fun k => k.2.2.2.2, fun k => ⟨by omega, HOK.out, HN1.out, HN2.out, k⟩⟩
      clear hbw
      go_wp2_with fail
      refine HCA.out.mono ?_
      rintro e w5 ⟨Al, nl, cl, rfl, hrl, hb5⟩
      have HB5 := Lib.hid (HBR.out.trans (hb5.mono HBR.out.size))
      have HC5 := Lib.hid (HCR.out.below hb5 HCR.out.lt)
      obtain ⟨s0, s1, s2⟩ := ref_cel3 HC5.out
      have hnl : (cameD x.d).length = nl := by have := hrl.len; rwa [intV_len] at this
      have HNL := Lib.hid hnl
      have hlc := hrl.cap
      have hlm := hrl.max
      clear hb5 hnl p0 p1 p2
      go_wp2
      go_loop [5] (fun i => ∃ j : Nat, j ≤ nl ∧ i = .int .i64 j ∧ (cameD x.d).take j = rangeZ j) (fun i => nl - (intOf i).toNat)
      case atStart => exact ⟨0, by omega, rfl, rfl⟩
      case round =>
        obtain ⟨j, hj, rfl, hs⟩ := hrel
        have HS2 := Lib.hid hs
        clear hs
        by_cases hlt2 : j < nl
        · obtain ⟨b, o, eAl, hc⟩ := hrl.at_ hlt2
          have hjl : j < (cameD x.d).length := by have := HNL.out; omega
          have hcell := hc j (by rw [intV_len]; exact hjl)
          rw [intV_get hjl] at hcell
          by_cases he : (cameD x.d)[j] = (j : Int)
          · have H := Lib.hid (range_take HS2.out hjl he)
            rw [he] at hcell
            have hjn : (j : Int) < (nl : Int) := by omega
            rw [eAl]
            clear hc he hjl
            go_wp2
            go_round
            case rel => exact ⟨j + 1, by omega, by go_num, H.out⟩
            case measure => simp [intOf]; omega
          · have H : Hid (decide (RightD x.d) = false) := by show _ = _; rw [HDD.out]; exact decide_eq_false (range_not hjl he)
            have hb : ((cameD x.d)[j] != (j : Int)) = true := bne_iff_ne.2 he
            have hjn : (j : Int) < (nl : Int) := by omega
            rw [eAl]
            clear hc he
            generalize (cameD x.d)[j] = y at hcell hb
            clear hjl
            go_wp2
            go_ret
            exact ⟨ret_bool H.out.symm, HB5.out⟩
        · obtain rfl : j = nl := by omega
          have HCJ : Hid (cameD x.d = rangeZ j) := by have := HS2.out; rwa [List.take_of_length_le (by rw [HNL.out]; exact Nat.le_refl _)] at this
          have H : Hid (decide (RightD x.d) = decide ((j : Int) = (x.fn : Int))) := by
            show _ = _
            rw [HDD.out, decide_eq_decide]
            constructor
            · intro k
              have := HNL.out
              rw [k, range_len] at this
              omega
            · intro k
              rw [HCJ.out, show j = x.fn by omega]
          by_cases he : (j : Int) = (x.fn : Int)
          · have hbe : ((j : Int) == (x.fn : Int)) = true := by simpa using he
            have HE := Lib.hid (decide_eq_true he)
            clear he
            go_wp2
            go_ret
            exact ⟨ret_bool (by rw [H.out, HE.out]), HB5.out⟩
          · have hbe : ((j : Int) == (x.fn : Int)) = false := by simpa using he
            have HE := Lib.hid (decide_eq_false he)
            clear he
            go_wp2
            go_ret
            exact ⟨ret_bool (by rw [H.out, HE.out]), HB5.out⟩
end Go.Proofs.YtlefpodonkdbeaaGreat.Dw
end
/- What boarderref08's Good and Get come to. -/
section
set_option maxRecDepth 8000
namespace Go.Proofs.YtlefpodonkdbeaaGreat.Dw
open Go.RowKit By Dk

theorem ret_good {fn : Func} {p : Tmp} (hres : fn.results = #[.cell p 37]) (tmps : Array Value) (w : World) (g : Nat) (cs : Array Value) (hp : tmps.getD p undef = .pointer (some ⟨g, 0, none⟩)) (hc : Cel w g 37 cs) (hs : cs.size = 3) :
    (results fn tmps).run Tryz.prog w = .ok (.agg cs) w := results_cell_row hres tmps w g _ cs (0, 0) _ hp hc Tryz.underlying37 rfl (by rw [hs]; kernel_rfl)
set_option maxHeartbeats 1000000 in
theorem refGood_any (U : Nat) (x : Dv) (w : World) (h : RdD U w x) (hU : U ≤ w.heap.size) (hsm : Sm x.d) :
    Calls Tryz.prog 69 #[x.v] w (VaR U w x) := by
  obtain ⟨w1, hw1⟩ : ∃ w1, w1 = (w.alloc (.cells x.cs 37)).alloc (.cells #[.slice none 0 0, .slice none 0 0, .slice none 0 0] 37) := ⟨_, rfl⟩
  have hb1 : Below w.heap.size w w1 := by rw [hw1]; exact ((Below.refl _ _).alloc (Nat.le_refl _) _).alloc (by simp) _
  have hc1 : Cel w1 w.heap.size 37 x.cs := by rw [hw1]; exact (Cel.born w _ _).below ((Below.refl _ _).alloc (Nat.le_refl _) _) (by simp)
  have hc2 : Cel w1 (w.heap.size + 1) 37 #[.slice none 0 0, .slice none 0 0, .slice none 0 0] := by
    rw [hw1]
    have := Cel.born (w.alloc (.cells x.cs 37)) 37 #[.slice none 0 0, .slice none 0 0, .slice none 0 0]
    simpa using this
  have HRI := Lib.hid (refRight_any x w1 ((h.below (hb1.mono hU)).mono (Nat.le_trans hU hb1.size)) hsm)
  have HR := Lib.hid h
  have HB1 := Lib.hid hb1
  have HC1 := Lib.hid hc1
  have HC2 := Lib.hid hc2
  clear h hb1 hc1 hc2 hsm
  go_enter Tryz.func69, Tryz.ntmps69
  go_wp2_with fail
  rw [← hw1]
  clear hw1
  refine HRI.out.mono ?_
  rintro e w2 ⟨rfl, hb2⟩
  have hb02 := Lib.hid (HB1.out.trans (hb2.mono HB1.out.size))
  have hk1 := HC1.out.below hb2 HC1.out.lt
  have hk2 := HC2.out.below hb2 HC2.out.lt
  obtain ⟨r0, r1, r2⟩ := cel3 hk1
  obtain ⟨q0, q1, q2⟩ := cel3 hk2
  have f0 := cel_fr hk2 0
  have f1 := cel_fr hk2 1
  have f2 := cel_fr hk2 2
  have HK2 := Lib.hid hk2
  clear hk1 hk2 hb2
  by_cases hr : RightD x.d
  · have hd : decide (RightD x.d) = true := decide_eq_true hr
    have HG := Lib.hid (good_of hr)
    rw [hd]
    clear hd hr
    go_wp2
    (try simp only [Exit.inBlock, Exit.then])
    refine bodyPost_ret (ret_good rfl _ _ (w.heap.size + 1) x.cs rfl (cel_put3 HK2.out) rfl) rfl ?_
    have hb := below_put3 hb02.out (show w.heap.size ≤ w.heap.size + 1 by omega) (.slice x.fA x.fn x.fc) (.slice x.nA x.nn x.nc) (.slice x.kA x.kn x.kc)
    exact ⟨x, rfl, HG.out.symm, HR.out.below (hb.mono hU), hb⟩
  · have hd : decide (RightD x.d) = false := decide_eq_false hr
    have HG : Hid (goodD x.d = zeroD) := if_neg hr
    rw [hd]
    clear hd hr
    go_wp2
    (try simp only [Exit.inBlock, Exit.then])
    refine bodyPost_ret (ret_good rfl _ _ (w.heap.size + 1) zeroV.cs rfl (cel_put3 HK2.out) rfl) rfl ?_
    have hb := below_put3 hb02.out (show w.heap.size ≤ w.heap.size + 1 by omega) (.slice none 0 0) (.slice none 0 0) (.slice none 0 0)
    exact ⟨zeroV, rfl, HG.out.symm, RdD.zero _ _, hb⟩

set_option maxHeartbeats 1000000 in
theorem refGet_any (x : Dv) (t : N) (w : World) (h : RdD w.heap.size w x) (hsm : Sm x.d) :
    Calls Tryz.prog 51 #[x.v, .string (ba t)] w (GeR w (getK x.d t)) := by
  obtain ⟨w1, hw1⟩ : ∃ w1, w1 = w.alloc (.cells x.cs 37) := ⟨_, rfl⟩
  have hb1 : Below w.heap.size w w1 := by rw [hw1]; exact (Below.refl _ _).alloc (Nat.le_refl _) _
  have hc1 : Cel w1 w.heap.size 37 x.cs := by rw [hw1]; exact Cel.born w _ _
  have HV := Lib.hid (refGood_any w.heap.size x w1 (h.below hb1) hb1.size hsm)
  have HB1 := Lib.hid hb1
  have HC1 := Lib.hid hc1
  clear h hb1 hsm hc1
  go_enter Tryz.func51, Tryz.ntmps51
  go_wp2_with fail
  rw [← hw1]
  clear hw1
  refine HV.out.mono ?_
  rintro e w2 ⟨y, rfl, hy, hry, hb2⟩
  have hb02 := Lib.hid (HB1.out.trans (hb2.mono HB1.out.size))
  have HY := Lib.hid hy
  have hk1 := HC1.out.below hb2 HC1.out.lt
  obtain ⟨r0, r1, r2⟩ := cel3 hk1
  have f0 := cel_fr hk1 0
  have f1 := cel_fr hk1 1
  have f2 := cel_fr hk1 2
  have HC3 := Lib.hid (cel_put3 (a' := .slice y.fA y.fn y.fc) (b' := .slice y.nA y.nn y.nc) (c' := .slice y.kA y.kn y.kc) hk1)
  have HB3 := Lib.hid (below_put3 hb02.out (Nat.le_refl _) (.slice y.fA y.fn y.fc) (.slice y.nA y.nn y.nc) (.slice y.kA y.kn y.kc))
  have hr3 := hry.below (below_put3 (Below.refl w.heap.size w2) (Nat.le_refl _) (.slice y.fA y.fn y.fc) (.slice y.nA y.nn y.nc) (.slice y.kA y.kn y.kc))
  obtain ⟨w3, hw3⟩ : ∃ w3, w3 = (((w2.setCell ⟨w.heap.size, 0, none⟩ (.slice y.fA y.fn y.fc)).setCell ⟨w.heap.size, 1, none⟩ (.slice y.nA y.nn y.nc)).setCell ⟨w.heap.size, 2, none⟩ (.slice y.kA y.kn y.kc)) := ⟨_, rfl⟩
  rw [← hw3] at HC3 HB3 hr3
  have HFO := Lib.hid (refFind_any w.heap.size y.nA y.nn y.nc y.now t w3 hr3.n)
  have HR3 := Lib.hid hr3
  clear hry hb2 hk1 hr3
  go_wp2_with fail
  rw [← hw3]
  clear hw3
  refine HFO.out.mono ?_
  rintro e w4 ⟨rfl, hw4⟩
  subst hw4
  have hb4 := Below.refl w3.heap.size w3
  have HB4 := Lib.hid (HB3.out.trans (hb4.mono HB3.out.size))
  cases hf : findE y.now t with
  | none =>
    have H : Hid (getK x.d t = ([], 5)) := by
      show getK _ _ = _
      unfold getK
      rw [← HY.out, show y.d.now = y.now from rfl, hf]
    clear hb4
    rw [show fiV none = -1 from rfl]
    go_wp2
    go_ret2
    exact ⟨none, 0, 0, by rw [H.out]; rfl, by rw [H.out]; exact Bs.nil _, HB4.out⟩
  | some f =>
    have hrd : RightD y.d := by rw [HY.out]; exact good_right _
    obtain ⟨g0, g1⟩ := find_range hrd (show findE y.d.now t = some f from hf)
    obtain ⟨k, rfl⟩ := Int.eq_ofNat_of_zero_le g0
    have hfl : y.d.fs.length = y.fn := by show (fsOf y.xs).length = _; rw [fs_len, HR3.out.f.len]
    rw [hfl] at g1
    have hk : k < y.fn := by omega
    have hmx := HR3.out.f.max
    have hcp := HR3.out.f.cap
    have hrf := HR3.out.f.below (hb4.mono HB3.out.size)
    obtain ⟨b, o, v, eA, _, HE, hbs, c1, c2⟩ := atF hrf hk
    have r4 : w3.cell? ⟨w.heap.size, 0, none⟩ = some (.slice (some ⟨b, o, none⟩) y.fn y.fc) := by rw [← eA]; exact (cel3 (HC3.out.below hb4 HC3.out.lt)).1
    have H : Hid (getK x.d t = (v.l, 0)) := by
      show getK _ _ = _
      unfold getK
      rw [← HY.out, show y.d.now = y.now from rfl, hf]
      simp only
      rw [fileAt_get g0 (by simpa using HE.out)]
      rfl
    have HBS := Lib.hid hbs
    clear hb4 hrf hbs c2 HE hf hrd hfl
    rw [show fiV (some (k : Int)) = (k : Int) from rfl]
    go_wp2
    go_ret2
    exact ⟨v.A, v.l.length, v.c, by rw [H.out]; rfl, by rw [H.out]; exact HBS.out.bs, HB4.out⟩
end Go.Proofs.YtlefpodonkdbeaaGreat.Dw
end
