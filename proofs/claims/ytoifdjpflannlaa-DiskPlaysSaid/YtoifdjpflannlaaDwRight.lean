/- What disk.rightEntries comes to. For all inputs. -/
import Derived.Test.YtoifdjpflannlaaDwLeaf
import Derived.Test.YtoifdjpflannlaaDkMore
import Derived.BigQuiet
set_option maxRecDepth 8000
namespace Go.Proofs.Ytoifdjpflannlaa.Dw
open Go.RowKit By Dk

theorem rd_first {α : Type} {Y : Lay α} {U n c : Nat} {w : World} {A : Option Addr} {l : List α} (h : RdG Y U w A n c l) {k : Nat} (hk : k ≤ n) : RdG Y U w A k c (l.take k) := by
  have hl := h.len
  refine ⟨by rw [List.length_take]; omega, Nat.le_trans hk h.cap, h.2.2.1, fun hn => ?_⟩
  obtain ⟨b, o, e, hU, hc⟩ := h.2.2.2 (by omega)
  refine ⟨b, o, e, hU, fun i hi => ?_⟩
  have e2 : Y.cells (l.take k) = (Y.cells l).take (k * Y.s) := Y.cells_take l k (by omega)
  have hi2 := hi
  rw [e2, List.length_take] at hi2
  rw [hc i (by omega)]
  simp only [e2, List.getElem_take]
theorem less_yes {a b : N} (h : a < b) : Op.bytesLess (ba a).toList (ba b).toList = true := by rw [bytesLess_eq, ba_list, ba_list]; exact decide_eq_true h
theorem less_no {a b : N} (h : ¬ a < b) : Op.bytesLess (ba a).toList (ba b).toList = false := by rw [bytesLess_eq, ba_list, ba_list]; exact decide_eq_false h
theorem same_yes {a b : N} (h : a = b) : ((ba a).toList == (ba b).toList) = true := by rw [ba_list, ba_list]; simpa using h
theorem same_no {a b : N} (h : ¬ a = b) : ((ba a).toList == (ba b).toList) = false := by rw [ba_list, ba_list]; simpa using h
theorem same_is (a b : N) : ((ba a).toList == (ba b).toList) = decide (a = b) := by
  by_cases h : a = b
  · rw [same_yes h, decide_eq_true h]
  · rw [same_no h, decide_eq_false h]

theorem earlier_is (s : N) (f : Int) (fe : Int) (g : Nat) (w : World) (hg : g < w.heap.size) (hc : w.cell? ⟨g, 1, none⟩ = some (.int .i64 fe)) :
    Calls Try.prog 83 #[.agg #[.string (ba s), .int .i64 f], .pointer (some ⟨g, 0, none⟩)] w fun e w' => e = .returned (.bool (f == fe)) ∧ Below w.heap.size w w' := by
  have hne : g ≠ w.heap.size := by omega
  go_enter Try.func83, Try.ntmps83
  go_wp2
  go_ret
  exact ⟨by simp, (Below.refl _ _).alloc (Nat.le_refl _) _⟩

def hitE (q : E → Bool) (l : List E) (i : Nat) : Bool := match l[i]? with
  | some e => q e
  | none => false
theorem hit_at {q : E → Bool} {l : List E} {i : Nat} {e : E} (h : l[i]? = some e) : hitE q l i = q e := by unfold hitE; rw [h]
theorem hit_none {q : E → Bool} {l : List E} (h : ∀ i, i < l.length → hitE q l i = false) : ∀ e ∈ l, q e = false := fun e he => by
  obtain ⟨i, hi⟩ := List.mem_iff_getElem?.1 he
  rw [← hit_at (q := q) hi]
  exact h i (List.getElem?_eq_some_iff.1 hi).1
theorem hit_some {q : E → Bool} {l : List E} {i : Nat} (h : hitE q l i = true) : ∃ e, l[i]? = some e ∧ q e = true := by
  unfold hitE at h
  split at h
  · next e he => exact ⟨e, he, h⟩
  · cases h

theorem contains_file (U : Nat) (A : Option Addr) (n c : Nat) (l : List E) (fe : Int) (g : Nat) (w : World) (h : RdE U w A n c l) (hU : U ≤ w.heap.size) (hg : g < w.heap.size) (hc : w.cell? ⟨g, 1, none⟩ = some (.int .i64 fe)) :
    Calls Try.prog 82 #[.slice A n c, .func (.func 83) #[] #[.pointer (some ⟨g, 0, none⟩)]] w fun e w' => e = .returned (.bool (decide (fe ∈ filesOf l))) ∧ Below w.heap.size w w' := by
  have hl := h.len
  refine (containsE_gen 83 g Try.call83 U A n c l (hitE (fun e => e.2 == fe) l) (fun _ W => Below w.heap.size w W) w h (fun _ W hW => h.below (hW.mono hU)) (Below.refl _ _) (fun k s f W hk hW => ?_)).mono ?_
  · refine (earlier_is s f fe g W (Nat.lt_of_lt_of_le hg hW.size) ((hW.cell (p := ⟨g, 1, none⟩) hg).trans hc)).mono ?_
    rintro e W' ⟨rfl, hb⟩
    exact ⟨by rw [hit_at hk], hW.trans (hb.mono hW.size)⟩
  · rintro e W' (⟨j, hj, rfl, h1, _, h3⟩ | ⟨rfl, h2, h3⟩)
    · obtain ⟨x, hx, hq⟩ := hit_some h1
      refine ⟨ret_bool (decide_eq_true ?_).symm, h3⟩
      exact List.mem_map.2 ⟨x, List.mem_of_getElem? hx, by simpa using hq⟩
    · refine ⟨ret_bool (decide_eq_false fun hm => ?_).symm, h3⟩
      obtain ⟨x, hx, hq⟩ := List.mem_map.1 hm
      have := hit_none (q := fun e => e.2 == fe) (l := l) (by rw [hl]; exact h2) x hx
      simp at this
      exact this hq

set_option maxHeartbeats 1000000 in
theorem rightEntries_any (A : Option Addr) (n c : Nat) (l : List E) (m : Nat) (w : World) (h : RdE w.heap.size w A n c l) (hsm : ∀ e ∈ l, e.1.length ≤ 9223372036854775807) :
    Calls Try.prog 62 #[.slice A n c, .int .i64 (m : Int)] w fun e w' => e = .returned (.bool (decide (Named l m))) ∧ Below w.heap.size w w' := by
  have hl := Lib.hid h.len
  have hm := h.max
  have hcap := h.cap
  have HSM := Lib.hid hsm
  clear hsm
  go_enter Try.func62, Try.ntmps62
  go_wp2
  go_loopw [9] (fun i wr => ∃ k : Nat, k ≤ n ∧ i = .int .i64 k ∧ Named (l.take k) m ∧ Below w.heap.size w wr) (fun i _ => n - (intOf i).toNat)
  case atStart => exact ⟨0, by omega, rfl, ⟨(fun e he => by cases he), List.Pairwise.nil⟩, Below.refl _ _⟩
  case round =>
    obtain ⟨k, hk, rfl, hs, hbw⟩ := hrel
    have HS := Lib.hid hs
    clear hs
    by_cases hlt : k < n
    · have hR := h.below hbw
      have hA2 := rd_first hR hk
      obtain ⟨b, o, s, f, rfl, hblt, HE, c1, c2⟩ := atE hR hlt
      have hsz := hbw.size
      have hss : s.length ≤ 9223372036854775807 := HSM.out _ (List.mem_of_getElem? HE.out)
      have hba : Below w.heap.size w (wr.alloc (.cells #[.string (ba s), .int .i64 f] 68)) := hbw.alloc hsz _
      by_cases hfair : FairN s
      rotate_left
      · have H := Lib.hid (decide_eq_false (named_no (m := m) HE.out fun k => hfair k.1))
        have hd : decide (FairN s) = false := decide_eq_false hfair
        have HRN := rightName_any s (wr.alloc (.cells #[.string (ba s), .int .i64 f] 68)) hss
        rw [hd] at HRN
        clear hd hfair
        go_wp2_with fail
        refine HRN.mono ?_
        rintro e w1 ⟨rfl, rfl⟩
        go_wp2
        go_ret
        exact ⟨ret_bool H.out.symm, hba⟩
      have hd : decide (FairN s) = true := decide_eq_true hfair
      have HRN := rightName_any s (wr.alloc (.cells #[.string (ba s), .int .i64 f] 68)) hss
      rw [hd] at HRN
      have HRN := Lib.hid HRN
      clear hd
      by_cases h0 : f < 0
      · have H := Lib.hid (decide_eq_false (named_no (m := m) HE.out fun k => by omega))
        go_wp2_with fail
        refine HRN.out.mono ?_
        rintro e w1 ⟨rfl, rfl⟩
        go_wp2
        go_ret
        exact ⟨ret_bool H.out.symm, hba⟩
      by_cases h1 : (m : Int) ≤ f
      · have H := Lib.hid (decide_eq_false (named_no (m := m) HE.out fun k => by omega))
        go_wp2_with fail
        refine HRN.out.mono ?_
        rintro e w1 ⟨rfl, rfl⟩
        go_wp2
        go_ret
        exact ⟨ret_bool H.out.symm, hba⟩
      have hg1 : wr.heap.size < (wr.alloc (.cells #[.string (ba s), .int .i64 f] 68)).heap.size := by simp
      have HCT : Hid (∀ q, Calls Try.prog 82 #[.slice (some ⟨b, o, none⟩) k c, .func (.func 83) #[] #[.pointer (some ⟨wr.heap.size, 0, none⟩)]] ((wr.alloc (.cells #[.string (ba s), .int .i64 f] 68)).drewN q) fun e w' => e = .returned (.bool (decide (f ∈ filesOf (l.take k)))) ∧ Below wr.heap.size wr w') := fun q => by
        have hb2 : Below wr.heap.size wr (wr.alloc (.cells #[.string (ba s), .int .i64 f] 68)) := (Below.refl _ _).alloc (Nat.le_refl _) _
        refine (contains_file w.heap.size _ k c (l.take k) f wr.heap.size _ ((hA2.below (hb2.mono hsz)).below (below_drewN (Below.refl _ _) q)) (Nat.le_trans hsz hb2.size) hg1 (by show World.cell? (wr.alloc _) _ = _; simp)).mono ?_
        rintro e w' ⟨rfl, hb3⟩
        exact ⟨rfl, (below_drewN hb2 q).trans (hb3.mono hb2.size)⟩
      have hc3 : (wr.alloc (.cells #[.string (ba s), .int .i64 f] 68)).cell? ⟨wr.heap.size, 0, none⟩ = some (.string (ba s)) := by simp
      by_cases hk0 : k = 0
      · subst hk0
        rw [Nat.zero_mul, Nat.add_zero] at c1 c2
        have hd : decide (f ∈ filesOf (l.take 0)) = false := decide_eq_false (fun k => by cases k)
        rw [hd] at HCT
        have H : Hid (Named (l.take (0 + 1)) m) := by
          show Named _ _
          rw [take_next HE.out]
          exact named_snoc HS.out hfair (by omega) (by omega) (fun x hx => by cases hx) (fun x hx => by cases hx)
        clear hd hfair
        go_wp2_with fail
        refine HRN.out.mono ?_
        rintro e w1 ⟨rfl, rfl⟩
        go_wp2_with fail
        go_quiet (fail)
        go_wp2_with fail
        refine (HCT.out _).mono ?_
        rintro e w1 ⟨rfl, hb3⟩
        go_wp2
        go_roundw
        case rel => exact ⟨1, by omega, by go_num, H.out, hbw.trans (hb3.mono hsz)⟩
        case measure => simp [intOf]; omega
      obtain ⟨j, rfl⟩ : ∃ j, k = j + 1 := ⟨k - 1, by omega⟩
      obtain ⟨b', o', t, g, eA, _, HE2, d1, d2⟩ := atE hR (k := j) (by omega)
      obtain ⟨rfl, rfl⟩ : b = b' ∧ o = o' := by
        simp only [Option.some.injEq, Addr.mk.injEq, and_true] at eA
        exact eA
      clear eA d2
      have hblr : b < wr.heap.size := World.block_lt_of_cell? wr _ d1
      have d1' : (wr.alloc (.cells #[.string (ba s), .int .i64 f] 68)).cell? ⟨b, o + j * 2, none⟩ = some (.string (ba t)) := (World.cell?_alloc_lt wr _ ⟨b, o + j * 2, none⟩ hblr).trans d1
      by_cases hts : t < s
      rotate_left
      · have H := Lib.hid (decide_eq_false (named_no_lt (m := m) HE2.out HE.out hts))
        have hl0 := less_no hts
        clear hts hfair
        go_wp2_with fail
        refine HRN.out.mono ?_
        rintro e w1 ⟨rfl, rfl⟩
        go_wp2_with fail
        go_quiet (fail)
        go_wp2
        go_ret
        exact ⟨ret_bool H.out.symm, below_drewN hba _⟩
      have hl1 := less_yes hts
      have HB := Lib.hid (all_below HS.out.2 HE2.out hts)
      clear hts
      by_cases hin : f ∈ filesOf (l.take (j + 1))
      · have hd : decide (f ∈ filesOf (l.take (j + 1))) = true := decide_eq_true hin
        rw [hd] at HCT
        have H : Hid (decide (Named l m) = false) := decide_eq_false (by
          obtain ⟨⟨t', g'⟩, hx, hg'⟩ := List.mem_map.1 hin
          obtain ⟨i, hi⟩ := List.mem_iff_getElem?.1 hx
          have hi1 := (List.getElem?_eq_some_iff.1 hi).1
          rw [List.length_take] at hi1
          rw [List.getElem?_take, if_pos (by omega)] at hi
          simp only at hg'
          subst hg'
          exact named_no_file HE.out (by omega) hi)
        clear hd hin hfair
        go_wp2_with fail
        refine HRN.out.mono ?_
        rintro e w1 ⟨rfl, rfl⟩
        go_wp2_with fail
        go_quiet (fail)
        go_wp2_with fail
        refine (HCT.out _).mono ?_
        rintro e w1 ⟨rfl, hb3⟩
        go_wp2
        go_ret
        exact ⟨ret_bool H.out.symm, hbw.trans (hb3.mono hsz)⟩
      · have hd : decide (f ∈ filesOf (l.take (j + 1))) = false := decide_eq_false hin
        rw [hd] at HCT
        have H : Hid (Named (l.take (j + 1 + 1)) m) := by
          show Named _ _
          rw [take_next HE.out]
          exact named_snoc HS.out hfair (by omega) (by omega) HB.out (fun x hx k => hin (List.mem_map.2 ⟨x, hx, k⟩))
        clear hd hin hfair
        go_wp2_with fail
        refine HRN.out.mono ?_
        rintro e w1 ⟨rfl, rfl⟩
        go_wp2_with fail
        go_quiet (fail)
        go_wp2_with fail
        refine (HCT.out _).mono ?_
        rintro e w1 ⟨rfl, hb3⟩
        go_wp2
        go_roundw
        case rel => exact ⟨j + 1 + 1, by omega, by go_num, H.out, hbw.trans (hb3.mono hsz)⟩
        case measure => simp [intOf]; omega
    · obtain rfl : k = n := by omega
      have H : Hid (decide (Named l m) = true) := decide_eq_true (by have := HS.out; rwa [List.take_of_length_le (by rw [hl.out]; exact Nat.le_refl _)] at this)
      go_wp2
      go_ret
      exact ⟨ret_bool H.out.symm, hbw⟩
end Go.Proofs.Ytoifdjpflannlaa.Dw
