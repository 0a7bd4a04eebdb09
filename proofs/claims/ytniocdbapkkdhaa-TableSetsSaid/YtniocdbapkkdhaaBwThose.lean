/- What those, Of, Sweep and the document's own come to: a slice of the call's own that holds what a filter keeps. For all leases whose keys fit. -/
import Derived.Test.YtniocdbapkkdhaaBwHold
set_option maxRecDepth 8000
namespace Go.Proofs.Ytniocdbapkkdhaa.Bw
open Go.RowKit Co By Ky Rc Ew Jw La Tb Lw
open Dw (ba ba_size ba_data ba_list alloc_more)

theorem good_fk {l : List L} (h : ∀ a ∈ l, Fk a) : ∀ a ∈ goodT l, Fk a := by
  intro a ha
  unfold goodT at ha
  split at ha
  · exact h a ha
  · cases ha
set_option maxHeartbeats 2000000 in
theorem those_gen (K : Nat) (hE : ∀ args W, (callFunc K args).run Try.prog W = .ok (.enter K args) W) (x : Value) (q : L → Bool) (A : Option Addr) (n c U : Nat) (l : List L) (w : World) (h : RdLs U w A n c l) (hU : U ≤ w.heap.size) (hk : ∀ a ∈ l, Fk a)
    (hK : ∀ a W, Below w.heap.size w W → Calls Try.prog K #[lv a, x] W (isB (q a) W)) :
    Calls Try.prog 34 #[.slice A n c, .func (.func K) #[] #[x]] w (OwL w.heap.size w ((goodT l).filter q)) := by
  have HV := Lib.hid (valid_any A n c U l w h hU hk)
  have HK := Lib.hid hK
  have HEN := Lib.hid hE
  have HUU := Lib.hid hU
  clear h hU hk hK hE
  go_enter Try.func34, Try.ntmps34
  go_wp2_with fail
  refine HV.out.mono ?_
  rintro e w1 ⟨A1, n1, c1, rfl, hr1, hb1⟩
  have hn1 : n1 ≤ 64 := by have := good_len l; have := hr1.len; omega
  have HL := Lib.hid hr1.len
  have hcp := hr1.cap
  have hmx := hr1.max
  have HR1 := Lib.hid hr1
  have HB1 := Lib.hid hb1
  clear hr1 hb1 HV
  go_wp2
  go_loopw [5, 11] (fun v i wr => ∃ (k : Nat) (A2 : Option Addr) (c2 : Nat) (ks : List L), k ≤ n1 ∧ ks.length ≤ k ∧ i = .int .i64 k ∧ v = .slice A2 ks.length c2 ∧ Hid (OwnLs w1.heap.size wr A2 ks.length c2 ks) ∧ Hid (ks = ((goodT l).take k).filter q) ∧ Hid (Below w1.heap.size w1 wr)) (fun _ i _ => n1 - (intOf i).toNat)
  case atStart => exact ⟨0, none, 0, [], by omega, Nat.le_refl _, rfl, rfl, OwnG.nil _ _ _, rfl, Below.refl _ _⟩
  case round =>
    obtain ⟨k, A2, c2, ks, hk, hkl, rfl, rfl, HO, HE, HB⟩ := hrel
    by_cases hlt : k < n1
    · have hU1 : U ≤ w1.heap.size := by have := HB1.out.size; have := HUU.out; omega
      obtain ⟨b, o, a, rfl, _, HA, d0, d1, d2, d3⟩ := atL (HR1.out.below (HB.out.mono hU1)) hlt
      have hkz : (k : Int) < (n1 : Int) := by omega
      obtain ⟨w2, hw2⟩ : ∃ w2, w2 = wr.alloc (.cells (lcs a) 26) := ⟨_, rfl⟩
      have hc2 : Cel w2 wr.heap.size 26 (lcs a) := by rw [hw2]; exact Cel.born _ _ _
      have hb2 : Below wr.heap.size wr w2 := by rw [hw2]; exact alloc_more _ _
      obtain ⟨z0, z1, z2, z3⟩ := cel4L hc2
      have HC2 := Lib.hid hc2
      have HO2 := Lib.hid (HO.out.below hb2)
      have HB2 := Lib.hid (HB.out.trans (hb2.mono HB.out.size))
      have HBW := Lib.hid (HB1.out.trans (HB2.out.mono HB1.out.size))
      have HC := Lib.hid (HK.out a w2 HBW.out)
      cases hq : q a with
      | true =>
        have HT := Lib.hid (filter_put HE.out HA.out hq)
        rw [hq] at HC
        clear hq hc2 hb2 HE HA HO
        go_wp2_with fail
        rw [← hw2]
        clear hw2
        rw [HEN.out, Oper.upon_enter]
        refine HC.out.mono ?_
        rintro e w3 ⟨rfl, hb3⟩
        obtain ⟨y0, y1, y2, y3⟩ := cel4L (HC2.out.below hb3 HC2.out.lt)
        have hlit := litL w3 a
        have hba : Below w3.heap.size w3 (w3.alloc (.cells (lcs a) 26)) := alloc_more _ _
        have hown := (HO2.out.below hb3).below hba
        have hsz := HB2.out.size
        have hs3 := hb3.size
        have HB3 := Lib.hid hb3
        go_wp2_with (at_builtin; refine wpList_appG lesP (by decide) (by decide) (by kernel_rfl) rfl (.tmp 18) (.tmp 20) rfl rfl hown rfl hlit (by omega) (by simp; omega) ?_; intro A5 c5 w5 happ)
        go_roundw
        case rel =>
          have hb4 : Below w1.heap.size w1 w5 := by
            have h1 := HB2.out.trans (HB3.out.mono HB2.out.size)
            have h2 := h1.trans (hba.mono h1.size)
            exact h2.trans happ.2.1
          refine ⟨k + 1, A5, c5, ks ++ [a], by omega, by rw [List.length_append]; simp; omega, by go_num, by rw [List.length_append]; rfl, ?_, HT.out, hb4⟩
          rw [List.length_append]
          exact happ.1
        case measure => simp [intOf]; omega
      | false =>
        have HT := Lib.hid (filter_skip HE.out HA.out hq)
        rw [hq] at HC
        clear hq hc2 hb2 HE HA HO
        go_wp2_with fail
        rw [← hw2]
        clear hw2
        rw [HEN.out, Oper.upon_enter]
        refine HC.out.mono ?_
        rintro e w3 ⟨rfl, hb3⟩
        go_wp2
        go_roundw
        case rel => exact ⟨k + 1, A2, c2, ks, by omega, by omega, by go_num, rfl, HO2.out.below hb3, HT.out, HB2.out.trans (hb3.mono HB2.out.size)⟩
        case measure => simp [intOf]; omega
    · obtain rfl : k = n1 := by omega
      have HT : Hid (ks = (goodT l).filter q) := filter_end (by rw [HL.out]; exact HE.out)
      have hkz : ¬ (k : Int) < (k : Int) := by omega
      clear hlt HE
      go_wp2
      go_ret
      exact ⟨A2, ks.length, c2, rfl, by rw [← HT.out]; exact HO.out.mono HB1.out.size, HB1.out.trans (HB.out.mono HB1.out.size)⟩
end Go.Proofs.Ytniocdbapkkdhaa.Bw
