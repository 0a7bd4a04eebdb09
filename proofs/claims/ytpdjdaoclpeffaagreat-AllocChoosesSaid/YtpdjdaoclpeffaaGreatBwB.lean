/- What those, Of, Sweep and the document's own come to: a slice of the call's own that holds what a filter keeps. For all leases whose keys fit. -/
import Derived.Test.YtpdjdaoclpeffaaGreatBwA
import Derived.Test.YtpdjdaoclpeffaaGreatEwA
section
set_option maxRecDepth 8000
namespace Go.Proofs.YtpdjdaoclpeffaaGreat.Bw
open Go.RowKit Co By Ky Rc Ew Jw La Tb Lw
open Dw (ba ba_size ba_data ba_list alloc_more)

theorem good_fk {l : List L} (h : ∀ a ∈ l, Fk a) : ∀ a ∈ goodT l, Fk a := by
  intro a ha
  unfold goodT at ha
  split at ha
  · exact h a ha
  · cases ha
set_option maxHeartbeats 2000000 in
theorem those_gen (K : Nat) (hE : ∀ args W, (callFunc K args).run Tryz.prog W = .ok (.enter K args) W) (x : Value) (q : L → Bool) (A : Option Addr) (n c U : Nat) (l : List L) (w : World) (h : RdLs U w A n c l) (hU : U ≤ w.heap.size) (hk : ∀ a ∈ l, Fk a)
    (hK : ∀ a W, Below w.heap.size w W → Calls Tryz.prog K #[lv a, x] W (isB (q a) W)) :
    Calls Tryz.prog 65 #[.slice A n c, .func (.func K) #[] #[x]] w (OwL w.heap.size w ((goodT l).filter q)) := by
  have HV := Lib.hid (valid_any A n c U l w h hU hk)
  have HK := Lib.hid hK
  have HEN := Lib.hid hE
  have HUU := Lib.hid hU
  clear h hU hk hK hE
  go_enter Tryz.func65, Tryz.ntmps65
  go_wp2_with fail
  refine HV.out.mono ?_
  rintro e w1 ⟨A1, n1, c1, rfl, hr1, hb1⟩
  have hn1 : n1 ≤ 64 := by have := good_len l; have := hr1.len; omega
  have HL := Lib.hid hr1.len
  have hcp := hr1.cap
  have hmx := hr1.max
  have HR1 := Lib.hid hr1
  have HB1 := Lib.hid hb1
  clear hr1 hb1 HV
  go_wp2
  go_loopw [5, 11] (fun v i wr => ∃ (k : Nat) (A2 : Option Addr) (c2 : Nat) (ks : List L), k ≤ n1 ∧ ks.length ≤ k ∧ i = .int .i64 k ∧ v = .slice A2 ks.length c2 ∧ Hid (OwnLs w1.heap.size wr A2 ks.length c2 ks) ∧ Hid (ks = ((goodT l).take k).filter q) ∧ Hid (Below w1.heap.size w1 wr)) (fun _ i _ => n1 - (intOf i).toNat)
  case atStart => exact ⟨0, none, 0, [], by omega, Nat.le_refl _, rfl, rfl, OwnG.nil _ _ _, rfl, Below.refl _ _⟩
  case round =>
    obtain ⟨k, A2, c2, ks, hk, hkl, rfl, rfl, HO, HE, HB⟩ := hrel
    by_cases hlt : k < n1
    · have hU1 : U ≤ w1.heap.size := by have := HB1.out.size; have := HUU.out; omega
      obtain ⟨b, o, a, rfl, _, HA, d0, d1, d2, d3⟩ := atL (HR1.out.below (HB.out.mono hU1)) hlt
      have hkz : (k : Int) < (n1 : Int) := by omega
      obtain ⟨w2, hw2⟩ : ∃ w2, w2 = wr.alloc (.cells (lcs a) 34) := ⟨_, rfl⟩
      have hc2 : Cel w2 wr.heap.size 34 (lcs a) := by rw [hw2]; exact Cel.born _ _ _
      have hb2 : Below wr.heap.size wr w2 := by rw [hw2]; exact alloc_more _ _
      obtain ⟨z0, z1, z2, z3⟩ := cel4L hc2
      have HC2 := Lib.hid hc2
      have HO2 := Lib.hid (HO.out.below hb2)
      have HB2 := Lib.hid (HB.out.trans (hb2.mono HB.out.size))
      have HBW := Lib.hid (HB1.out.trans (HB2.out.mono HB1.out.size))
      have HC := Lib.hid (HK.out a w2 HBW.out)
      cases hq : q a with
      | true =>
        have HT := Lib.hid (filter_put HE.out HA.out hq)
        rw [hq] at HC
        clear hq hc2 hb2 HE HA HO
        go_wp2_with fail
        rw [← hw2]
        clear hw2
        rw [HEN.out, Oper.upon_enter]
        refine HC.out.mono ?_
        rintro e w3 ⟨rfl, hb3⟩
        obtain ⟨y0, y1, y2, y3⟩ := cel4L (HC2.out.below hb3 HC2.out.lt)
        have hlit := litL w3 a
        have hba : Below w3.heap.size w3 (w3.alloc (.cells (lcs a) 34)) := alloc_more _ _
        have hown := (HO2.out.below hb3).below hba
        have hsz := HB2.out.size
        have hs3 := hb3.size
        have HB3 := Lib.hid hb3
        go_wp2_with (at_builtin; refine wpList_appG lesP (by decide) (by decide) (by kernel_rfl) rfl (.tmp 18) (.tmp 20) rfl rfl hown rfl hlit (by omega) (by simp; omega) ?_; intro A5 c5 w5 happ)
        go_roundw
        case rel =>
          have hb4 : Below w1.heap.size w1 w5 := by
            have h1 := HB2.out.trans (HB3.out.mono HB2.out.size)
            have h2 := h1.trans (hba.mono h1.size)
            exact h2.trans happ.2.1
          refine ⟨k + 1, A5, c5, ks ++ [a], by omega, by rw [List.length_append]; simp; omega, by go_num, by rw [List.length_append]; rfl, ?_, HT.out, hb4⟩
          rw [List.length_append]
          exact happ.1
        case measure => simp [intOf]; omega
      | false =>
        have HT := Lib.hid (filter_skip HE.out HA.out hq)
        rw [hq] at HC
        clear hq hc2 hb2 HE HA HO
        go_wp2_with fail
        rw [← hw2]
        clear hw2
        rw [HEN.out, Oper.upon_enter]
        refine HC.out.mono ?_
        rintro e w3 ⟨rfl, hb3⟩
        go_wp2
        go_roundw
        case rel => exact ⟨k + 1, A2, c2, ks, by omega, by omega, by go_num, rfl, HO2.out.below hb3, HT.out, HB2.out.trans (hb3.mono HB2.out.size)⟩
        case measure => simp [intOf]; omega
    · obtain rfl : k = n1 := by omega
      have HT : Hid (ks = (goodT l).filter q) := filter_end (by rw [HL.out]; exact HE.out)
      have hkz : ¬ (k : Int) < (k : Int) := by omega
      clear hlt HE
      go_wp2
      go_ret
      exact ⟨A2, ks.length, c2, rfl, by rw [← HT.out]; exact HO.out.mono HB1.out.size, HB1.out.trans (HB.out.mono HB1.out.size)⟩
end Go.Proofs.YtpdjdaoclpeffaaGreat.Bw
end
/- What Of, Sweep and the document's own come to: a slice of the call's own that holds what is told. For all leases whose keys fit. -/
section
set_option maxRecDepth 8000
namespace Go.Proofs.YtpdjdaoclpeffaaGreat.Bw
open Go.RowKit Co By Ky Rc Ew Jw La Tb Lw
open Dw (ba ba_size ba_data ba_list alloc_more)

theorem keyIs_any (a : L) (k : List UInt8) (g : Nat) (w : World) (hg : g < w.heap.size) (hc : w.cell? ⟨g, 0, none⟩ = some (.string (ba k))) :
    Calls Tryz.prog 66 #[lv a, .pointer (some ⟨g, 0, none⟩)] w (isB (decide (a.key = k)) w) := by
  have hne : g ≠ w.heap.size := by omega
  by_cases hk : a.key = k
  · have H : Hid (decide (a.key = k) = true) := decide_eq_true hk
    have hkz := beq_key hk
    clear hk
    go_enter Tryz.func66, Tryz.ntmps66
    go_wp2
    go_ret
    exact ⟨ret_bool H.out.symm, (Below.refl _ _).alloc (Nat.le_refl _) _⟩
  · have H : Hid (decide (a.key = k) = false) := decide_eq_false hk
    have hkz := bne_key hk
    clear hk
    go_enter Tryz.func66, Tryz.ntmps66
    go_wp2
    go_ret
    exact ⟨ret_bool H.out.symm, (Below.refl _ _).alloc (Nat.le_refl _) _⟩
set_option maxHeartbeats 1000000 in
theorem of_any (A : Option Addr) (n c U : Nat) (l : List L) (k : List UInt8) (w : World) (h : RdLs U w A n c l) (hU : U ≤ w.heap.size) (hk : ∀ a ∈ l, Fk a) :
    Calls Tryz.prog 41 #[.slice A n c, .string (ba k)] w (OwL w.heap.size w (ofT l k)) := by
  obtain ⟨w0, hw0⟩ : ∃ w0, w0 = w.alloc (.cells #[.string (ba k)] 9) := ⟨_, rfl⟩
  have hc0 : Cel w0 w.heap.size 9 #[.string (ba k)] := by rw [hw0]; exact Cel.born _ _ _
  have hb0 : Below w.heap.size w w0 := by rw [hw0]; exact alloc_more _ _
  have HC := Lib.hid (those_gen 66 (fun args W => by rfl) (.pointer (some ⟨w.heap.size, 0, none⟩)) (fun a => decide (a.key = k)) A n c U l w0 (h.below (hb0.mono hU)) (Nat.le_trans hU hb0.size) hk
    (fun a W hW => keyIs_any a k w.heap.size W (Nat.lt_of_lt_of_le hc0.lt hW.size) (by rw [(hc0.below hW hc0.lt).cell]; rfl)))
  have HB0 := Lib.hid hb0
  clear h hU hk hc0 hb0
  go_enter Tryz.func41, Tryz.ntmps41
  go_wp2_with fail
  rw [← hw0]
  clear hw0
  refine HC.out.mono ?_
  rintro e w1 ⟨A1, n1, c1, rfl, ho, hb1⟩
  go_wp2
  go_ret
  exact ⟨A1, n1, c1, rfl, ho.mono HB0.out.size, HB0.out.trans (hb1.mono HB0.out.size)⟩
end Go.Proofs.YtpdjdaoclpeffaaGreat.Bw
end
/- What boarderlaw12's Great comes to: at most 200 leases, of keys of at most 1000 bytes. -/
section
set_option maxRecDepth 8000
namespace Go.Proofs.YtpdjdaoclpeffaaGreat.Bw
open Go.RowKit Co By Ky Rc Ew Jw La Tb Lw
open Dw (ba ba_size ba_data ba_list alloc_more)

theorem greatT_any (A : Option Addr) (n c U : Nat) (l : List L) (w : World) (h : RdLs U w A n c l) (hk : ∀ a ∈ l, Fk a) :
    Calls Tryz.prog 20 #[.slice A n c] w fun e w' => e = .returned (.bool (greatL l)) ∧ w = w' := by
  have HX := Lib.hid h
  have HL := Lib.hid h.len
  have HF := Lib.hid hk
  have hm := h.max
  have hc := h.cap
  clear h hk
  go_enter Tryz.func20, Tryz.ntmps20
  go_wp2
  go_loopw [3] (fun v wr => ∃ k : Nat, v = .int .i64 k ∧ k ≤ n ∧ Hid (∀ a ∈ l.take k, a.key.length ≤ 1000) ∧ w = wr) (fun v _ => n - (intOf v).toNat)
  case atStart => exact ⟨0, rfl, by omega, fun a ha => by simp at ha, rfl⟩
  case round =>
    obtain ⟨k, rfl, hk2, HE, rfl⟩ := hrel
    by_cases hlt : k < n
    · obtain ⟨b, o, a, rfl, _, HA, _, _, _, c3⟩ := atL HX.out hlt
      have hkz : (k : Int) < (n : Int) := by omega
      have hfa : a.key.length ≤ 9223372036854775807 := HF.out a (List.mem_of_getElem? HA.out)
      have hbs := ba_size a.key
      by_cases hv : 1000 < a.key.length
      · have HT : Hid (greatL l = true) := by
          show _ = _
          unfold greatL
          rw [decide_eq_true (show ∃ a ∈ l, 1000 < a.key.length from ⟨a, List.mem_of_getElem? HA.out, hv⟩)]
          rfl
        have hvz : ((ba a.key).size : Int) > 1000 := by rw [hbs]; omega
        clear hv HE HA
        go_wp2
        go_ret
        exact ⟨ret_bool HT.out.symm, rfl⟩
      · have HT : Hid (∀ a ∈ l.take (k + 1), a.key.length ≤ 1000) := by
          show ∀ a ∈ _, _
          rw [take_nextL HA.out]
          intro u hu
          rcases List.mem_append.1 hu with hu | hu
          · exact HE.out u hu
          · simp at hu
            subst hu
            omega
        have hvz : ¬ ((ba a.key).size : Int) > 1000 := by rw [hbs]; omega
        clear hv HE HA
        go_wp2
        go_roundw
        case rel => exact ⟨k + 1, by go_num, by omega, HT.out, trivial⟩
        case measure => simp [intOf]; omega
    · have HT : Hid (greatL l = decide (200 < n)) := by
        show _ = _
        obtain rfl : k = n := by omega
        unfold greatL
        rw [HL.out, decide_eq_false (show ¬ ∃ a ∈ l, 1000 < a.key.length from ?_)]
        · rfl
        · rintro ⟨a, ha, hv⟩
          have := HE.out a (by rw [List.take_of_length_le (by rw [HL.out]; exact Nat.le_refl _)]; exact ha)
          omega
      have hkz : ¬ (k : Int) < (n : Int) := by omega
      clear hlt HE
      go_wp2
      go_ret
      exact ⟨by rw [HT.out]; simp; omega, rfl⟩
end Go.Proofs.YtpdjdaoclpeffaaGreat.Bw
end
