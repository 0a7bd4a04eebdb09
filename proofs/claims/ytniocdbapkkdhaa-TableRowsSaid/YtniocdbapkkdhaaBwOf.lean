/- What Of, Sweep and the document's own come to: a slice of the call's own that holds what is told. For all leases whose keys fit. -/
import Derived.Test.YtniocdbapkkdhaaBwThose
set_option maxRecDepth 8000
namespace Go.Proofs.Ytniocdbapkkdhaa.Bw
open Go.RowKit Co By Ky Rc Ew Jw La Tb Lw
open Dw (ba ba_size ba_data ba_list alloc_more)

theorem keyIs_any (a : L) (k : List UInt8) (g : Nat) (w : World) (hg : g < w.heap.size) (hc : w.cell? ⟨g, 0, none⟩ = some (.string (ba k))) :
    Calls Try.prog 35 #[lv a, .pointer (some ⟨g, 0, none⟩)] w (isB (decide (a.key = k)) w) := by
  have hne : g ≠ w.heap.size := by omega
  by_cases hk : a.key = k
  · have H : Hid (decide (a.key = k) = true) := decide_eq_true hk
    have hkz := beq_key hk
    clear hk
    go_enter Try.func35, Try.ntmps35
    go_wp2
    go_ret
    exact ⟨ret_bool H.out.symm, (Below.refl _ _).alloc (Nat.le_refl _) _⟩
  · have H : Hid (decide (a.key = k) = false) := decide_eq_false hk
    have hkz := bne_key hk
    clear hk
    go_enter Try.func35, Try.ntmps35
    go_wp2
    go_ret
    exact ⟨ret_bool H.out.symm, (Below.refl _ _).alloc (Nat.le_refl _) _⟩
theorem counts_any (a : L) (now : Int) (g : Nat) (w : World) (hg : g < w.heap.size) (hc : w.cell? ⟨g, 0, none⟩ = some (.int .i64 now)) :
    Calls Try.prog 37 #[lv a, .pointer (some ⟨g, 0, none⟩)] w (isB (holdsT a now || restsT a now) w) := by
  obtain ⟨w0, hw0⟩ : ∃ w0, w0 = w.alloc (.cells (lcs a) 26) := ⟨_, rfl⟩
  have hc0 : Cel w0 w.heap.size 26 (lcs a) := by rw [hw0]; exact Cel.born _ _ _
  have hb0 : Below w.heap.size w w0 := by rw [hw0]; exact alloc_more _ _
  have hne : g ≠ w.heap.size := by omega
  have hcg : w0.cell? ⟨g, 0, none⟩ = some (.int .i64 now) := (hb0.cell (p := ⟨g, 0, none⟩) hg).trans hc
  have hg0 : g < w0.heap.size := Nat.lt_of_lt_of_le hg hb0.size
  have HC0 := Lib.hid hc0
  have HB0 := Lib.hid hb0
  have HG := Lib.hid hcg
  have HH := Lib.hid (holds_any a now w0)
  clear hc0 hb0 hcg
  cases h1 : holdsT a now with
  | true =>
    rw [h1] at HH
    clear h1
    go_enter Try.func37, Try.ntmps37
    go_wp2_with fail
    rw [← hw0]
    clear hw0 hc
    refine HH.out.mono ?_
    rintro e w1 ⟨rfl, hb1⟩
    go_wp2
    go_ret
    exact ⟨rfl, HB0.out.trans (hb1.mono HB0.out.size)⟩
  | false =>
    rw [h1] at HH
    have HR := Lib.hid (fun W => rests_any a now W)
    clear h1
    go_enter Try.func37, Try.ntmps37
    go_wp2_with fail
    rw [← hw0]
    clear hw0 hc
    refine HH.out.mono ?_
    rintro e w1 ⟨rfl, hb1⟩
    obtain ⟨y0, y1, y2, y3⟩ := cel4L (HC0.out.below hb1 HC0.out.lt)
    have hcg1 := (hb1.cell (p := ⟨g, 0, none⟩) hg0).trans HG.out
    go_wp2_with fail
    refine (HR.out _).mono ?_
    rintro e w2 ⟨rfl, hb2⟩
    have HB2 := Lib.hid ((HB0.out.trans (hb1.mono HB0.out.size)).trans (hb2.mono (HB0.out.trans (hb1.mono HB0.out.size)).size))
    clear HR
    cases h2 : restsT a now with
    | true =>
      have HT : Hid ((false || restsT a now) = true) := by show _ = _; rw [h2]; rfl
      clear h2
      go_wp2
      go_ret
      exact ⟨ret_bool HT.out.symm, HB2.out⟩
    | false =>
      have HT : Hid ((false || restsT a now) = false) := by show _ = _; rw [h2]; rfl
      clear h2
      go_wp2
      go_ret
      exact ⟨ret_bool HT.out.symm, HB2.out⟩
set_option maxHeartbeats 1000000 in
theorem of_any (A : Option Addr) (n c U : Nat) (l : List L) (k : List UInt8) (w : World) (h : RdLs U w A n c l) (hU : U ≤ w.heap.size) (hk : ∀ a ∈ l, Fk a) :
    Calls Try.prog 16 #[.slice A n c, .string (ba k)] w (OwL w.heap.size w (ofT l k)) := by
  obtain ⟨w0, hw0⟩ : ∃ w0, w0 = w.alloc (.cells #[.string (ba k)] 9) := ⟨_, rfl⟩
  have hc0 : Cel w0 w.heap.size 9 #[.string (ba k)] := by rw [hw0]; exact Cel.born _ _ _
  have hb0 : Below w.heap.size w w0 := by rw [hw0]; exact alloc_more _ _
  have HC := Lib.hid (those_gen 35 (fun args W => by rfl) (.pointer (some ⟨w.heap.size, 0, none⟩)) (fun a => decide (a.key = k)) A n c U l w0 (h.below (hb0.mono hU)) (Nat.le_trans hU hb0.size) hk
    (fun a W hW => keyIs_any a k w.heap.size W (Nat.lt_of_lt_of_le hc0.lt hW.size) (by rw [(hc0.below hW hc0.lt).cell]; rfl)))
  have HB0 := Lib.hid hb0
  clear h hU hk hc0 hb0
  go_enter Try.func16, Try.ntmps16
  go_wp2_with fail
  rw [← hw0]
  clear hw0
  refine HC.out.mono ?_
  rintro e w1 ⟨A1, n1, c1, rfl, ho, hb1⟩
  go_wp2
  go_ret
  exact ⟨A1, n1, c1, rfl, ho.mono HB0.out.size, HB0.out.trans (hb1.mono HB0.out.size)⟩
set_option maxHeartbeats 1000000 in
theorem sweep_any (A : Option Addr) (n c U : Nat) (l : List L) (now : Int) (w : World) (h : RdLs U w A n c l) (hU : U ≤ w.heap.size) (hk : ∀ a ∈ l, Fk a) :
    Calls Try.prog 26 #[.slice A n c, .int .i64 now] w (OwL w.heap.size w (sweepT l now)) := by
  obtain ⟨w0, hw0⟩ : ∃ w0, w0 = w.alloc (.cells #[.int .i64 now] 3) := ⟨_, rfl⟩
  have hc0 : Cel w0 w.heap.size 3 #[.int .i64 now] := by rw [hw0]; exact Cel.born _ _ _
  have hb0 : Below w.heap.size w w0 := by rw [hw0]; exact alloc_more _ _
  have HC := Lib.hid (those_gen 37 (fun args W => by rfl) (.pointer (some ⟨w.heap.size, 0, none⟩)) (fun a => holdsT a now || restsT a now) A n c U l w0 (h.below (hb0.mono hU)) (Nat.le_trans hU hb0.size) hk
    (fun a W hW => counts_any a now w.heap.size W (Nat.lt_of_lt_of_le hc0.lt hW.size) (by rw [(hc0.below hW hc0.lt).cell]; rfl)))
  have HB0 := Lib.hid hb0
  clear h hU hk hc0 hb0
  go_enter Try.func26, Try.ntmps26
  go_wp2_with fail
  rw [← hw0]
  clear hw0
  refine HC.out.mono ?_
  rintro e w1 ⟨A1, n1, c1, rfl, ho, hb1⟩
  go_wp2
  go_ret
  exact ⟨A1, n1, c1, rfl, ho.mono HB0.out.size, HB0.out.trans (hb1.mono HB0.out.size)⟩
set_option maxHeartbeats 4000000 in
theorem refOf_any (A : Option Addr) (n c U : Nat) (l : List L) (k : List UInt8) (w : World) (h : RdLs U w A n c l) (hU : U ≤ w.heap.size) (hk : ∀ a ∈ l, Fk a) :
    Calls Try.prog 17 #[.slice A n c, .string (ba k)] w (OwL w.heap.size w (ofT l k)) := by
  have HV := Lib.hid (good_any A n c U l w h hU hk)
  have HUU := Lib.hid hU
  clear h hU hk
  go_enter Try.func17, Try.ntmps17
  go_wp2_with fail
  refine HV.out.mono ?_
  rintro e w1 ⟨A1, n1, c1, rfl, hr1, hb1⟩
  have hn1 : n1 ≤ 64 := by have := good_len l; have := hr1.len; omega
  have HL := Lib.hid hr1.len
  have hcp := hr1.cap
  have hmx := hr1.max
  have HR1 := Lib.hid hr1
  have HB1 := Lib.hid hb1
  have HU1 : Hid (U ≤ w1.heap.size) := by have := hb1.size; have := HUU.out; show _ ≤ _; omega
  clear hr1 hb1 HV
  go_wp2
  go_loopw [5, 6] (fun v i wr => ∃ (j : Nat) (A2 : Option Addr) (c2 : Nat) (ks : List L), j ≤ n1 ∧ ks.length ≤ j ∧ i = .int .i64 j ∧ v = .slice A2 ks.length c2 ∧ Hid (OwnLs w1.heap.size wr A2 ks.length c2 ks) ∧ Hid (ks = ((goodT l).take j).filter (fun a => decide (a.key = k))) ∧ Hid (Below w1.heap.size w1 wr)) (fun _ i _ => n1 - (intOf i).toNat)
  case atStart => exact ⟨0, none, 0, [], by omega, Nat.le_refl _, rfl, rfl, OwnG.nil _ _ _, rfl, Below.refl _ _⟩
  case round =>
    obtain ⟨j, A2, c2, ks, hk, hkl, rfl, rfl, HO, HE, HB⟩ := hrel
    by_cases hlt : j < n1
    · obtain ⟨b, o, a, rfl, _, HA, d0, d1, d2, d3⟩ := atL (HR1.out.below (HB.out.mono HU1.out)) hlt
      have hkz : (j : Int) < (n1 : Int) := by omega
      by_cases hq : a.key = k
      · have hkz2 := beq_key hq
        have HT := Lib.hid (filter_put HE.out HA.out (q := (fun a => decide (a.key = k))) (decide_eq_true hq))
        have hlit := litL wr a
        have hba : Below wr.heap.size wr (wr.alloc (.cells (lcs a) 26)) := alloc_more _ _
        have hown := HO.out.below hba
        have hsz := HB.out.size
        clear hq HA HE HO
        go_wp2_with (at_builtin; refine wpList_appG lesP (by decide) (by decide) (by kernel_rfl) rfl (.tmp 22) (.tmp 27) rfl rfl hown rfl hlit (by omega) (by simp; omega) ?_; intro A5 c5 w5 happ)
        go_roundw
        case rel =>
          refine ⟨j + 1, A5, c5, ks ++ [a], by omega, by rw [List.length_append]; simp; omega, by go_num, by rw [List.length_append]; rfl, ?_, HT.out, HB.out.trans ((hba.mono hsz).trans happ.2.1)⟩
          rw [List.length_append]
          exact happ.1
        case measure => simp [intOf]; omega
      · have hkz2 := bne_key hq
        have HT := Lib.hid (filter_skip HE.out HA.out (q := (fun a => decide (a.key = k))) (decide_eq_false hq))
        clear hq HA HE
        go_wp2
        go_roundw
        case rel => exact ⟨j + 1, A2, c2, ks, by omega, by omega, by go_num, rfl, HO.out, HT.out, HB.out⟩
        case measure => simp [intOf]; omega
    · obtain rfl : j = n1 := by omega
      have HT : Hid (ks = ofT l k) := (filter_end (by rw [HL.out]; exact HE.out)).trans rfl
      have hkz : ¬ (j : Int) < (j : Int) := by omega
      clear hlt HE
      go_wp2
      go_ret
      exact ⟨A2, ks.length, c2, rfl, by rw [← HT.out]; exact HO.out.mono HB1.out.size, HB1.out.trans (HB.out.mono HB1.out.size)⟩
set_option maxHeartbeats 4000000 in
theorem refSweep_any (A : Option Addr) (n c U : Nat) (l : List L) (now : Int) (w : World) (h : RdLs U w A n c l) (hU : U ≤ w.heap.size) (hk : ∀ a ∈ l, Fk a) :
    Calls Try.prog 27 #[.slice A n c, .int .i64 now] w (OwL w.heap.size w (sweepT l now)) := by
  have HV := Lib.hid (good_any A n c U l w h hU hk)
  have HUU := Lib.hid hU
  clear h hU hk
  go_enter Try.func27, Try.ntmps27
  go_wp2_with fail
  refine HV.out.mono ?_
  rintro e w1 ⟨A1, n1, c1, rfl, hr1, hb1⟩
  have hn1 : n1 ≤ 64 := by have := good_len l; have := hr1.len; omega
  have HL := Lib.hid hr1.len
  have hcp := hr1.cap
  have hmx := hr1.max
  have HR1 := Lib.hid hr1
  have HB1 := Lib.hid hb1
  have HU1 : Hid (U ≤ w1.heap.size) := by have := hb1.size; have := HUU.out; show _ ≤ _; omega
  clear hr1 hb1 HV
  go_wp2
  go_loopw [5, 6] (fun v i wr => ∃ (j : Nat) (A2 : Option Addr) (c2 : Nat) (ks : List L), j ≤ n1 ∧ ks.length ≤ j ∧ i = .int .i64 j ∧ v = .slice A2 ks.length c2 ∧ Hid (OwnLs w1.heap.size wr A2 ks.length c2 ks) ∧ Hid (ks = ((goodT l).take j).filter (fun a => decide (a.state ≠ 2) && decide (now < a.till))) ∧ Hid (Below w1.heap.size w1 wr)) (fun _ i _ => n1 - (intOf i).toNat)
  case atStart => exact ⟨0, none, 0, [], by omega, Nat.le_refl _, rfl, rfl, OwnG.nil _ _ _, rfl, Below.refl _ _⟩
  case round =>
    obtain ⟨j, A2, c2, ks, hk, hkl, rfl, rfl, HO, HE, HB⟩ := hrel
    by_cases hlt : j < n1
    · obtain ⟨b, o, a, rfl, _, HA, d0, d1, d2, d3⟩ := atL (HR1.out.below (HB.out.mono HU1.out)) hlt
      have hkz : (j : Int) < (n1 : Int) := by omega
      by_cases hs : a.state = 2
      · have hsz2 : (a.state != 2) = false := by simpa using hs
        have hsz3 : (a.state == 2) = true := by simpa using hs
        have HT := Lib.hid (filter_skip HE.out HA.out (q := (fun a => decide (a.state ≠ 2) && decide (now < a.till))) (by rw [show decide (a.state ≠ 2) = false from decide_eq_false (fun q => q hs)]; rfl))
        clear hs HA HE
        go_wp2
        go_roundw
        case rel => exact ⟨j + 1, A2, c2, ks, by omega, by omega, by go_num, rfl, HO.out, HT.out, HB.out⟩
        case measure => simp [intOf]; omega
      · have hsz2 : (a.state != 2) = true := by simpa using hs
        have hsz3 : (a.state == 2) = false := by simpa using hs
        by_cases ht : now < a.till
        · have htz : decide (now < a.till) = true := decide_eq_true ht
          have HT := Lib.hid (filter_put HE.out HA.out (q := (fun a => decide (a.state ≠ 2) && decide (now < a.till))) (by rw [show decide (a.state ≠ 2) = true from decide_eq_true hs, htz]; rfl))
          have hlit := litL wr a
          have hba : Below wr.heap.size wr (wr.alloc (.cells (lcs a) 26)) := alloc_more _ _
          have hown := HO.out.below hba
          have hsz := HB.out.size
          clear hs HA HE HO
          go_wp2_with (at_builtin; refine wpList_appG lesP (by decide) (by decide) (by kernel_rfl) rfl (.tmp 30) (.tmp 35) rfl rfl hown rfl hlit (by omega) (by simp; omega) ?_; intro A5 c5 w5 happ)
          go_roundw
          case rel =>
            refine ⟨j + 1, A5, c5, ks ++ [a], by omega, by rw [List.length_append]; simp; omega, by go_num, by rw [List.length_append]; rfl, ?_, HT.out, HB.out.trans ((hba.mono hsz).trans happ.2.1)⟩
            rw [List.length_append]
            exact happ.1
          case measure => simp [intOf]; omega
        · have htz : decide (now < a.till) = false := decide_eq_false ht
          have HT := Lib.hid (filter_skip HE.out HA.out (q := (fun a => decide (a.state ≠ 2) && decide (now < a.till))) (by rw [htz]; simp))
          clear hs ht HA HE
          go_wp2
          go_roundw
          case rel => exact ⟨j + 1, A2, c2, ks, by omega, by omega, by go_num, rfl, HO.out, HT.out, HB.out⟩
          case measure => simp [intOf]; omega
    · obtain rfl : j = n1 := by omega
      have HT : Hid (ks = sweepT l now) := (filter_end (by rw [HL.out]; exact HE.out)).trans (sweep_doc l now).symm
      have hkz : ¬ (j : Int) < (j : Int) := by omega
      clear hlt HE
      go_wp2
      go_ret
      exact ⟨A2, ks.length, c2, rfl, by rw [← HT.out]; exact HO.out.mono HB1.out.size, HB1.out.trans (HB.out.mono HB1.out.size)⟩
end Go.Proofs.Ytniocdbapkkdhaa.Bw
