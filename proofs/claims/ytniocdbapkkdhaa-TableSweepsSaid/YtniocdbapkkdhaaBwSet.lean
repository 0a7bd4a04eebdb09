/- What Set comes to. For all leases whose keys fit. -/
import Derived.Test.YtniocdbapkkdhaaBwGet
import Derived.Test.YtniocdbapkkdhaaBwCat
set_option maxRecDepth 8000
namespace Go.Proofs.Ytniocdbapkkdhaa.Bw
open Go.RowKit Co By Ky Rc Ew Jw La Tb Lw
open Dw (ba ba_size ba_data ba_list alloc_more)

/-- What a call that answers leases of the call's own and an error answers. -/
def StR (w : World) (p : List L × Int) (e : Ending) (w' : World) : Prop := ∃ A' k c', e = .returned (.tuple #[.slice A' k c', .int .i64 p.2]) ∧ OwnLs w.heap.size w' A' k c' p.1 ∧ Below w.heap.size w w'
theorem cat3_any (U : Nat) (A1 A3 : Option Addr) (n1 c1 n3 c3 : Nat) (l1 l3 : List L) (a : L) (w : World) (h1 : RdLs U w A1 n1 c1 l1) (h3 : RdLs U w A3 n3 c3 l3) (hU : U ≤ w.heap.size) (hn : n1 + n3 ≤ 900) :
    Calls Try.prog 36 #[.slice (some ⟨w.heap.size + 1, 0, none⟩) 3 3] ((w.alloc (.cells (lcs a) 26)).alloc (.cells #[.slice A1 n1 c1, .slice (some ⟨w.heap.size, 0, none⟩) 1 1, .slice A3 n3 c3] 22)) (OwL w.heap.size w (l1 ++ a :: l3)) := by
  have e1 := h1.len
  have e3 := h3.len
  have hsz : ((w.alloc (.cells (lcs a) 26)).alloc (.cells #[.slice A1 n1 c1, .slice (some ⟨w.heap.size, 0, none⟩) 1 1, .slice A3 n3 c3] 22)).heap.size = w.heap.size + 2 := by simp
  have hal : Below w.heap.size w (w.alloc (.cells (lcs a) 26)) := alloc_more _ _
  have hal2 : Below w.heap.size w ((w.alloc (.cells (lcs a) 26)).alloc (.cells #[.slice A1 n1 c1, .slice (some ⟨w.heap.size, 0, none⟩) 1 1, .slice A3 n3 c3] 22)) := hal.alloc (by simp) _
  have hcp := Cel.born (w.alloc (.cells (lcs a) 26)) 22 #[.slice A1 n1 c1, .slice (some ⟨w.heap.size, 0, none⟩) 1 1, .slice A3 n3 c3]
  rw [show (w.alloc (.cells (lcs a) 26)).heap.size = w.heap.size + 1 by simp] at hcp
  have hlit := litL w a
  have hparts : PartsL ((w.alloc (.cells (lcs a) 26)).alloc (.cells #[.slice A1 n1 c1, .slice (some ⟨w.heap.size, 0, none⟩) 1 1, .slice A3 n3 c3] 22)) (w.heap.size + 1) 0 [⟨A1, c1, l1⟩, ⟨some ⟨w.heap.size, 0, none⟩, 1, [a]⟩, ⟨A3, c3, l3⟩] := by
    intro i hi
    rw [hsz]
    match i, hi with
    | 0, _ => exact ⟨by rw [hcp.cell]; show _ = some (Value.slice A1 l1.length c1); rw [e1]; rfl, by show RdLs _ _ A1 l1.length c1 l1; rw [e1]; exact (h1.below (hal2.mono hU)).mono (by omega)⟩
    | 1, _ => exact ⟨by rw [hcp.cell]; rfl, (hlit.below ((Below.refl _ _).alloc (by simp) _)).mono (by omega)⟩
    | 2, _ => exact ⟨by rw [hcp.cell]; show _ = some (Value.slice A3 l3.length c3); rw [e3]; rfl, by show RdLs _ _ A3 l3.length c3 l3; rw [e3]; exact (h3.below (hal2.mono hU)).mono (by omega)⟩
  have htot : totP [(⟨A1, c1, l1⟩ : PartL), ⟨some ⟨w.heap.size, 0, none⟩, 1, [a]⟩, ⟨A3, c3, l3⟩] = n1 + (1 + n3) := by
    simp only [totP, List.map_cons, List.map_nil, List.sum_cons, List.sum_nil, e1, e3, List.length_cons, List.length_nil]
    omega
  have hcat : catP [(⟨A1, c1, l1⟩ : PartL), ⟨some ⟨w.heap.size, 0, none⟩, 1, [a]⟩, ⟨A3, c3, l3⟩] = l1 ++ a :: l3 := by simp [catP]
  refine (concatL_any (w.heap.size + 1) 0 3 3 _ _ hparts rfl (by omega) (by omega) (by rw [htot]; omega)).mono ?_
  rintro e w' ⟨A5, c5, rfl, hown, hb5⟩
  rw [hcat] at hown
  rw [hsz] at hown hb5
  exact ⟨A5, _, c5, rfl, hown.mono (by omega), hal2.trans (hb5.mono (by omega))⟩
/-! ### What is set -/
theorem set_found {t : List L} {l : L} (hr : RightR l) (h : hasT (goodT t) l.addr = true) : posT (goodT t) l.addr < (goodT t).length ∧ setT t l = ((goodT t).take (posT (goodT t) l.addr) ++ l :: (goodT t).drop (posT (goodT t) l.addr + 1), 0) := by
  have hg := good_right t
  rcases has_get (t := goodT t) (a := l.addr) with ⟨_, x, hx, hxa, _⟩ | ⟨hh, _⟩ | hbad
  · have hlt : posT (goodT t) l.addr < (goodT t).length := (List.getElem?_eq_some_iff.1 hx).1
    have hp := put_found hg.2.2 hlt (by rw [getD_of hx]; exact hxa)
    refine ⟨hlt, ?_⟩
    rw [set_ok hr (by rw [hp, found_len hlt]; exact hg.1), hp]
  · rw [hh] at h; cases h
  · exact absurd hg.2.2 hbad
theorem set_gap {t : List L} {l : L} (h : hasT (goodT t) l.addr = false) : putT (goodT t) l = (goodT t).take (posT (goodT t) l.addr) ++ l :: (goodT t).drop (posT (goodT t) l.addr) := by
  have hg := good_right t
  refine put_between hg.2.2 fun k => ?_
  have := first_pos hg.2.2 l.addr
  rw [if_pos k] at this
  unfold hasT at h
  rw [this] at h
  cases h
theorem set_between {t : List L} {l : L} (hr : RightR l) (h : hasT (goodT t) l.addr = false) (hn : ¬ (goodT t).length = 64) : setT t l = ((goodT t).take (posT (goodT t) l.addr) ++ l :: (goodT t).drop (posT (goodT t) l.addr), 0) := by
  have hg := good_len t
  have hp := set_gap h
  rw [set_ok hr (by rw [hp, between_len]; omega), hp]
theorem set_over {t : List L} {l : L} (hr : RightR l) (h : hasT (goodT t) l.addr = false) (hn : (goodT t).length = 64) : setT t l = ([], 3) := by
  rw [set_full hr (by rw [set_gap h, between_len]; omega)]
set_option maxHeartbeats 4000000 in
theorem set_any (A : Option Addr) (n c U : Nat) (l : List L) (x : L) (w : World) (h : RdLs U w A n c l) (hU : U ≤ w.heap.size) (hk : ∀ a ∈ l, Fk a) (hx : Fk x) :
    Calls Try.prog 18 #[.slice A n c, lv x] w (StR w (setT l x)) := by
  obtain ⟨w0, hw0⟩ : ∃ w0, w0 = w.alloc (.cells (lcs x) 26) := ⟨_, rfl⟩
  have hc0 : Cel w0 w.heap.size 26 (lcs x) := by rw [hw0]; exact Cel.born _ _ _
  have hb0 : Below w.heap.size w w0 := by rw [hw0]; exact alloc_more _ _
  have HC0 := Lib.hid hc0
  have HB0 := Lib.hid hb0
  have HR := Lib.hid (Ew.right_any x w0 hx)
  cases hr : rightR x with
  | false =>
    rw [hr] at HR
    have HT : Hid (setT l x = ([], 1)) := set_bad (of_decide_eq_false hr)
    clear h hU hk hr hc0 hb0 HC0
    go_enter Try.func18, Try.ntmps18
    go_wp2_with fail
    rw [← hw0]
    clear hw0
    refine HR.out.mono ?_
    rintro e w1 ⟨rfl, hb1⟩
    go_wp2
    go_ret2
    exact ⟨none, 0, 0, by rw [HT.out]; rfl, by rw [HT.out]; exact OwnG.nil _ _ _, HB0.out.trans (hb1.mono HB0.out.size)⟩
  | true =>
    rw [hr] at HR
    have HRR := Lib.hid (show RightR x from of_decide_eq_true hr)
    have HX := Lib.hid h
    have HK := Lib.hid hk
    have HUU := Lib.hid hU
    clear h hU hk hr hc0 hb0
    go_enter Try.func18, Try.ntmps18
    go_wp2_with fail
    rw [← hw0]
    clear hw0
    refine HR.out.mono ?_
    rintro e w1 ⟨rfl, hb1⟩
    have hb01 := HB0.out.trans (hb1.mono HB0.out.size)
    have HB1 := Lib.hid hb01
    have HC1 := Lib.hid (HC0.out.below hb1 HC0.out.lt)
    have HV := Lib.hid (valid_any A n c U l w1 (HX.out.below (hb01.mono HUU.out)) (Nat.le_trans HUU.out hb01.size) HK.out)
    clear hb1 hb01 HR HC0 HB0
    go_wp2_with fail
    refine HV.out.mono ?_
    rintro e w2 ⟨A1, n1, c1, rfl, hr1, hb2⟩
    have hn1 : n1 ≤ 64 := by have := good_len l; have := hr1.len; omega
    have hb02 := HB1.out.trans (hb2.mono HB1.out.size)
    have HP := Lib.hid (place_any A1 n1 c1 U (goodT l) x.addr w2 hr1 (Nat.le_trans HUU.out hb02.size) (good_right l).2.2 hn1)
    have hc2 := HC1.out.below hb2 HC1.out.lt
    have z0 : w2.cell? ⟨w.heap.size, 0, none⟩ = some (.int .i64 x.addr) := (cel4L hc2).1
    have HC2 := Lib.hid hc2
    have HR2 := Lib.hid hr1
    have HB2 := Lib.hid hb02
    have HL := Lib.hid hr1.len
    have hcp := hr1.cap
    have hmx := hr1.max
    clear hr1 hb2 hb02 hc2 HV HC1 HB1
    obtain ⟨p, hp⟩ : ∃ p, p = posT (goodT l) x.addr := ⟨_, rfl⟩
    have hpn : p ≤ n1 := by rw [hp, ← HL.out]; exact pos_le _ _
    cases hh : hasT (goodT l) x.addr with
    | true =>
      obtain ⟨hlt, hset⟩ := set_found HRR.out hh
      rw [← hp] at hset hlt
      rw [hh, ← hp] at HP
      have hpl : p < n1 := by rw [← HL.out]; exact hlt
      have HT := Lib.hid hset
      clear hset hh hp hlt
      go_wp2_with fail
      refine HP.out.mono ?_
      rintro e w3 ⟨rfl, hb3⟩
      have hb03 := HB2.out.trans (hb3.mono HB2.out.size)
      have hr3 := HR2.out.below (hb3.mono (Nat.le_trans HUU.out HB2.out.size))
      obtain ⟨A4, hA4, hrun4⟩ := lesP.cut_h hr3 p (p : Int) rfl hpn
      obtain ⟨A5, hA5, hrun5⟩ := lesP.cut_l hr3 p (p : Int) rfl hpn
      obtain ⟨A6, hA6, hrun6⟩ := lesP.cut_l hA5 1 1 rfl (by omega)
      have HC3 := Lib.hid (HC2.out.below hb3 HC2.out.lt)
      have HB3 := Lib.hid hb03
      have HU3 := Lib.hid (Nat.le_trans HUU.out hb03.size)
      have HA4 := Lib.hid hA4
      have HA6 := Lib.hid hA6
      clear hb3 hb03 hr3 hA4 hA5 hA6 HP HR2 HB2 HC2 z0
      go_wp2_with fail
      go_quiet (fail)
      rename_i nq
      obtain ⟨wq, hwq⟩ : ∃ wq, wq = w3.drewN nq := ⟨_, rfl⟩
      have hbq : Below w3.heap.size w3 wq := by rw [hwq]; exact below_drewN (Below.refl _ _) nq
      obtain ⟨z0, z1, z2, z3⟩ := cel4L (HC3.out.below hbq HC3.out.lt)
      have HCC := Lib.hid (cat3_any U A4 A6 p c1 (n1 - p - 1) (c1 - p - 1) _ _ x wq (HA4.out.below (hbq.mono HU3.out)) (HA6.out.below (hbq.mono HU3.out)) (Nat.le_trans HU3.out hbq.size) (by omega))
      have HBQ := Lib.hid (HB3.out.trans (hbq.mono HB3.out.size))
      rw [← hwq]
      clear hwq hbq
      go_wp2_with fail
      refine HCC.out.mono ?_
      rintro e w5 ⟨A7, n7, c7, rfl, ho, hb5⟩
      go_wp2
      go_ret2
      refine ⟨A7, n7, c7, by rw [HT.out]; rfl, ?_, HBQ.out.trans (hb5.mono HBQ.out.size)⟩
      rw [HT.out]
      have e : ((goodT l).drop p).drop 1 = (goodT l).drop (p + 1) := by rw [List.drop_drop]
      rw [e] at ho
      exact ho.mono HBQ.out.size
    | false =>
      rw [hh, ← hp] at HP
      by_cases h64 : n1 = 64
      · have HT : Hid (setT l x = ([], 3)) := set_over HRR.out hh (by rw [HL.out]; exact h64)
        clear hh hp
        subst h64
        go_wp2_with fail
        refine HP.out.mono ?_
        rintro e w3 ⟨rfl, hb3⟩
        have hb03 := HB2.out.trans (hb3.mono HB2.out.size)
        have hr3 := HR2.out.below (hb3.mono (Nat.le_trans HUU.out HB2.out.size))
        obtain ⟨A4, hA4, hrun4⟩ := lesP.cut_h hr3 p (p : Int) rfl hpn
        obtain ⟨A5, hA5, hrun5⟩ := lesP.cut_l hr3 p (p : Int) rfl hpn
        have HB3 := Lib.hid hb03
        clear hb3 hb03 hr3 hA4 hA5 HP HR2 HB2 HC2 z0
        go_wp2_with fail
        go_quiet (fail)
        rename_i nq
        have HBQ := Lib.hid (below_drewN HB3.out nq)
        go_wp2
        go_ret2
        exact ⟨none, 0, 0, by rw [HT.out]; rfl, by rw [HT.out]; exact OwnG.nil _ _ _, HBQ.out⟩
      have hset := set_between HRR.out hh (by rw [HL.out]; exact h64)
      rw [← hp] at hset
      have hz64 : ((n1 : Int) == 64) = false := by simpa using (show ¬ (n1 : Int) = 64 by omega)
      have HT := Lib.hid hset
      clear hset hh hp h64
      go_wp2_with fail
      refine HP.out.mono ?_
      rintro e w3 ⟨rfl, hb3⟩
      have hb03 := HB2.out.trans (hb3.mono HB2.out.size)
      have hr3 := HR2.out.below (hb3.mono (Nat.le_trans HUU.out HB2.out.size))
      obtain ⟨A4, hA4, hrun4⟩ := lesP.cut_h hr3 p (p : Int) rfl hpn
      obtain ⟨A5, hA5, hrun5⟩ := lesP.cut_l hr3 p (p : Int) rfl hpn
      have HC3 := Lib.hid (HC2.out.below hb3 HC2.out.lt)
      have HB3 := Lib.hid hb03
      have HU3 := Lib.hid (Nat.le_trans HUU.out hb03.size)
      have HA4 := Lib.hid hA4
      have HA5 := Lib.hid hA5
      clear hb3 hb03 hr3 hA4 hA5 HP HR2 HB2 HC2 z0
      go_wp2_with fail
      go_quiet (fail)
      rename_i nq
      obtain ⟨wq, hwq⟩ : ∃ wq, wq = w3.drewN nq := ⟨_, rfl⟩
      have hbq : Below w3.heap.size w3 wq := by rw [hwq]; exact below_drewN (Below.refl _ _) nq
      obtain ⟨z0, z1, z2, z3⟩ := cel4L (HC3.out.below hbq HC3.out.lt)
      have HCC := Lib.hid (cat3_any U A4 A5 p c1 (n1 - p) (c1 - p) _ _ x wq (HA4.out.below (hbq.mono HU3.out)) (HA5.out.below (hbq.mono HU3.out)) (Nat.le_trans HU3.out hbq.size) (by omega))
      have HBQ := Lib.hid (HB3.out.trans (hbq.mono HB3.out.size))
      rw [← hwq]
      clear hwq hbq
      go_wp2_with fail
      refine HCC.out.mono ?_
      rintro e w5 ⟨A7, n7, c7, rfl, ho, hb5⟩
      go_wp2
      go_ret2
      refine ⟨A7, n7, c7, by rw [HT.out]; rfl, ?_, HBQ.out.trans (hb5.mono HBQ.out.size)⟩
      rw [HT.out]
      exact ho.mono HBQ.out.size
end Go.Proofs.Ytniocdbapkkdhaa.Bw
