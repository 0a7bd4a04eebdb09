/- What Get and the document's Get come to. For all leases whose keys fit. -/
import Derived.Test.YtniocdbapkkdhaaBwTab
set_option maxRecDepth 8000
namespace Go.Proofs.Ytniocdbapkkdhaa.Bw
open Go.RowKit Co By Ky Rc Ew Jw La Tb Lw
open Dw (ba ba_size ba_data ba_list alloc_more)

/-- What a call that answers a lease and whether it is there answers. -/
def GtR (w : World) (p : L × Bool) (e : Ending) (w' : World) : Prop := e = .returned (.tuple #[lv p.1, .bool p.2]) ∧ Below w.heap.size w w'
theorem get_has {l : List L} {a : Int} {x : L} (h : firstT (goodT l) a = some x) : getT l a = (x, true) := by unfold getT; rw [h]; rfl
theorem get_hasn {l : List L} {a : Int} (h : firstT (goodT l) a = none) : getT l a = (zeroL, false) := by unfold getT; rw [h]; rfl
set_option maxHeartbeats 2000000 in
theorem get_any (A : Option Addr) (n c U : Nat) (l : List L) (a : Int) (w : World) (h : RdLs U w A n c l) (hU : U ≤ w.heap.size) (hk : ∀ a ∈ l, Fk a) :
    Calls Try.prog 11 #[.slice A n c, .int .i64 a] w (GtR w (getT l a)) := by
  obtain ⟨w0, hw0⟩ : ∃ w0, w0 = w.alloc (.cells #[.int .i64 0, .int .i64 0, .int .i64 0, .string ⟨#[]⟩] 26) := ⟨_, rfl⟩
  have HC0 := Lib.hid (show Cel w0 w.heap.size 26 (lcs zeroL) by rw [hw0]; exact Cel.born _ _ _)
  have HB0 := Lib.hid (show Below w.heap.size w w0 by rw [hw0]; exact (Below.refl _ _).alloc (Nat.le_refl _) _)
  have hU0 : U ≤ w0.heap.size := by have := HB0.out.size; omega
  have HV := Lib.hid (valid_any A n c U l w0 (h.below (HB0.out.mono hU)) hU0 hk)
  have HU0 := Lib.hid hU0
  clear h hU hk hU0
  go_enter Try.func11, Try.ntmps11
  go_wp2_with fail
  rw [← hw0]
  clear hw0
  refine HV.out.mono ?_
  rintro e w1 ⟨A1, n1, c1, rfl, hr1, hb1⟩
  have hn1 : n1 ≤ 64 := by have := good_len l; have := hr1.len; omega
  have HP := Lib.hid (place_any A1 n1 c1 U (goodT l) a w1 hr1 (by have := hb1.size; have := HU0.out; omega) (good_right l).2.2 hn1)
  have HR1 := Lib.hid hr1
  have HB1 := Lib.hid (HB0.out.trans (hb1.mono HB0.out.size))
  have HC1 := Lib.hid (HC0.out.below hb1 HC0.out.lt)
  have HU1 : Hid (U ≤ w1.heap.size) := by have := hb1.size; have := HU0.out; show _ ≤ _; omega
  clear hr1 hb1 HV HC0 HB0 HU0
  rcases has_get (t := goodT l) (a := a) with ⟨hh, x, hx, hxa, hf⟩ | ⟨hh, hf⟩ | hbad
  · rw [hh] at HP
    have HG := Lib.hid (get_has hf)
    obtain ⟨p, hp⟩ : ∃ p, p = posT (goodT l) a := ⟨_, rfl⟩
    rw [← hp] at HP hx
    have HPX := Lib.hid hx
    have hpn : p < n1 := by obtain ⟨k, _⟩ := List.getElem?_eq_some_iff.1 hx; have := HR1.out.len; omega
    clear hh hf hp hx hxa
    go_wp2_with fail
    refine HP.out.mono ?_
    rintro e w2 ⟨rfl, hb2⟩
    obtain ⟨b, o, x', rfl, hbU, HA, c0, c1, c2, c3⟩ := atL (HR1.out.below (hb2.mono HU1.out)) hpn
    obtain rfl : x' = x := by have := HA.out.symm.trans HPX.out; injection this
    have hc2 := HC1.out.below hb2 HC1.out.lt
    obtain ⟨f0, f1, f2, f3⟩ := celFr4 hc2
    obtain ⟨z0, z1, z2, z3⟩ := cel4L hc2
    have HC2 := Lib.hid hc2
    have HB2 := Lib.hid (HB1.out.trans (hb2.mono HB1.out.size))
    have hpz : (p : Int) < (n1 : Int) := by omega
    have hp0 : (0 : Int) ≤ (p : Int) := by omega
    obtain ⟨w7, hw7⟩ : ∃ w7, w7 = (((w2.setCell ⟨w.heap.size, 0, none⟩ (.int .i64 x'.addr)).setCell ⟨w.heap.size, 1, none⟩ (.int .i64 x'.state)).setCell ⟨w.heap.size, 2, none⟩ (.int .i64 x'.till)).setCell ⟨w.heap.size, 3, none⟩ (.string (ba x'.key)) := ⟨_, rfl⟩
    have HC7 := Lib.hid (show Cel w7 w.heap.size 26 (lcs x') by rw [hw7]; exact celPut4 (l := x') HC2.out)
    have HB7 := Lib.hid (show Below w.heap.size w w7 by rw [hw7]; exact belowPut4 HB2.out (Nat.le_refl _) x')
    clear hc2 hb2 HA HPX HR1 HB1 HC1 HP
    go_wp2
    rw [← hw7]
    clear hw7
    (try simp only [Exit.inBlock, Exit.then])
    refine bodyPost_ret (ret_lease2 rfl _ _ w.heap.size x' rfl HC7.out) rfl ?_
    exact ⟨by rw [HG.out]; rfl, HB7.out⟩
  · rw [hh] at HP
    have HG := Lib.hid (get_hasn hf)
    clear hh hf
    go_wp2_with fail
    refine HP.out.mono ?_
    rintro e w2 ⟨rfl, hb2⟩
    have hc2 := HC1.out.below hb2 HC1.out.lt
    obtain ⟨f0, f1, f2, f3⟩ := celFr4 hc2
    obtain ⟨z0, z1, z2, z3⟩ := cel4L hc2
    have HC2 := Lib.hid hc2
    have HB2 := Lib.hid (HB1.out.trans (hb2.mono HB1.out.size))
    obtain ⟨w7, hw7⟩ : ∃ w7, w7 = (((w2.setCell ⟨w.heap.size, 0, none⟩ (.int .i64 0)).setCell ⟨w.heap.size, 1, none⟩ (.int .i64 0)).setCell ⟨w.heap.size, 2, none⟩ (.int .i64 0)).setCell ⟨w.heap.size, 3, none⟩ (.string ⟨#[]⟩) := ⟨_, rfl⟩
    have HC7 := Lib.hid (show Cel w7 w.heap.size 26 (lcs zeroL) by rw [hw7]; exact celPut4 (l := zeroL) HC2.out)
    have HB7 := Lib.hid (show Below w.heap.size w w7 by rw [hw7]; exact belowPut4 HB2.out (Nat.le_refl _) zeroL)
    clear hc2 hb2 HR1 HB1 HC1 HP
    go_wp2
    rw [← hw7]
    clear hw7
    (try simp only [Exit.inBlock, Exit.then])
    refine bodyPost_ret (ret_lease2 rfl _ _ w.heap.size zeroL rfl HC7.out) rfl ?_
    exact ⟨by rw [HG.out]; rfl, HB7.out⟩
  · exact absurd (good_right l).2.2 hbad
set_option maxHeartbeats 2000000 in
theorem refGet_any (A : Option Addr) (n c U : Nat) (l : List L) (a : Int) (w : World) (h : RdLs U w A n c l) (hU : U ≤ w.heap.size) (hk : ∀ a ∈ l, Fk a) :
    Calls Try.prog 12 #[.slice A n c, .int .i64 a] w (GtR w (getT l a)) := by
  obtain ⟨w0, hw0⟩ : ∃ w0, w0 = w.alloc (.cells #[.int .i64 0, .int .i64 0, .int .i64 0, .string ⟨#[]⟩] 26) := ⟨_, rfl⟩
  have HC0 := Lib.hid (show Cel w0 w.heap.size 26 (lcs zeroL) by rw [hw0]; exact Cel.born _ _ _)
  have HB0 := Lib.hid (show Below w.heap.size w w0 by rw [hw0]; exact (Below.refl _ _).alloc (Nat.le_refl _) _)
  have hU0 : U ≤ w0.heap.size := by have := HB0.out.size; omega
  have HV := Lib.hid (good_any A n c U l w0 (h.below (HB0.out.mono hU)) hU0 hk)
  clear h hU hk hU0
  go_enter Try.func12, Try.ntmps12
  go_wp2_with fail
  rw [← hw0]
  clear hw0
  refine HV.out.mono ?_
  rintro e w1 ⟨A1, n1, c1, rfl, hr1, hb1⟩
  have hn1 : n1 ≤ 64 := by have := good_len l; have := hr1.len; omega
  have HL1 := Lib.hid hr1.len
  have hmx := hr1.max
  have hcp := hr1.cap
  have HR1 := Lib.hid hr1
  have HB1 := Lib.hid (HB0.out.trans (hb1.mono HB0.out.size))
  have hc2 := HC0.out.below hb1 HC0.out.lt
  obtain ⟨f0, f1, f2, f3⟩ := celFr4 hc2
  obtain ⟨z0, z1, z2, z3⟩ := cel4L hc2
  have HC2 := Lib.hid hc2
  clear hr1 hb1 HV HC0 HB0 hc2
  go_wp2
  go_loopw [6] (fun v wr => ∃ k : Nat, v = .int .i64 k ∧ k ≤ n1 ∧ Hid (firstT ((goodT l).drop k) a = firstT (goodT l) a) ∧ w1 = wr) (fun v _ => n1 - (intOf v).toNat)
  case atStart => exact ⟨0, rfl, by omega, rfl, rfl⟩
  case round =>
    obtain ⟨k, rfl, hk2, HE, rfl⟩ := hrel
    by_cases hlt : k < n1
    · obtain ⟨b, o, x, rfl, hbU, HA, c0, c1, c2, c3⟩ := atL HR1.out hlt
      have hkz : (k : Int) < (n1 : Int) := by omega
      by_cases hv : x.addr = a
      · have HG := Lib.hid (get_has (seek_hit HE.out HA.out hv))
        have hvz : (x.addr == a) = true := by simpa using hv
        obtain ⟨w7, hw7⟩ : ∃ w7, w7 = (((w1.setCell ⟨w.heap.size, 0, none⟩ (.int .i64 x.addr)).setCell ⟨w.heap.size, 1, none⟩ (.int .i64 x.state)).setCell ⟨w.heap.size, 2, none⟩ (.int .i64 x.till)).setCell ⟨w.heap.size, 3, none⟩ (.string (ba x.key)) := ⟨_, rfl⟩
        have HC7 := Lib.hid (show Cel w7 w.heap.size 26 (lcs x) by rw [hw7]; exact celPut4 (l := x) HC2.out)
        have HB7 := Lib.hid (show Below w.heap.size w w7 by rw [hw7]; exact belowPut4 HB1.out (Nat.le_refl _) x)
        clear HE HA hv
        go_wp2
        rw [← hw7]
        clear hw7
        (try simp only [Exit.inBlock, Exit.then])
        refine bodyPost_ret (ret_lease2 rfl _ _ w.heap.size x rfl HC7.out) rfl ?_
        exact ⟨by rw [HG.out]; rfl, HB7.out⟩
      · have HT := Lib.hid (seek_next HE.out HA.out hv)
        have hvz : (x.addr == a) = false := by simpa using hv
        clear HE HA hv
        go_wp2
        go_roundw
        case rel => exact ⟨k + 1, by go_num, by omega, HT.out, trivial⟩
        case measure => simp [intOf]; omega
    · have HG : Hid (getT l a = (zeroL, false)) := by
        obtain rfl : k = n1 := by omega
        exact get_hasn (seek_end (by have := HE.out; rwa [← HL1.out] at this))
      have hkz : ¬ (k : Int) < (n1 : Int) := by omega
      obtain ⟨w7, hw7⟩ : ∃ w7, w7 = (((w1.setCell ⟨w.heap.size, 0, none⟩ (.int .i64 0)).setCell ⟨w.heap.size, 1, none⟩ (.int .i64 0)).setCell ⟨w.heap.size, 2, none⟩ (.int .i64 0)).setCell ⟨w.heap.size, 3, none⟩ (.string ⟨#[]⟩) := ⟨_, rfl⟩
      have HC7 := Lib.hid (show Cel w7 w.heap.size 26 (lcs zeroL) by rw [hw7]; exact celPut4 (l := zeroL) HC2.out)
      have HB7 := Lib.hid (show Below w.heap.size w w7 by rw [hw7]; exact belowPut4 HB1.out (Nat.le_refl _) zeroL)
      clear hlt HE
      go_wp2
      rw [← hw7]
      clear hw7
      (try simp only [Exit.inBlock, Exit.then])
      refine bodyPost_ret (ret_lease2 rfl _ _ w.heap.size zeroL rfl HC7.out) rfl ?_
      exact ⟨by rw [HG.out]; rfl, HB7.out⟩
end Go.Proofs.Ytniocdbapkkdhaa.Bw
