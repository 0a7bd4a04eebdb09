/- The walks of RelayParts, RelayBytes, RelayLinks, RelayBack and RelayAgain: each returns true, and what was in memory stays. For all inputs. -/
import Derived.Test.YtfdlhfindcngeaaRwKnows
import Derived.Test.YtfdlhfindcngeaaRwRef2
import Derived.Test.YtfdlhfindcngeaaTlSame
namespace Go.Proofs.Ytfdlhfindcngeaa.Ry
open Tl
theorem enc_many (l : List O) : 2 * l.length ≤ (encL l).length := by
  induction l with
  | nil => exact Nat.le_refl _
  | cons o l ih => rw [enc_cons, List.length_append, encO_len, List.length_cons]; omega
theorem parts_few {b : List UInt8} (h : (partsR b).2 = 0) : (partsR b).1.length ≤ 300 := by
  obtain ⟨h6, hp⟩ := partsR_good h
  obtain ⟨e, _⟩ := enc_parts b.length (Nat.le_refl _) hp
  have := enc_many (partsR b).1
  rw [e] at this
  omega
end Go.Proofs.Ytfdlhfindcngeaa.Ry
namespace Go.Proofs.Ytfdlhfindcngeaa
open Go.RowKit Tl Co By Ry Rw

theorem small_of {ps : List Po} (h : Tw.greatL (osP ps) = false) : ps.length ≤ 100 := by
  unfold Tw.greatL at h
  rw [Bool.or_eq_false_iff] at h
  have := h.2
  rw [decide_eq_false_iff_not, os_len] at this
  omega
theorem same_yes {l m : List O} (h : l = m) : Tw.sameL l m = true := decide_eq_true h

set_option maxHeartbeats 1600000 in
theorem relayParts_walk (A : Option Addr) (n c : Nat) (l : List UInt8) (w : World) (h : Bs w A n c l) :
    Calls Try.prog 3 #[.slice A n c] w (isTrue w) := by
  have hm := h.max
  have hcap := h.cap
  by_cases hg : 5000 < n
  · go_enter Try.func3, Try.ntmps3
    go_wp2_with fail
    refine (knows_yes _).mono ?_
    rintro e w1 ⟨rfl, hb1⟩
    go_wp2
    go_ret
    exact ⟨rfl, hb1⟩
  · go_enter Try.func3, Try.ntmps3
    go_wp2_with (first | fail | (at_builtin; refine wpList_app byP rfl (.tmp 12) (.tmp 13) rfl rfl (Own.lit0 5 w) rfl (h.alloc _) (by omega) (by simp) ?_; intro A' c' w2 hown2 hb2 _ _; simp only [Nat.zero_add, List.nil_append] at hown2))
    have hb02 : Below w.heap.size w w2 := ((Below.refl _ _).alloc (Nat.le_refl _) _).trans hb2
    refine (parts_any _ _ _ l _ hown2.bs).mono ?_
    rintro e w3 ⟨A3, n3, c3, ps3, rfl, hps3, hrd3, hb3⟩
    have hb03 : Below w.heap.size w w3 := hb02.trans (hb3.mono hb02.size)
    clear hown2
    go_wp2_with fail
    refine (refParts_any A n c l _ (h.below hb03)).mono ?_
    rintro e w4 ⟨A4, n4, c4, ps4, rfl, hps4, hrd4, hb4⟩
    have hb04 : Below w.heap.size w w4 := hb03.trans (hb4.mono hb03.size)
    have HQ := Lib.hid (same_yes (hps3.trans hps4.symm))
    clear hps3 hps4
    generalize (partsR l).2 = x
    go_wp2_with fail
    refine (Tw.same_any _ _ _ _ _ _ _ _ _ (hrd3.below hb4) hrd4).mono ?_
    rw [HQ.out]
    rintro e w5 ⟨rfl, hb5⟩
    have hb05 : Below w.heap.size w w5 := hb04.trans (hb5.mono hb04.size)
    go_wp2_with fail
    refine (knows_yes _).mono ?_
    rintro e w6 ⟨rfl, hb6⟩
    go_wp2
    go_ret
    exact ⟨rfl, hb05.trans (hb6.mono hb05.size)⟩

set_option maxHeartbeats 1600000 in
theorem relayBytes_walk (A : Option Addr) (n c : Nat) (ps : List Po) (w : World) (h : RdO w A n c ps) :
    Calls Try.prog 4 #[.slice A n c] w (isTrue w) := by
  by_cases hg : Tw.greatL (osP ps) = true
  · have HG := Lib.hid hg
    clear hg
    go_enter Try.func4, Try.ntmps4
    go_wp2_with fail
    refine (Tw.great_any A n c ps _ h).mono ?_
    rw [HG.out]
    rintro e w' ⟨rfl, rfl⟩
    go_wp2_with fail
    refine (knows_yes _).mono ?_
    rintro e w1 ⟨rfl, hb1⟩
    go_wp2
    go_ret
    exact ⟨rfl, hb1⟩
  have hg' : Tw.greatL (osP ps) = false := by simpa using hg
  have HG := Lib.hid hg'
  have hn : n ≤ 100000 := by have e1 := small_of hg'; have e2 := h.len; omega
  clear hg hg'
  go_enter Try.func4, Try.ntmps4
  go_wp2_with fail
  refine (Tw.great_any A n c ps _ h).mono ?_
  rw [HG.out]
  rintro e w' ⟨rfl, rfl⟩
  go_wp2_with fail
  refine (bytes_any A n c ps _ h hn).mono ?_
  rintro e w1 ⟨A1, n1, c1, rfl, hown1, hb1⟩
  have HB := Lib.hid (refBytes_any A n c ps w1 (h.below hb1) hn)
  generalize bytesR (osP ps) = R at hown1 HB
  obtain ⟨x, er⟩ := R
  have hown1' : Own 5 w.heap.size w1 A1 n1 c1 x := hown1
  clear hown1
  go_wp2_with fail
  refine HB.out.mono ?_
  rintro e w2 ⟨A2, n2, c2, rfl, hown2, hb2⟩
  have hb02 := hb1.trans (hb2.mono hb1.size)
  have hcv1 := byP.str (hown1'.bs.below hb2)
  have hcv2 : (convert 22 9 (.slice A2 n2 c2)).run Try.prog w2 = .ok (.string ⟨x.toArray⟩) w2 := byP.str hown2.bs
  clear hown1' hown2 HB
  go_wp2_with fail
  refine (knows_yes _).mono ?_
  rintro e w3 ⟨rfl, hb3⟩
  go_wp2
  go_ret
  exact ⟨rfl, hb02.trans (hb3.mono hb02.size)⟩

set_option maxHeartbeats 1600000 in
theorem relayLinks_walk (A : Option Addr) (n c : Nat) (l : List UInt8) (w : World) (h : Bs w A n c l) :
    Calls Try.prog 5 #[.slice A n c] w (isTrue w) := by
  have hm := h.max
  have hcap := h.cap
  by_cases hg : 5000 < n
  · go_enter Try.func5, Try.ntmps5
    go_wp2_with fail
    refine (knows_yes _).mono ?_
    rintro e w1 ⟨rfl, hb1⟩
    go_wp2
    go_ret
    exact ⟨rfl, hb1⟩
  · go_enter Try.func5, Try.ntmps5
    go_wp2_with fail
    refine (linkOf_any A n c l _ h).mono ?_
    rintro e w1 ⟨rfl, hb1⟩
    have HK := Lib.hid (refLink_any A n c l w1 (h.below hb1))
    generalize linkR l = r at HK
    go_wp2_with fail
    refine HK.out.mono ?_
    rintro e w2 ⟨rfl, hb2⟩
    have hb02 := hb1.trans (hb2.mono hb1.size)
    generalize r.isSome = s
    generalize r.getD 0 = v
    go_wp2_with fail
    refine (knows_yes _).mono ?_
    rintro e w3 ⟨rfl, hb3⟩
    go_wp2
    go_ret
    exact ⟨rfl, hb02.trans (hb3.mono hb02.size)⟩

set_option maxHeartbeats 1600000 in
theorem relayBack_walk (A : Option Addr) (n c : Nat) (ps : List Po) (w : World) (h : RdO w A n c ps) :
    Calls Try.prog 6 #[.slice A n c] w (isTrue w) := by
  by_cases hg : Tw.greatL (osP ps) = true
  · have HG := Lib.hid hg
    clear hg
    go_enter Try.func6, Try.ntmps6
    go_wp2_with fail
    refine (Tw.great_any A n c ps _ h).mono ?_
    rw [HG.out]
    rintro e w' ⟨rfl, rfl⟩
    go_wp2_with fail
    refine (knows_yes _).mono ?_
    rintro e w1 ⟨rfl, hb1⟩
    go_wp2
    go_ret
    exact ⟨rfl, hb1⟩
  have hg' : Tw.greatL (osP ps) = false := by simpa using hg
  have HG := Lib.hid hg'
  have hn : n ≤ 100000 := by have e1 := small_of hg'; have e2 := h.len; omega
  clear hg hg'
  by_cases he : (bytesR (osP ps)).2 = 0
  · have HP := Lib.hid (back he)
    have HE := Lib.hid he
    clear he
    go_enter Try.func6, Try.ntmps6
    go_wp2_with fail
    refine (Tw.great_any A n c ps _ h).mono ?_
    rw [HG.out]
    rintro e w' ⟨rfl, rfl⟩
    go_wp2_with fail
    refine (bytes_any A n c ps _ h hn).mono ?_
    rintro e w1 ⟨A1, n1, c1, rfl, hown1, hb1⟩
    have HC := Lib.hid (parts_any A1 n1 c1 _ w1 hown1.bs)
    rw [HP.out] at HC
    rw [HE.out]
    clear hown1
    go_wp2_with fail
    refine HC.out.mono ?_
    rintro e w2 ⟨A2, n2, c2, qs, rfl, hqs, hrd2, hb2⟩
    have hb02 := hb1.trans (hb2.mono hb1.size)
    have HQ := Lib.hid (same_yes (show osP ps = osP qs from hqs.symm))
    clear hqs HC
    go_wp2_with fail
    refine (Tw.same_any _ _ _ _ _ _ _ _ _ (h.below hb02) hrd2).mono ?_
    rw [HQ.out]
    rintro e w3 ⟨rfl, hb3⟩
    have hb03 := hb02.trans (hb3.mono hb02.size)
    go_wp2_with fail
    refine (knows_yes _).mono ?_
    rintro e w4 ⟨rfl, hb4⟩
    go_wp2
    go_ret
    exact ⟨rfl, hb03.trans (hb4.mono hb03.size)⟩
  · have HE := Lib.hid (bytesR_err he)
    obtain ⟨x, hx⟩ : ∃ x, (bytesR (osP ps)).2 = x := ⟨_, rfl⟩
    rw [hx] at he
    have HX := Lib.hid hx
    have hb : (x != 0) = true := by simpa using he
    clear he hx
    go_enter Try.func6, Try.ntmps6
    go_wp2_with fail
    refine (Tw.great_any A n c ps _ h).mono ?_
    rw [HG.out]
    rintro e w' ⟨rfl, rfl⟩
    go_wp2_with fail
    refine (bytes_any A n c ps _ h hn).mono ?_
    rintro e w1 ⟨A1, n1, c1, rfl, hown1, hb1⟩
    obtain rfl : n1 = 0 := by rw [← hown1.bs.len, HE.out]; rfl
    rw [HX.out]
    clear hown1
    go_wp2_with fail
    refine (knows_yes _).mono ?_
    rintro e w4 ⟨rfl, hb4⟩
    go_wp2
    go_ret
    exact ⟨rfl, hb1.trans (hb4.mono hb1.size)⟩

set_option maxHeartbeats 1600000 in
theorem relayAgain_walk (A : Option Addr) (n c : Nat) (l : List UInt8) (w : World) (h : Bs w A n c l) :
    Calls Try.prog 7 #[.slice A n c] w (isTrue w) := by
  have hm := h.max
  have hcap := h.cap
  by_cases hg : 5000 < n
  · go_enter Try.func7, Try.ntmps7
    go_wp2_with fail
    refine (knows_yes _).mono ?_
    rintro e w1 ⟨rfl, hb1⟩
    go_wp2
    go_ret
    exact ⟨rfl, hb1⟩
  by_cases he : (partsR l).2 = 0
  · have HP := Lib.hid (again he)
    have HF := Lib.hid (parts_few he)
    have HE := Lib.hid he
    clear he
    go_enter Try.func7, Try.ntmps7
    go_wp2_with (first | fail | (at_builtin; refine wpList_app byP rfl (.tmp 12) (.tmp 13) rfl rfl (Own.lit0 5 w) rfl (h.alloc _) (by omega) (by simp) ?_; intro A' c' w2 hown2 hb2 _ _; simp only [Nat.zero_add, List.nil_append] at hown2))
    have hb02 : Below w.heap.size w w2 := ((Below.refl _ _).alloc (Nat.le_refl _) _).trans hb2
    refine (parts_any _ _ _ l _ hown2.bs).mono ?_
    rw [show PtR w2 (partsR l) = PtR w2 ((partsR l).1, 0) by rw [← HE.out]]
    rintro e w3 ⟨A3, n3, c3, ps3, rfl, hps3, hrd3, hb3⟩
    have hb03 : Below w.heap.size w w3 := hb02.trans (hb3.mono hb02.size)
    have hps3' : osP ps3 = (partsR l).1 := hps3
    have hn3 : n3 ≤ 100000 := by have e1 := HF.out; rw [← hps3', os_len, hrd3.len] at e1; omega
    have HB := Lib.hid (bytes_any A3 n3 c3 ps3 w3 hrd3 hn3)
    rw [hps3', HP.out] at HB
    clear hown2 hps3 hps3' hrd3
    go_wp2_with fail
    refine HB.out.mono ?_
    rintro e w4 ⟨A4, n4, c4, rfl, hown4, hb4⟩
    have hb04 : Below w.heap.size w w4 := hb03.trans (hb4.mono hb03.size)
    have hcv1 : (convert 22 9 (.slice A4 n4 c4)).run Try.prog w4 = .ok (.string ⟨l.toArray⟩) w4 := byP.str hown4.bs
    have hcv2 := byP.str (h.below hb04)
    clear hown4 HB
    go_wp2_with fail
    refine (knows_yes _).mono ?_
    rintro e w6 ⟨rfl, hb6⟩
    go_wp2
    go_ret
    exact ⟨rfl, hb04.trans (hb6.mono hb04.size)⟩
  · have HE := Lib.hid (partsR_err he)
    obtain ⟨x, hx⟩ : ∃ x, (partsR l).2 = x := ⟨_, rfl⟩
    rw [hx] at he
    have HX := Lib.hid hx
    have hb : (x != 0) = true := by simpa using he
    clear he hx
    go_enter Try.func7, Try.ntmps7
    go_wp2_with (first | fail | (at_builtin; refine wpList_app byP rfl (.tmp 12) (.tmp 13) rfl rfl (Own.lit0 5 w) rfl (h.alloc _) (by omega) (by simp) ?_; intro A' c' w2 hown2 hb2 _ _; simp only [Nat.zero_add, List.nil_append] at hown2))
    have hb02 : Below w.heap.size w w2 := ((Below.refl _ _).alloc (Nat.le_refl _) _).trans hb2
    refine (parts_any _ _ _ l _ hown2.bs).mono ?_
    rintro e w3 ⟨A3, n3, c3, ps3, rfl, hps3, hrd3, hb3⟩
    have hb03 : Below w.heap.size w w3 := hb02.trans (hb3.mono hb02.size)
    obtain rfl : n3 = 0 := by rw [← hrd3.len, ← os_len, hps3, HE.out]; rfl
    rw [HX.out]
    clear hown2 hps3 hrd3
    go_wp2_with fail
    refine (knows_yes _).mono ?_
    rintro e w6 ⟨rfl, hb6⟩
    go_wp2
    go_ret
    exact ⟨rfl, hb03.trans (hb6.mono hb03.size)⟩
end Go.Proofs.Ytfdlhfindcngeaa
