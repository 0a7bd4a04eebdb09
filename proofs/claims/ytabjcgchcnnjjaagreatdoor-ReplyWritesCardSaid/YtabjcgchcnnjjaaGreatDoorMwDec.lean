/- msg.joinField, readOptions, decode and Read: what bytes are read as, or the error. Condition: what msg's package-level variables hold (En.ok). -/
import Derived.Test.YtabjcgchcnnjjaaGreatDoorMwOpts
set_option maxRecDepth 8000
namespace Go.Proofs.YtabjcgchcnnjjaaGreatDoor.Mw
open Go.RowKit Tl Ms Co By

/-- Options or an error, as msg's own functions answer them. -/
def OptR (E : En) (w : World) (R : List O × Int) (e : Ending) (w' : World) : Prop :=
  Below w.heap.size w w' ∧ ((R.2 = 0 ∧ ∃ A n c qs, e = .returned (.tuple #[.slice A n c, .nilIface]) ∧ RdO w' A n c qs ∧ osP qs = R.1 ∧ Fr w.heap.size A n qs) ∨ (R.2 ≠ 0 ∧ ∃ er : Er, e = .returned (.tuple #[.slice none 0 0, er.v]) ∧ er.ok E ∧ er.num E = R.2))
theorem OptR.good {E : En} {w w' : World} {R : List O × Int} {A : Option Addr} {n c : Nat} {qs : List Po} (h : R = (osP qs, 0)) (hq : RdO w' A n c qs) (hb : Below w.heap.size w w') (hf : Fr w.heap.size A n qs) : OptR E w R (.returned (.tuple #[.slice A n c, .nilIface])) w' :=
  ⟨hb, .inl ⟨by rw [h], A, n, c, qs, rfl, hq, by rw [h], hf⟩⟩
theorem OptR.bad {E : En} {w w' : World} {R : List O × Int} (er : Er) (h : R.2 = er.num E) (h0 : R.2 ≠ 0) (hk : er.ok E) (hb : Below w.heap.size w w') : OptR E w R (.returned (.tuple #[.slice none 0 0, er.v])) w' :=
  ⟨hb, .inr ⟨h0, er, rfl, hk, h.symm⟩⟩

set_option maxHeartbeats 1000000 in
theorem joinField_any (E : En) (A : Option Addr) (n c : Nat) (ps : List Po) (D : Option Addr) (m dc : Nat) (a : List UInt8) (w : World) (hE : E.ok w) (h : RdO w A n c ps) (hd : Bs w D m dc a) :
    Calls Tryz.prog 86 #[.slice A n c, .slice D m dc] w (OptR E w (areaL (osP ps) a)) := by
  have HE := Lib.hid hE
  have NF : Hid ((Er.flt strOverload (.sen E.F)).num E = 2) := num_F hE
  clear hE
  obtain ⟨hg1, hg2, _⟩ := read_good a
  have HRT := Lib.hid hg1
  have HAR : Hid (areaL (osP ps) a = if (readL [] a).2 ≠ 0 then ([], (readL [] a).2) else if 0 < hasL (readL [] a).1 52 then ([], 2) else joinL (osP ps) (readL [] a).1) := rfl
  obtain ⟨R, HR⟩ : ∃ R, Hid (readL [] a = R) := ⟨_, rfl⟩
  rw [HR.out] at HAR HRT
  clear hg1 hg2
  go_enter Tryz.func86, Tryz.ntmps86
  go_wp2_with fail
  refine (Tw.read_any D m dc a _ hd).mono ?_
  rw [HR.out]
  rintro e w1 ⟨A1, n1, c1, qs, rfl, hqs, hown, hb1⟩
  obtain ⟨l1, e1⟩ := R
  simp only at hqs HAR HRT ⊢
  have HQ := Lib.hid hqs
  clear hqs
  by_cases h0 : e1 = 0
  rotate_left
  · have H : Hid (areaL (osP ps) a = ([], e1)) := by rw [HAR.out, if_pos h0]; rfl
    have hb : (e1 != 0) = true := by simpa using h0
    have H0 := Lib.hid h0
    clear h0
    go_wp2
    go_ret2
    exact OptR.bad (.bel e1) (by rw [H.out]; rfl) (by rw [H.out]; exact H0.out) trivial hb1
  subst h0
  have HA2 : Hid (areaL (osP ps) a = if 0 < hasL l1 52 then ([], 2) else joinL (osP ps) l1) := by rw [HAR.out, if_neg (by simp)]; rfl
  have hr1 := hown.rd
  have hsm : ∀ p ∈ qs, p.l.length ≤ 1000 := right_small (by rw [HQ.out]; exact HRT.out)
  have HSM := Lib.hid hsm
  clear hsm HAR
  go_wp2_with fail
  refine (overloaded_any _ _ _ qs _ hr1 HSM.out).mono ?_
  rw [HQ.out]
  rintro e w2 ⟨rfl, hb2⟩
  have hbw2 := hb1.trans (hb2.mono hb1.size)
  cases q1 : (findL l1 52).isSome
  rotate_left
  · have h52 : 0 < hasL l1 52 := by
      rcases Nat.eq_zero_or_pos (hasL l1 52) with k | k
      · have := find_has.2 k; rw [this] at q1; cases q1
      · exact k
    have H : Hid (areaL (osP ps) a = ([], 2)) := by rw [HA2.out, if_pos h52]; rfl
    have gF := (HE.out.below hbw2).gF
    clear h52
    go_wp2_with fail
    go_quiet (fail)
    go_wp2
    go_ret2
    exact OptR.bad (.flt strOverload (.sen E.F)) (by rw [H.out, NF.out]) (by rw [H.out]; decide) (.inr (.inr (.inr rfl))) (below_drewN hbw2 _)
  have H3 : Hid (areaL (osP ps) a = joinL (osP ps) l1) := by
    have := find_has.1 q1
    rw [HA2.out, if_neg (by omega)]
    rfl
  clear HA2
  go_wp2_with fail
  refine (Tw.join_any A n c ps A1 n1 c1 qs _ (h.below hbw2) (hr1.below hb2)).mono ?_
  rw [HQ.out]
  rintro e w3 ⟨A4, n4, c4, rs, rfl, hrs, hown4, hb3⟩
  have hbw3 := hbw2.trans (hb3.mono hbw2.size)
  obtain ⟨J, HJ⟩ : ∃ J, Hid (joinL (osP ps) l1 = J) := ⟨_, rfl⟩
  rw [HJ.out] at hrs H3 ⊢
  obtain ⟨l2, e2⟩ := J
  simp only at hrs H3 ⊢
  have HRS := Lib.hid hrs
  clear hrs
  by_cases h0 : e2 = 0
  · subst h0
    go_wp2
    go_ret2
    exact OptR.good (by rw [H3.out, HRS.out]) hown4.rd hbw3 ((own_fr hown4).mono hbw2.size)
  · have hb : (e2 != 0) = true := by simpa using h0
    have H0 := Lib.hid h0
    clear h0
    go_wp2
    go_ret2
    exact OptR.bad (.flt strJoined (.bel e2)) (by rw [H3.out]; rfl) (by rw [H3.out]; exact H0.out) trivial hbw3

theorem below_num {E : En} (p : ByteArray) (er : Er) : (Er.flt p er).num E = er.num E := rfl

/-- Behind the first list: the rooms that overload names. -/
theorem rooms_one (l : List O) (f n : List UInt8) : roomsL l 1 f n = if (areaL l f).2 ≠ 0 then ([], (areaL l f).2) else ((areaL l f).1, 0) := by
  unfold roomsL
  rw [if_pos (by decide)]
  simp
theorem rooms_two (l : List O) (f n : List UInt8) : roomsL l 2 f n = areaL l n := by
  unfold roomsL
  rw [if_neg (by decide)]
theorem rooms_three (l : List O) (f n : List UInt8) : roomsL l 3 f n = if (areaL l f).2 ≠ 0 then ([], (areaL l f).2) else areaL (areaL l f).1 n := by
  unfold roomsL
  rw [if_pos (by decide)]
  simp
theorem options_of {b : List UInt8} {l : List O} (h : readL [] (b.drop 240) = (l, 0)) : optionsL b = match findL l 52 with | none => (l, 0) | some d => overL l d (sub b 108 128) (sub b 44 64) := by
  unfold optionsL
  rw [h]
  simp only [ne_eq, not_true, if_false]
  rfl

set_option maxHeartbeats 2000000 in
theorem readOptions_any (E : En) (A : Option Addr) (n c : Nat) (l : List UInt8) (w : World) (hE : E.ok w) (h : Bs w A n c l) (hn : 240 ≤ n) :
    Calls Tryz.prog 54 #[.slice A n c] w (OptR E w (optionsL l)) := by
  have HE := Lib.hid hE
  have NF : Hid ((Er.flt strOptions (.flt strOverload (.sen E.F))).num E = 2) := num_F hE
  have hm := h.max
  have hcap := h.cap
  have HL := Lib.hid h.len
  obtain ⟨A1, hs1, hcut1⟩ := byP.cut_l h 240 240 rfl hn
  obtain ⟨A2, hs2, hcut2⟩ := byP.cut_lh h 108 236 108 236 rfl rfl (by omega) (by omega)
  obtain ⟨A3, hs3, hcut3⟩ := byP.cut_lh h 44 108 44 108 rfl rfl (by omega) (by omega)
  have KF : Hid (Bs w A2 128 (c - 108) (sub l 108 128)) := hs2
  have KN : Hid (Bs w A3 64 (c - 44) (sub l 44 64)) := hs3
  clear hs2 hs3 hE
  obtain ⟨hg1, _, _⟩ := read_good (l.drop 240)
  have HRT := Lib.hid hg1
  have HO : Hid (optionsL l = if (readL [] (l.drop 240)).2 ≠ 0 then ([], (readL [] (l.drop 240)).2) else match findL (readL [] (l.drop 240)).1 52 with | none => ((readL [] (l.drop 240)).1, 0) | some d => overL (readL [] (l.drop 240)).1 d (sub l 108 128) (sub l 44 64)) := rfl
  obtain ⟨R, HR⟩ : ∃ R, Hid (readL [] (l.drop 240) = R) := ⟨_, rfl⟩
  rw [HR.out] at HO HRT
  clear hg1
  go_enter Tryz.func54, Tryz.ntmps54
  go_wp2_with fail
  refine (Tw.read_any A1 (n - 240) (c - 240) (l.drop 240) _ hs1).mono ?_
  rw [HR.out]
  rintro e w1 ⟨A4, n4, c4, qs, rfl, hqs, hown, hb1⟩
  obtain ⟨l1, e1⟩ := R
  simp only at hqs HO HRT ⊢
  have HQ := Lib.hid hqs
  clear hqs
  by_cases h0 : e1 = 0
  rotate_left
  · have H : Hid (optionsL l = ([], e1)) := by rw [HO.out, if_pos h0]; rfl
    have hb : (e1 != 0) = true := by simpa using h0
    have H0 := Lib.hid h0
    clear h0
    go_wp2
    go_ret2
    exact OptR.bad (.flt strOptions (.bel e1)) (by rw [H.out]; rfl) (by rw [H.out]; exact H0.out) trivial hb1
  subst h0
  have HO2 := Lib.hid (options_of HR.out)
  have hrq : rightL (osP qs) = true := by rw [HQ.out]; exact HRT.out
  have HRQ := Lib.hid hrq
  clear hrq HO HR hcut1 hs1
  have HE1 := Lib.hid (HE.out.below hb1)
  have hsz1 := hb1.size
  cases hf : findL l1 52 with
  | none =>
    have H : Hid (optionsL l = (l1, 0)) := by rw [HO2.out, hf]; rfl
    go_wp2_with fail
    refine (take_none w.heap.size A4 n4 c4 qs _ hsz1 hown.rd (own_fr hown) HRQ.out (by rw [HQ.out]; exact hf)).mono ?_
    rw [HQ.out]
    rintro e w2 ⟨A5, n5, c5, rs, rfl, hrs, hrso, hb2, hfr5⟩
    have HRS := Lib.hid hrso
    clear hrso hf HO2
    go_wp2
    go_ret2
    exact OptR.good (by rw [H.out, HRS.out]) hrs (hb1.trans hb2) hfr5
  | some d =>
    have HO3 : Hid (optionsL l = overL l1 d (sub l 108 128) (sub l 44 64)) := by rw [HO2.out, hf]; rfl
    have HF := Lib.hid hf
    clear hf HO2
    by_cases hgood : ∃ x, d = [x] ∧ x ≠ 0 ∧ ¬ 3 < x
    rotate_left
    · have hbad : ∀ x, d = [x] → x = 0 ∨ 3 < x := fun x hx => by
        refine Classical.byContradiction fun k => hgood ⟨x, hx, fun e => k (.inl e), fun e => k (.inr e)⟩
      have H : Hid (optionsL l = ([], 2)) := by
        show optionsL l = _
        rw [HO3.out]
        by_cases hl1 : d.length = 1
        · obtain ⟨x, rfl⟩ := one_of_len hl1
          rw [over_one, if_pos (hbad x rfl)]
        · exact over_not l1 hl1 _ _
      have HBAD := Lib.hid hbad
      clear hgood hbad
      go_wp2_with fail
      refine (take_bad E w.heap.size A4 n4 c4 qs _ HE1.out hsz1 hown.rd HRQ.out d (by rw [HQ.out]; exact HF.out) HBAD.out).mono ?_
      rintro e w2 ⟨rfl, hb2⟩
      simp only [Er.v]
      go_wp2
      go_ret2
      exact OptR.bad (.flt strOptions (.flt strOverload (.sen E.F))) (by rw [H.out, NF.out]) (by rw [H.out]; decide) (.inr (.inr (.inr rfl))) (hb1.trans hb2)
    obtain ⟨x, rfl, hx0, hx3⟩ := hgood
    have HO4 : Hid (optionsL l = roomsL (withoutL l1 52) x (sub l 108 128) (sub l 44 64)) := by
      show optionsL l = _
      rw [HO3.out, over_one, if_neg (by intro k; rcases k with k | k; exact hx0 k; exact hx3 k)]
    have hx : x = 1 ∨ x = 2 ∨ x = 3 := by
      have h1 : x.toNat ≠ 0 := fun k => hx0 (UInt8.toNat_inj.1 k)
      have h2 : ¬ (3 : UInt8).toNat < x.toNat := hx3
      have e3 : (3 : UInt8).toNat = 3 := rfl
      have h4 : x.toNat = 1 ∨ x.toNat = 2 ∨ x.toNat = 3 := by omega
      rcases h4 with k | k | k
      · exact .inl (UInt8.toNat_inj.1 k)
      · exact .inr (.inl (UInt8.toNat_inj.1 k))
      · exact .inr (.inr (UInt8.toNat_inj.1 k))
    clear HO3 hx0 hx3
    rcases hx with rfl | rfl | rfl
    · have HO5 := Lib.hid (HO4.out.trans (rooms_one _ _ _))
      clear HO4
      go_wp2_with fail
      refine (take_ok w.heap.size A4 n4 c4 qs _ hsz1 hown HRQ.out 1 (by rw [HQ.out]; exact HF.out) (by decide) (by decide)).mono ?_
      rw [HQ.out, show (((1 : UInt8).toNat : Nat) : Int) = 1 from rfl]
      rintro e w2 ⟨A5, n5, c5, rs, rfl, hrs, hrso, hb2, hfr5⟩
      have HRS := Lib.hid hrso
      have hbw2 := hb1.trans hb2
      have HE2 := Lib.hid (HE.out.below hbw2)
      clear hrso
      obtain ⟨J, HJ⟩ : ∃ J, Hid (areaL (withoutL l1 52) (sub l 108 128) = J) := ⟨_, rfl⟩
      rw [HJ.out] at HO5
      go_wp2_with fail
      refine (joinField_any E A5 n5 c5 rs A2 128 (c - 108) (sub l 108 128) _ HE2.out hrs (KF.out.below hbw2)).mono ?_
      rw [HRS.out, HJ.out]
      rintro e w3 ⟨hb3, ⟨h0, A6, n6, c6, ts, rfl, hts, htso, hfr6⟩ | ⟨h0, er, rfl, hok, hnum⟩⟩
      · have H : Hid (optionsL l = (osP ts, 0)) := by rw [HO5.out, if_neg (by simpa using h0), htso]; rfl
        clear h0 htso
        go_wp2
        go_ret2
        exact OptR.good H.out hts (hbw2.trans (hb3.mono hbw2.size)) (hfr6.mono hbw2.size)
      · have H : Hid (optionsL l = ([], J.2)) := by rw [HO5.out, if_pos h0]; rfl
        have H0 := Lib.hid h0
        have HNM := Lib.hid hnum
        clear h0 hnum
        obtain ⟨u, y, hy⟩ := er.form
        rw [hy.out]
        go_wp2
        go_ret2
        rw [← hy.out]
        exact OptR.bad (.flt strFile er) (by rw [H.out]; exact HNM.out.symm) (by rw [H.out]; exact H0.out) hok (hbw2.trans (hb3.mono hbw2.size))
    · have HO5 := Lib.hid (HO4.out.trans (rooms_two _ _ _))
      clear HO4
      go_wp2_with fail
      refine (take_ok w.heap.size A4 n4 c4 qs _ hsz1 hown HRQ.out 2 (by rw [HQ.out]; exact HF.out) (by decide) (by decide)).mono ?_
      rw [HQ.out, show (((2 : UInt8).toNat : Nat) : Int) = 2 from rfl]
      rintro e w2 ⟨A5, n5, c5, rs, rfl, hrs, hrso, hb2, hfr5⟩
      have HRS := Lib.hid hrso
      have hbw2 := hb1.trans hb2
      have HE2 := Lib.hid (HE.out.below hbw2)
      clear hrso
      obtain ⟨J, HJ⟩ : ∃ J, Hid (areaL (withoutL l1 52) (sub l 44 64) = J) := ⟨_, rfl⟩
      rw [HJ.out] at HO5
      go_wp2_with fail
      refine (joinField_any E A5 n5 c5 rs A3 64 (c - 44) (sub l 44 64) _ HE2.out hrs (KN.out.below hbw2)).mono ?_
      rw [HRS.out, HJ.out]
      rintro e w3 ⟨hb3, ⟨h0, A6, n6, c6, ts, rfl, hts, htso, hfr6⟩ | ⟨h0, er, rfl, hok, hnum⟩⟩
      · have H : Hid (optionsL l = (osP ts, 0)) := by rw [HO5.out, htso, ← h0]; rfl
        clear h0 htso
        go_wp2
        go_ret2
        exact OptR.good H.out hts (hbw2.trans (hb3.mono hbw2.size)) (hfr6.mono hbw2.size)
      · have H0 := Lib.hid h0
        have HNM := Lib.hid hnum
        clear h0 hnum
        obtain ⟨u, y, hy⟩ := er.form
        rw [hy.out]
        go_wp2
        go_ret2
        rw [← hy.out]
        exact OptR.bad (.flt strName er) (by rw [HO5.out]; exact HNM.out.symm) (by rw [HO5.out]; exact H0.out) hok (hbw2.trans (hb3.mono hbw2.size))
    · have HO5 := Lib.hid (HO4.out.trans (rooms_three _ _ _))
      clear HO4
      go_wp2_with fail
      refine (take_ok w.heap.size A4 n4 c4 qs _ hsz1 hown HRQ.out 3 (by rw [HQ.out]; exact HF.out) (by decide) (by decide)).mono ?_
      rw [HQ.out, show (((3 : UInt8).toNat : Nat) : Int) = 3 from rfl]
      rintro e w2 ⟨A5, n5, c5, rs, rfl, hrs, hrso, hb2, hfr5⟩
      have HRS := Lib.hid hrso
      have hbw2 := hb1.trans hb2
      have HE2 := Lib.hid (HE.out.below hbw2)
      clear hrso
      obtain ⟨J, HJ⟩ : ∃ J, Hid (areaL (withoutL l1 52) (sub l 108 128) = J) := ⟨_, rfl⟩
      rw [HJ.out] at HO5
      go_wp2_with fail
      refine (joinField_any E A5 n5 c5 rs A2 128 (c - 108) (sub l 108 128) _ HE2.out hrs (KF.out.below hbw2)).mono ?_
      rw [HRS.out, HJ.out]
      rintro e w3 ⟨hb3, ⟨h0, A6, n6, c6, ts, rfl, hts, htso, hfr6⟩ | ⟨h0, er, rfl, hok, hnum⟩⟩
      · have HO6 : Hid (optionsL l = areaL (osP ts) (sub l 44 64)) := by rw [HO5.out, if_neg (by simpa using h0), htso]; rfl
        have hbw3 := hbw2.trans (hb3.mono hbw2.size)
        have HE3 := Lib.hid (HE.out.below hbw3)
        clear h0 htso HO5
        obtain ⟨J2, HJ2⟩ : ∃ J, Hid (areaL (osP ts) (sub l 44 64) = J) := ⟨_, rfl⟩
        rw [HJ2.out] at HO6
        go_wp2_with fail
        refine (joinField_any E A6 n6 c6 ts A3 64 (c - 44) (sub l 44 64) _ HE3.out hts (KN.out.below hbw3)).mono ?_
        rw [HJ2.out]
        rintro e w4 ⟨hb4, ⟨h0, A7, n7, c7, us, rfl, hus, huso, hfr7⟩ | ⟨h0, er, rfl, hok, hnum⟩⟩
        · have H : Hid (optionsL l = (osP us, 0)) := by rw [HO6.out, huso, ← h0]; rfl
          clear h0 huso
          go_wp2
          go_ret2
          exact OptR.good H.out hus (hbw3.trans (hb4.mono hbw3.size)) (hfr7.mono hbw3.size)
        · have H0 := Lib.hid h0
          have HNM := Lib.hid hnum
          clear h0 hnum
          obtain ⟨u, y, hy⟩ := er.form
          rw [hy.out]
          go_wp2
          go_ret2
          rw [← hy.out]
          exact OptR.bad (.flt strName er) (by rw [HO6.out]; exact HNM.out.symm) (by rw [HO6.out]; exact H0.out) hok (hbw3.trans (hb4.mono hbw3.size))
      · have H : Hid (optionsL l = ([], J.2)) := by rw [HO5.out, if_pos h0]; rfl
        have H0 := Lib.hid h0
        have HNM := Lib.hid hnum
        clear h0 hnum
        obtain ⟨u, y, hy⟩ := er.form
        rw [hy.out]
        go_wp2
        go_ret2
        rw [← hy.out]
        exact OptR.bad (.flt strFile er) (by rw [H.out]; exact HNM.out.symm) (by rw [H.out]; exact H0.out) hok (hbw2.trans (hb3.mono hbw2.size))
end Go.Proofs.YtabjcgchcnnjjaaGreatDoor.Mw
