/- The document's without, joined and Options (boarderref04): the options of a message's bytes, or the error. For all inputs of up to a great length. -/
import Derived.Test.YtibcpdimdjipjaaDoorMwRight
import Derived.Test.YtibcpdimdjipjaaDoorMwDec
import Derived.Test.YtibcpdimdjipjaaDoorTlRef4
set_option maxRecDepth 8000
namespace Go.Proofs.YtibcpdimdjipjaaDoor.Mw
open Go.RowKit Tl Ms Co By

/-- What without's loop holds. -/
def StWo (l : List O) (N : Nat) (w : World) (v i : Value) (wr : World) : Prop :=
  ∃ k A n c qs, k ≤ N ∧ i = .int .i64 (k : Nat) ∧ v = .slice A n c ∧ OwnC 45 w.heap.size wr A n c qs ∧ (∀ q ∈ qs, Po.bs w q) ∧ n ≤ k ∧ osP qs = withoutL (l.take k) 52 ∧ Below w.heap.size w wr
theorem without_next_keep {l : List O} {k : Nat} (h : k < l.length) {o : O} (ho : l[k] = o) (hc : o.1 ≠ 52) : withoutL (l.take (k + 1)) 52 = withoutL (l.take k) 52 ++ [o] := by
  unfold withoutL
  rw [List.take_succ_eq_append_getElem h, List.filter_append, ho]
  simp [hc]
theorem without_next_drop {l : List O} {k : Nat} (h : k < l.length) {o : O} (ho : l[k] = o) (hc : o.1 = 52) : withoutL (l.take (k + 1)) 52 = withoutL (l.take k) 52 := by
  unfold withoutL
  rw [List.take_succ_eq_append_getElem h, List.filter_append, ho]
  simp [hc]
def WoR (w : World) (l : List O) (e : Ending) (w' : World) : Prop := ∃ A' m c' qs, e = .returned (.slice A' m c') ∧ osP qs = l ∧ RdO w' A' m c' qs ∧ Below w.heap.size w w'
set_option maxHeartbeats 1000000 in
theorem without_any (A : Option Addr) (n c : Nat) (ps : List Po) (w : World) (h : RdO w A n c ps) (hn : n ≤ 1000) :
    Calls Tryd.prog 45 #[.slice A n c, .int .i64 52] w (WoR w (withoutL (osP ps) 52)) := by
  have hl := Lib.hid h.len
  have hm := h.max
  have hcap := h.cap
  go_enter Tryd.func45, Tryd.ntmps45
  go_wp2
  go_loopw [5, 6] (fun v i wr => StWo (osP ps) n w v i wr) (fun _ i _ => n - (intOf i).toNat)
  case atStart => exact ⟨0, none, 0, 0, [], by omega, rfl, rfl, OwnC.nil _ _ _, (fun q hq => by cases hq), Nat.le_refl _, rfl, Below.refl _ _⟩
  case round =>
    obtain ⟨k, A1, n1, c1, qs, hk, rfl, rfl, hown, hqb, hn1, hqs, hbw⟩ := hrel
    have HQ := Lib.hid hqs
    have HQB := Lib.hid hqb
    clear hqs hqb
    by_cases hlt : k < n
    · obtain ⟨b, o, co, A', m, c', l, rfl, hcell, hcell2, _, HP, HO, HM, _, _, hblt⟩ := h.atU hbw hlt
      by_cases he : co = 52
      · subst he
        have H : Hid (withoutL ((osP ps).take (k + 1)) 52 = withoutL ((osP ps).take k) 52) := by
          obtain ⟨h1, h2⟩ := HO.out
          exact without_next_drop h1 h2 rfl
        go_wp2
        go_roundw
        case rel => exact ⟨k + 1, A1, n1, c1, qs, by omega, by go_num, rfl, hown, HQB.out, by omega, by rw [H.out]; exact HQ.out, hbw⟩
        case measure => simp [intOf]; omega
      · have hb : (co != 52) = true := by simpa using he
        have H : Hid (withoutL ((osP ps).take (k + 1)) 52 = withoutL ((osP ps).take k) 52 ++ [(co, l)]) := by
          obtain ⟨h1, h2⟩ := HO.out
          exact without_next_keep h1 h2 he
        have hml := HM.out
        subst hml
        have hba : Below wr.heap.size wr (wr.alloc (.cells #[.int .i64 co, .slice A' l.length c'] 45)) := (Below.refl _ _).alloc (Nat.le_refl _) _
        have hlit := (OwnC.lit1 45 wr ⟨co, A', c', l⟩).rdc
        have HBS : Hid (Po.bs w ⟨co, A', c', l⟩) := h.2 _ (List.mem_of_getElem? HP.out)
        clear he
        go_wp2_with (at_builtin; refine wpList_appO Tw.opP rfl (.tmp 20) (.tmp 25) rfl rfl (hown.below hba) rfl hlit (by omega) (by have := hbw.size; simp; omega) ?_; intro A3 c3 w3 hown3 hb3 _)
        go_roundw
        case rel =>
          refine ⟨k + 1, A3, n1 + 1, c3, qs ++ [⟨co, A', c', l⟩], by omega, by go_num, rfl, hown3, fun q hq => ?_, by omega, ?_, (hbw.trans (hba.mono hbw.size)).trans hb3⟩
          · rcases List.mem_append.1 hq with hq | hq
            · exact HQB.out q hq
            · obtain rfl : q = ⟨co, A', c', l⟩ := by simpa using hq
              exact HBS.out
          · rw [H.out, os_app, HQ.out]
            rfl
        case measure => simp [intOf]; omega
    · obtain rfl : k = n := by omega
      have H : Hid ((osP ps).take k = osP ps) := List.take_of_length_le (by rw [os_len, hl.out]; exact Nat.le_refl _)
      go_wp2
      go_ret
      exact ⟨A1, n1, c1, qs, rfl, by rw [HQ.out, H.out], ⟨hown.rdc, fun p hp => (HQB.out p hp).below hbw⟩, hbw⟩

set_option maxHeartbeats 1000000 in
theorem refArea_any (A : Option Addr) (n c : Nat) (ps : List Po) (D : Option Addr) (m dc : Nat) (a : List UInt8) (w : World) (h : RdO w A n c ps) (hd : Bs w D m dc a) (hm : m ≤ 100000) :
    Calls Tryd.prog 46 #[.slice A n c, .slice D m dc] w (Tw.RefR w (areaL (osP ps) a)) := by
  have HAR : Hid (areaL (osP ps) a = if (readL [] a).2 ≠ 0 then ([], (readL [] a).2) else if 0 < hasL (readL [] a).1 52 then ([], 2) else joinL (osP ps) (readL [] a).1) := rfl
  obtain ⟨R, HR⟩ : ∃ R, Hid (readL [] a = R) := ⟨_, rfl⟩
  rw [HR.out] at HAR
  go_enter Tryd.func46, Tryd.ntmps46
  go_wp2_with fail
  refine (Tw.refRead_any D m dc a _ hd (by omega)).mono ?_
  rw [HR.out]
  rintro e w1 ⟨A1, n1, c1, qs, rfl, hqs, hr1, hb1⟩
  obtain ⟨l1, e1⟩ := R
  simp only at hqs HAR ⊢
  have HQ := Lib.hid hqs
  clear hqs
  by_cases h0 : e1 = 0
  rotate_left
  · have H : Hid (areaL (osP ps) a = ([], e1)) := by rw [HAR.out, if_pos h0]; rfl
    have hb : (e1 != 0) = true := by simpa using h0
    clear h0
    go_wp2
    go_ret2
    exact Tw.RefR.err H.out hb1
  subst h0
  have HA2 : Hid (areaL (osP ps) a = if 0 < hasL l1 52 then ([], 2) else joinL (osP ps) l1) := by rw [HAR.out, if_neg (by simp)]; rfl
  clear HAR
  go_wp2_with fail
  refine (Tw.has_any _ _ _ qs 52 _ hr1).mono ?_
  rw [HQ.out]
  rintro e w2 ⟨rfl, rfl⟩
  by_cases h52 : (0 : Int) < (hasL l1 52 : Int)
  · have H : Hid (areaL (osP ps) a = ([], 2)) := by rw [HA2.out, if_pos (by omega)]; rfl
    go_wp2
    go_ret2
    exact Tw.RefR.err H.out hb1
  have H3 : Hid (areaL (osP ps) a = joinL (osP ps) l1) := by rw [HA2.out, if_neg (by omega)]; rfl
  clear HA2
  go_wp2_with fail
  refine (Tw.refJoin_any A n c ps A1 n1 c1 qs _ (h.below hb1) hr1).mono ?_
  rw [HQ.out]
  rintro e w3 ⟨A4, n4, c4, rs, rfl, hrs, hr4, hb3⟩
  go_wp2
  go_ret2
  exact ⟨A4, n4, c4, rs, by rw [H3.out]; rfl, by rw [H3.out, hrs], hr4, hb1.trans (hb3.mono hb1.size)⟩

set_option maxHeartbeats 2000000 in
theorem refOptions_any (A : Option Addr) (n c : Nat) (l : List UInt8) (w : World) (h : Bs w A n c l) (hn : 240 ≤ n) (hn2 : n ≤ 100000) :
    Calls Tryd.prog 27 #[.slice A n c] w (Tw.RefR w (optionsL l)) := by
  have hm := h.max
  have hcap := h.cap
  obtain ⟨A1, hs1, hcut1⟩ := byP.cut_l h 240 240 rfl hn
  obtain ⟨A2, hs2, hcut2⟩ := byP.cut_lh h 108 236 108 236 rfl rfl (by omega) (by omega)
  obtain ⟨A3, hs3, hcut3⟩ := byP.cut_lh h 44 108 44 108 rfl rfl (by omega) (by omega)
  have KF : Hid (Bs w A2 128 (c - 108) (sub l 108 128)) := hs2
  have KN : Hid (Bs w A3 64 (c - 44) (sub l 44 64)) := hs3
  clear hs2 hs3
  obtain ⟨hg1, _, _⟩ := read_good (l.drop 240)
  have HRT := Lib.hid hg1
  have HO : Hid (optionsL l = if (readL [] (l.drop 240)).2 ≠ 0 then ([], (readL [] (l.drop 240)).2) else match findL (readL [] (l.drop 240)).1 52 with | none => ((readL [] (l.drop 240)).1, 0) | some d => overL (readL [] (l.drop 240)).1 d (sub l 108 128) (sub l 44 64)) := rfl
  obtain ⟨R, HR⟩ : ∃ R, Hid (readL [] (l.drop 240) = R) := ⟨_, rfl⟩
  rw [HR.out] at HO HRT
  clear hg1
  go_enter Tryd.func27, Tryd.ntmps27
  go_wp2_with fail
  refine (Tw.refRead_any A1 (n - 240) (c - 240) (l.drop 240) _ hs1 (by omega)).mono ?_
  rw [HR.out]
  rintro e w1 ⟨A4, n4, c4, qs, rfl, hqs, hr4, hb1⟩
  obtain ⟨l1, e1⟩ := R
  simp only at hqs HO HRT ⊢
  have HQ := Lib.hid hqs
  clear hqs
  by_cases h0 : e1 = 0
  rotate_left
  · have H : Hid (optionsL l = ([], e1)) := by rw [HO.out, if_pos h0]; rfl
    have hb : (e1 != 0) = true := by simpa using h0
    clear h0
    go_wp2
    go_ret2
    exact Tw.RefR.err H.out hb1
  subst h0
  have HO2 := Lib.hid (options_of HR.out)
  have hn4 : n4 ≤ 1000 := by
    have := right_len HRT.out
    rw [← HQ.out, os_len, hr4.len] at this
    omega
  clear HO HR hcut1 hs1
  go_wp2_with fail
  refine (Tw.refFind_any _ _ _ qs 52 _ hr4).mono ?_
  rw [HQ.out]
  rintro e w2 ⟨A5, m5, c5, rfl, hbd, rfl⟩
  cases hf : findL l1 52 with
  | none =>
    have H : Hid (optionsL l = (l1, 0)) := by rw [HO2.out, hf]; rfl
    rw [hf] at hbd
    clear hf HO2
    simp only [Option.isSome_none]
    go_wp2
    go_ret2
    exact Tw.RefR.good (by rw [H.out, HQ.out]) hr4 hb1
  | some d =>
    have HO3 : Hid (optionsL l = overL l1 d (sub l 108 128) (sub l 44 64)) := by rw [HO2.out, hf]; rfl
    rw [hf] at hbd
    clear hf HO2
    simp only [Option.isSome_some, Option.getD_some] at hbd ⊢
    have hld := hbd.len
    have hmd := hbd.max
    have hcd := hbd.cap
    by_cases h1 : m5 = 1
    rotate_left
    · have H : Hid (optionsL l = ([], 2)) := by show optionsL l = _; rw [HO3.out]; exact over_not l1 (by rw [hld]; exact h1) _ _
      have h1i : ¬ (m5 : Int) = 1 := by omega
      go_wp2
      go_ret2
      exact Tw.RefR.err H.out hb1
    subst h1
    obtain ⟨x, rfl⟩ := one_of_len hld
    obtain ⟨b, o, rfl, hc⟩ := hbd.at_ (k := 0) (by omega)
    have hc0 : w1.cell? ⟨b, o, none⟩ = some (.int .u8 (x.toNat : Int)) := hc 0 (by simp)
    have hlt := x.toNat_lt
    have hblt : b < w1.heap.size := World.block_lt_of_cell? w1 _ hc0
    clear hc hbd
    by_cases hx0 : x = 0
    · subst hx0
      have H : Hid (optionsL l = ([], 2)) := by show optionsL l = _; rw [HO3.out, over_one, if_pos (.inl rfl)]
      have hc00 : w1.cell? ⟨b, o, none⟩ = some (.int .u8 0) := hc0
      clear hc0
      go_wp2
      go_ret2
      exact Tw.RefR.err H.out hb1
    have h0i : ((x.toNat : Int) == 0) = false := by
      have : x.toNat ≠ 0 := fun k => hx0 (UInt8.toNat_inj.1 k)
      simp
      omega
    by_cases hx3 : 3 < x
    · have H : Hid (optionsL l = ([], 2)) := by show optionsL l = _; rw [HO3.out, over_one, if_pos (.inr hx3)]
      have h3i : (3 : Int) < (x.toNat : Int) := by have : (3 : UInt8).toNat < x.toNat := hx3; have e : (3 : UInt8).toNat = 3 := rfl; omega
      generalize x.toNat = X at *
      clear hx0 hx3
      go_wp2
      go_ret2
      exact Tw.RefR.err H.out hb1
    have HO4 : Hid (optionsL l = roomsL (withoutL l1 52) x (sub l 108 128) (sub l 44 64)) := by
      show optionsL l = _
      rw [HO3.out, over_one, if_neg (by intro k; rcases k with k | k; exact hx0 k; exact hx3 k)]
    have hx : x = 1 ∨ x = 2 ∨ x = 3 := by
      have h1 : x.toNat ≠ 0 := fun k => hx0 (UInt8.toNat_inj.1 k)
      have h2 : ¬ (3 : UInt8).toNat < x.toNat := hx3
      have e3 : (3 : UInt8).toNat = 3 := rfl
      have h4 : x.toNat = 1 ∨ x.toNat = 2 ∨ x.toNat = 3 := by omega
      rcases h4 with k | k | k
      · exact .inl (UInt8.toNat_inj.1 k)
      · exact .inr (.inl (UInt8.toNat_inj.1 k))
      · exact .inr (.inr (UInt8.toNat_inj.1 k))
    clear HO3 hx0 hx3 h0i hlt
    rcases hx with rfl | rfl | rfl
    · have HO5 := Lib.hid (HO4.out.trans (rooms_one _ _ _))
      clear HO4
      have hc1 : w1.cell? ⟨b, o, none⟩ = some (.int .u8 1) := hc0
      clear hc0
      go_wp2_with fail
      refine (without_any A4 n4 c4 qs _ hr4 hn4).mono ?_
      rw [HQ.out]
      rintro e w3 ⟨A6, n6, c6, rs, rfl, hrso, hrs, hb3⟩
      have hbw3 := hb1.trans (hb3.mono hb1.size)
      have hc3 : w3.cell? ⟨b, o, none⟩ = some (.int .u8 1) := (hb3.cell (p := ⟨b, o, none⟩) hblt).trans hc1
      have HRS := Lib.hid hrso
      clear hc1 hrso
      obtain ⟨J, HJ⟩ : ∃ J, Hid (areaL (withoutL l1 52) (sub l 108 128) = J) := ⟨_, rfl⟩
      rw [HJ.out] at HO5
      go_wp2_with fail
      refine (refArea_any A6 n6 c6 rs A2 128 (c - 108) (sub l 108 128) _ hrs (KF.out.below hbw3) (by omega)).mono ?_
      rw [HRS.out, HJ.out]
      rintro e w4 ⟨A7, n7, c7, ts, rfl, htso, hts, hb4⟩
      have hc4 : w4.cell? ⟨b, o, none⟩ = some (.int .u8 1) := (hb4.cell (p := ⟨b, o, none⟩) (World.block_lt_of_cell? w3 _ hc3)).trans hc3
      have hbw4 := hbw3.trans (hb4.mono hbw3.size)
      obtain ⟨l2, e2⟩ := J
      simp only at HO5 htso ⊢
      by_cases h0 : e2 = 0
      · subst h0
        have H : Hid (optionsL l = (osP ts, 0)) := by rw [HO5.out, if_neg (by simp), htso]; rfl
        clear htso
        go_wp2
        go_ret2
        exact Tw.RefR.good H.out hts hbw4
      · have H : Hid (optionsL l = ([], e2)) := by rw [HO5.out, if_pos h0]; rfl
        have hb : (e2 != 0) = true := by simpa using h0
        clear h0 htso
        go_wp2
        go_ret2
        exact Tw.RefR.err H.out hbw4
    · have HO5 := Lib.hid (HO4.out.trans (rooms_two _ _ _))
      clear HO4
      have hc1 : w1.cell? ⟨b, o, none⟩ = some (.int .u8 2) := hc0
      clear hc0
      go_wp2_with fail
      refine (without_any A4 n4 c4 qs _ hr4 hn4).mono ?_
      rw [HQ.out]
      rintro e w3 ⟨A6, n6, c6, rs, rfl, hrso, hrs, hb3⟩
      have hbw3 := hb1.trans (hb3.mono hb1.size)
      have hc3 : w3.cell? ⟨b, o, none⟩ = some (.int .u8 2) := (hb3.cell (p := ⟨b, o, none⟩) hblt).trans hc1
      have HRS := Lib.hid hrso
      clear hc1 hrso
      go_wp2_with fail
      refine (refArea_any A6 n6 c6 rs A3 64 (c - 44) (sub l 44 64) _ hrs (KN.out.below hbw3) (by omega)).mono ?_
      rw [HRS.out]
      rintro e w4 ⟨A7, n7, c7, ts, rfl, htso, hts, hb4⟩
      have HTS := Lib.hid htso
      clear htso
      go_wp2
      go_ret2
      exact ⟨A7, n7, c7, ts, by rw [HO5.out]; rfl, by rw [HO5.out]; exact HTS.out, hts, hbw3.trans (hb4.mono hbw3.size)⟩
    · have HO5 := Lib.hid (HO4.out.trans (rooms_three _ _ _))
      clear HO4
      have hc1 : w1.cell? ⟨b, o, none⟩ = some (.int .u8 3) := hc0
      clear hc0
      go_wp2_with fail
      refine (without_any A4 n4 c4 qs _ hr4 hn4).mono ?_
      rw [HQ.out]
      rintro e w3 ⟨A6, n6, c6, rs, rfl, hrso, hrs, hb3⟩
      have hbw3 := hb1.trans (hb3.mono hb1.size)
      have hc3 : w3.cell? ⟨b, o, none⟩ = some (.int .u8 3) := (hb3.cell (p := ⟨b, o, none⟩) hblt).trans hc1
      have HRS := Lib.hid hrso
      clear hc1 hrso
      obtain ⟨J, HJ⟩ : ∃ J, Hid (areaL (withoutL l1 52) (sub l 108 128) = J) := ⟨_, rfl⟩
      rw [HJ.out] at HO5
      go_wp2_with fail
      refine (refArea_any A6 n6 c6 rs A2 128 (c - 108) (sub l 108 128) _ hrs (KF.out.below hbw3) (by omega)).mono ?_
      rw [HRS.out, HJ.out]
      rintro e w4 ⟨A7, n7, c7, ts, rfl, htso, hts, hb4⟩
      have hc4 : w4.cell? ⟨b, o, none⟩ = some (.int .u8 3) := (hb4.cell (p := ⟨b, o, none⟩) (World.block_lt_of_cell? w3 _ hc3)).trans hc3
      have hbw4 := hbw3.trans (hb4.mono hbw3.size)
      obtain ⟨l2, e2⟩ := J
      simp only at HO5 htso ⊢
      by_cases h0 : e2 = 0
      rotate_left
      · have H : Hid (optionsL l = ([], e2)) := by rw [HO5.out, if_pos h0]; rfl
        have hb : (e2 != 0) = true := by simpa using h0
        clear h0 htso
        go_wp2
        go_ret2
        exact Tw.RefR.err H.out hbw4
      subst h0
      have HO6 : Hid (optionsL l = areaL (osP ts) (sub l 44 64)) := by rw [HO5.out, if_neg (by simp), htso]; rfl
      clear htso
      go_wp2_with fail
      refine (refArea_any A7 n7 c7 ts A3 64 (c - 44) (sub l 44 64) _ hts (KN.out.below hbw4) (by omega)).mono ?_
      rintro e w5 ⟨A8, n8, c8, us, rfl, huso, hus, hb5⟩
      have HUS := Lib.hid huso
      clear huso
      go_wp2
      go_ret2
      exact ⟨A8, n8, c8, us, by rw [HO6.out]; rfl, by rw [HO6.out]; exact HUS.out, hus, hbw4.trans (hb5.mono hbw4.size)⟩
end Go.Proofs.YtibcpdimdjipjaaDoor.Mw
