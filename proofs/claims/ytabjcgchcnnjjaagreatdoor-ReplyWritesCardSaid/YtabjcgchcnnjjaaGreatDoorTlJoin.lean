/- What slices.Grow of nil and slices.Concat at options, and the program's Join, come to. Conditions: for Concat, 1000 options together at most. -/
import Derived.Test.YtabjcgchcnnjjaaGreatDoorTlRead
namespace Go.Proofs.YtabjcgchcnnjjaaGreatDoor.Tw
open Go.RowKit Tl By

/-- A call that answers a slice whose array is its own. -/
def RC (e : Nat) (w : World) (n : Nat) (ps : List Po) (en : Ending) (w' : World) : Prop := ∃ A c, en = .returned (.slice A n c) ∧ OwnC e w.heap.size w' A n c ps ∧ Below w.heap.size w w'
theorem grow_nil (n : Nat) (w : World) (hn : n ≤ 1000) :
    Calls Tryz.prog 130 #[.slice none 0 0, .int .i64 (n : Int)] w (RC 46 w 0 []) := by
  by_cases h0 : n = 0
  · subst h0
    go_enter Tryz.func130, Tryz.ntmps130
    go_wp2
    go_ret
    exact ⟨none, 0, rfl, OwnC.nil _ _ _, Below.refl _ _⟩
  · have hpos : 0 < n := by omega
    obtain ⟨i0, hi0, hz0, hz1, hz2⟩ := info_parts opP.hi
    have hrun := fun ty => Lib.run_append_nil_zeros (P := Tryz.prog) w 26 3 ty 46 i0 _ .i64 .i64 Tryz.underlying26 Tryz.underlying3 hi0 hz0 n hpos (by omega) (by omega) (by rw [hz2]; omega)
    have hge := grownCap_ge w n 0 46
    have hcm := grownCap_le_maxLen w n 0 46 (by unfold maxLen; omega)
    generalize grownCap w n 0 46 = G at hrun hge hcm
    generalize hcs : (Builtin.zeroCells (Value.agg #[.int .i64 0, .slice none 0 0]).cells n ++ Builtin.zeroCells (Value.agg #[.int .i64 0, .slice none 0 0]).cells (G - n)) = cs at hrun
    have hsz : cs.size = G * 2 := by
      rw [← hcs, Array.size_append, size_zeroCells, size_zeroCells]
      show n * 2 + (G - n) * 2 = G * 2
      omega
    have HR := Lib.hid hrun
    have HS := Lib.hid hsz
    have HM := Lib.hid hcm
    have hcm2 : G ≤ 9223372036854775807 := by unfold maxLen at hcm; omega
    clear hrun hsz hcm hcs hi0 hz0 hz1 hz2 h0
    go_enter Tryz.func130, Tryz.ntmps130
    go_wp2_with (at_builtin; refine Lib.wpList_append_run _ rfl (.tmp 20) (.tmp 21) _ _ rfl _ _ rfl rfl _ _ (HR.out _) ?_)
    go_ret
    exact ⟨some ⟨w.heap.size, 0, none⟩, G, rfl, (World.ownsRow_made w cs G (Nat.le_refl _) HM.out HS.out).drew, ((Below.refl _ _).alloc (Nat.le_refl _) _).drew⟩

/-- A part of a list of options. -/
structure PartO where
  A : Option Addr
  c : Nat
  ps : List Po
def PartsO (w : World) (b o : Nat) (qs : List PartO) : Prop :=
  ∀ i (h : i < qs.length), w.cell? ⟨b, o + i, none⟩ = some (.slice qs[i].A qs[i].ps.length qs[i].c) ∧ RdC w qs[i].A qs[i].ps.length qs[i].c (cellsP qs[i].ps)
theorem PartsO.below {w w' : World} {b o : Nat} {qs : List PartO} (h : PartsO w b o qs) (hb : Below w.heap.size w w') : PartsO w' b o qs := fun i hi =>
  ⟨(hb.cell (World.block_lt_of_cell? w _ (h i hi).1)).trans (h i hi).1, (h i hi).2.keep fun _ hp => hb.cell hp⟩
def totO (qs : List PartO) : Nat := (qs.map fun p => p.ps.length).sum
def catO (qs : List PartO) : List Po := qs.flatMap (·.ps)
theorem totO_next {qs : List PartO} {k : Nat} (h : k < qs.length) : totO (qs.take (k + 1)) = totO (qs.take k) + (qs[k]).ps.length := by
  unfold totO
  rw [List.take_succ_eq_append_getElem h]
  simp only [List.map_append, List.sum_append, List.map_cons, List.map_nil, List.sum_cons, List.sum_nil, Nat.add_zero]
theorem catO_next {qs : List PartO} {k : Nat} (h : k < qs.length) : catO (qs.take (k + 1)) = catO (qs.take k) ++ (qs[k]).ps := by
  unfold catO
  rw [List.take_succ_eq_append_getElem h, List.flatMap_append]
  simp only [List.flatMap_cons, List.flatMap_nil, List.append_nil]
theorem totO_le (qs : List PartO) (k : Nat) : totO (qs.take k) ≤ totO qs := by
  have h : totO (qs.take k) + totO (qs.drop k) = totO qs := by
    unfold totO
    rw [← List.sum_append, ← List.map_append, List.take_append_drop]
  omega

set_option maxHeartbeats 1000000 in
theorem concat_any (b o N c : Nat) (qs : List PartO) (w : World) (h : PartsO w b o qs) (hN : qs.length = N) (hc : c ≤ 9223372036854775807) (hNc : N ≤ c) (ht : totO qs ≤ 1000) :
    Calls Tryz.prog 129 #[.slice (some ⟨b, o, none⟩) N c] w (RC 46 w (totO qs) (catO qs)) := by
  have HN := Lib.hid hN
  clear hN
  go_enter Tryz.func129, Tryz.ntmps129
  go_wp2
  go_loop [3, 11] (fun v i => ∃ k : Nat, k ≤ N ∧ i = .int .i64 k ∧ v = .int .i64 (totO (qs.take k) : Nat)) (fun _ i => N - (intOf i).toNat)
  case atStart => exact ⟨0, by omega, rfl, rfl⟩
  case round =>
    obtain ⟨k, hk, rfl, rfl⟩ := hrel
    have hle := totO_le qs k
    by_cases hlt : k < N
    · have hkl : k < qs.length := by have := HN.out; omega
      have hcell := (h k hkl).1
      have H := Lib.hid (totO_next hkl)
      have hle2 := totO_le qs (k + 1)
      rw [totO_next hkl] at hle2
      generalize qs[k].ps.length = m at hcell H hle2
      generalize qs[k].A = A' at hcell
      generalize qs[k].c = c' at hcell
      generalize totO (qs.take k) = x at H hle hle2
      clear hkl
      go_wp2
      go_round
      case rel => exact ⟨k + 1, by omega, by go_num, by rw [H.out]; go_num⟩
      case measure => simp [intOf]; omega
    · obtain rfl : k = N := by omega
      have H := Lib.hid (show qs.take k = qs from List.take_of_length_le (by have := HN.out; omega))
      rw [H.out]
      go_wp2_with fail
      refine (grow_nil _ _ ht).mono ?_
      rintro e w1 ⟨A1, c1, rfl, hown0, hb1⟩
      go_wp2
      go_loopw [6, 27] (fun v i wr => ∃ (j : Nat) (A2 : Option Addr) (c2 : Nat), j ≤ k ∧ i = .int .i64 j ∧ v = .slice A2 (totO (qs.take j)) c2 ∧ OwnC 46 w.heap.size wr A2 (totO (qs.take j)) c2 (catO (qs.take j)) ∧ Below w.heap.size w wr) (fun _ i _ => k - (intOf i).toNat)
      case atStart => exact ⟨0, A1, c1, by omega, rfl, rfl, hown0, hb1⟩
      case round =>
        obtain ⟨j, A2, c2, hj, rfl, rfl, hown, hb⟩ := hrel
        have hle3 := totO_le qs j
        by_cases hlt2 : j < k
        · have hkl : j < qs.length := by have := HN.out; omega
          have hP := h.below hb
          have hcell := (hP j hkl).1
          have hbs := (hP j hkl).2
          have H1 := Lib.hid (totO_next hkl)
          have H2 := Lib.hid (catO_next hkl)
          have hle2 := totO_le qs (j + 1)
          rw [totO_next hkl] at hle2
          generalize qs[j] = p at hcell H1 H2 hle2 hbs
          clear hP
          clear hkl
          generalize totO (qs.take j) = x at H1 hle3 hle2 hown
          generalize catO (qs.take j) = y at H2 hown
          go_wp2_with (at_builtin; refine wpList_appO opP rfl (.tmp 31) (.tmp 32) rfl rfl hown rfl hbs (by omega) (by have := hb.size; omega) ?_; intro A3 c3 w3 hown3 hb3 _)
          go_roundw
          case rel => exact ⟨j + 1, A3, c3, by omega, by go_num, by rw [H1.out], by rw [H1.out, H2.out]; exact hown3, hb.trans hb3⟩
          case measure => simp [intOf]; omega
        · obtain rfl : j = k := by omega
          go_wp2
          go_ret
          rw [H.out] at hown
          exact ⟨A2, c2, by rw [H.out]; rfl, hown, hb⟩

theorem parts_two {w : World} {A B : Option Addr} {n m c d : Nat} {ps qs : List Po} (h : RdO w A n c ps) (g : RdO w B m d qs) (t : TypeId) : PartsO (w.alloc (Obj.cells #[Value.slice A n c, Value.slice B m d] t)) w.heap.size 0 [⟨A, c, ps⟩, ⟨B, d, qs⟩] := by
  intro i hi
  have hcell := Cel.born w t #[Value.slice A n c, Value.slice B m d]
  have e1 := h.len
  have e2 := g.len
  match i, hi with
  | 0, _ => exact ⟨by rw [hcell.cell]; simp [e1], by simp only [List.getElem_cons_zero]; rw [e1]; exact (h.alloc _).1⟩
  | 1, _ => exact ⟨by rw [hcell.cell]; simp [e2], by simp only [List.getElem_cons_succ, List.getElem_cons_zero]; rw [e2]; exact (g.alloc _).1⟩

theorem join_no (A : Option Addr) (n c : Nat) (ps : List Po) (B : Option Addr) (m d : Nat) (qs : List Po) (w : World) (h : RdO w A n c ps) (g : RdO w B m d qs) (hr : ¬ (rightL (osP ps) = true ∧ rightL (osP qs) = true)) :
    Calls Tryz.prog 122 #[.slice A n c, .slice B m d] w (ReadR w ([], 1)) := by
  by_cases h1 : rightL (osP ps) = true
  · have h2 : rightL (osP qs) = false := by
      cases e : rightL (osP qs) with
      | false => rfl
      | true => exact absurd ⟨h1, e⟩ hr
    have H1 := Lib.hid h1
    have H2 := Lib.hid h2
    clear h1 h2 hr
    go_enter Tryz.func122, Tryz.ntmps122
    go_wp2_with fail
    refine (right_any A n c ps _ h).mono ?_
    rw [H1.out]
    rintro e w1 ⟨rfl, hb1⟩
    go_wp2_with fail
    refine (right_any B m d qs _ (g.below hb1)).mono ?_
    rw [H2.out]
    rintro e w2 ⟨rfl, hb2⟩
    go_wp2
    go_ret2
    exact ReadR.err rfl (hb1.trans (hb2.mono hb1.size))
  · have h1' : rightL (osP ps) = false := by simpa using h1
    have H1 := Lib.hid h1'
    clear h1 h1' hr
    go_enter Tryz.func122, Tryz.ntmps122
    go_wp2_with fail
    refine (right_any A n c ps _ h).mono ?_
    rw [H1.out]
    rintro e w1 ⟨rfl, hb1⟩
    go_wp2
    go_ret2
    exact ReadR.err rfl hb1

/-- What Join's loop holds. -/
def StJ (wc : World) (l : List O) (N : Nat) (v i : Value) (wr : World) : Prop :=
  ∃ k A n c rs, k ≤ N ∧ i = .int .i64 (k : Nat) ∧ v = .slice A n c ∧ OwnO 46 5 wc.heap.size wr A n c rs ∧ osP rs = joinAll [] (l.take k) ∧ rightL (osP rs) = true ∧ Below wc.heap.size wc wr
set_option maxHeartbeats 4000000 in
theorem join_yes (A : Option Addr) (n c : Nat) (ps : List Po) (B : Option Addr) (m d : Nat) (qs : List Po) (w : World) (h : RdO w A n c ps) (g : RdO w B m d qs) (hr : rightL (osP ps) = true) (hq : rightL (osP qs) = true) :
    Calls Tryz.prog 122 #[.slice A n c, .slice B m d] w (ReadR w (joinL (osP ps) (osP qs))) := by
  have HL := Lib.hid h.len
  have GL := Lib.hid g.len
  have hn := right_len hr
  have hm := right_len hq
  rw [os_len, HL.out] at hn
  rw [os_len, GL.out] at hm
  have HJ : Hid (joinL (osP ps) (osP qs) = if rightL (joinAll [] (osP (ps ++ qs))) = true then (joinAll [] (osP (ps ++ qs)), 0) else ([], 3)) := by
    show joinL (osP ps) (osP qs) = _
    have hc : rightL (osP ps) = true ∧ rightL (osP qs) = true := ⟨hr, hq⟩
    rw [os_app, joinAll_app, joinAll_self hr]
    unfold joinL
    rw [if_pos hc]
  have HF : Hid (∀ o ∈ osP (ps ++ qs), 1 ≤ o.1 ∧ o.1 ≤ 254 ∧ o.2.length ≤ 600) := fun o ho => by
    rw [os_app] at ho
    rcases List.mem_append.1 ho with ho | ho
    · exact right_fit hr ho
    · exact right_fit hq ho
  have H1 := Lib.hid hr
  have H2 := Lib.hid hq
  clear hr hq
  go_enter Tryz.func122, Tryz.ntmps122
  go_wp2_with fail
  refine (right_any A n c ps _ h).mono ?_
  rw [H1.out]
  rintro e w1 ⟨rfl, hb1⟩
  go_wp2_with fail
  refine (right_any B m d qs _ (g.below hb1)).mono ?_
  rw [H2.out]
  rintro e w2 ⟨rfl, hb2⟩
  have hb02 := hb1.trans (hb2.mono hb1.size)
  have h2 := h.below hb02
  have g2 := g.below hb02
  have htot : totO [⟨A, c, ps⟩, ⟨B, d, qs⟩] = n + m := by simp [totO, HL.out, GL.out]
  have HT := Lib.hid htot
  have HCat : Hid (catO [⟨A, c, ps⟩, ⟨B, d, qs⟩] = ps ++ qs) := by show catO _ = _; simp [catO]
  have hba : Below w2.heap.size w2 (w2.alloc (Obj.cells #[Value.slice A n c, Value.slice B m d] 26)) := (Below.refl _ _).alloc (Nat.le_refl _) _
  clear htot hb1 hb2
  go_wp2_with fail
  refine (concat_any _ 0 2 2 [⟨A, c, ps⟩, ⟨B, d, qs⟩] _ (parts_two h2 g2 _) rfl (by omega) (by omega) (by rw [HT.out]; omega)).mono ?_
  rw [HT.out, HCat.out]
  rintro e wc ⟨A3, c3, rfl, hown3, hb3⟩
  have hb2c : Below w2.heap.size w2 wc := hba.trans (hb3.mono (by simp))
  have hrd : RdO wc A3 (n + m) c3 (ps ++ qs) := ⟨hown3.rdc, fun p hp => by
    rcases List.mem_append.1 hp with hp | hp
    · exact (h2.below hb2c).2 p hp
    · exact (g2.below hb2c).2 p hp⟩
  have hb0c := hb02.trans (hb2c.mono hb02.size)
  have hszc := hb0c.size
  have hcap3 := hrd.cap
  have hmax3 := hrd.max
  clear h g h2 g2 hba hb02 hb2c hb3 hown3
  go_wp2
  go_loopw [6, 23] (fun v i wr => StJ wc (osP (ps ++ qs)) (n + m) v i wr) (fun _ i _ => n + m - (intOf i).toNat)
  case atStart => exact ⟨0, none, 0, 0, [], by omega, rfl, rfl, OwnO.nil _ _ _ _, rfl, rfl, Below.refl _ _⟩
  case round =>
    obtain ⟨k, A4, n4, c4, rs, hk, rfl, rfl, hown, hrs, hrr, hbw⟩ := hrel
    have HRS := Lib.hid hrs
    have HRR := Lib.hid hrr
    clear hrs hrr
    have hsz := hbw.size
    by_cases hlt : k < n + m
    · obtain ⟨b, o, co, A', u, c', l, rfl, hcell, hcell2, hbs, _, HO, HM, hmc, hc63, hblt⟩ := hrd.atU hbw hlt
      have hfit : 1 ≤ co ∧ co ≤ 254 ∧ u ≤ 600 := by
        obtain ⟨g1, g2⟩ := HO.out
        have := HF.out _ (List.getElem_mem g1)
        rw [g2] at this
        have e := HM.out
        subst e
        exact this
      obtain ⟨hf1, hf2, hf3⟩ := hfit
      have HN : Hid (joinAll [] ((osP (ps ++ qs)).take (k + 1)) = joinedL (osP rs) co l) := by
        obtain ⟨g1, g2⟩ := HO.out
        have := joinAll_next [] (osP (ps ++ qs)) g1
        rw [g2, ← HRS.out] at this
        exact this
      have hba : Below wc.heap.size wr (wr.alloc (Obj.cells #[Value.int IntKind.i64 co, Value.slice A' u c'] 46)) := (Below.refl _ _).alloc hsz _
      have hba2 : Below wr.heap.size wr (wr.alloc (Obj.cells #[Value.int IntKind.i64 co, Value.slice A' u c'] 46)) := (Below.refl _ _).alloc (Nat.le_refl _) _
      have hown1 := hown.below hba2
      have hbs1 := hbs.below hba
      have hszA : wc.heap.size ≤ (wr.alloc (Obj.cells #[Value.int IntKind.i64 co, Value.slice A' u c'] 46)).heap.size := by simp; omega
      clear hown hbs hba2
      by_cases hj : rightL (joinedL (osP rs) co l) = true
      · have HJJ := Lib.hid hj
        clear hj
        go_wp2_with fail
        refine (add_yes wc.heap.size A4 n4 c4 rs co A' u c' l _ hszA hown1 HRR.out hbs1 HJJ.out).mono ?_
        rintro e w5 ⟨A5, n5, c5, ps5, rfl, hps5, hown5, hb5⟩
        have HPS := Lib.hid hps5
        clear hps5
        go_wp2
        go_roundw
        case rel => exact ⟨k + 1, A5, n5, c5, ps5, by omega, by go_num, rfl, hown5, by rw [HPS.out, HN.out], by rw [HPS.out]; exact HJJ.out, (hbw.trans hba).trans hb5⟩
        case measure => simp [intOf]; omega
      · have hj' : rightL (joinedL (osP rs) co l) = false := by simpa using hj
        have HJJ := Lib.hid hj'
        have HE : Hid (joinL (osP ps) (osP qs) = ([], 3)) := by
          rw [HJ.out, if_neg]
          · rfl
          · intro kk
            have := joinAll_mono_take (k + 1) kk
            rw [HN.out, HJJ.out] at this
            cases this
        clear hj hj'
        go_wp2_with fail
        refine (add_no wc.heap.size A4 n4 c4 rs co A' u c' l _ hszA hown1 HRR.out hbs1 hf1 hf2 (by omega) HJJ.out).mono ?_
        rintro e w5 ⟨rfl, hb5⟩
        go_wp2
        go_ret2
        exact ReadR.err HE.out (hb0c.trans (((hbw.trans hba).trans hb5).mono hszc))
    · obtain rfl : k = n + m := by omega
      have HE : Hid (joinL (osP ps) (osP qs) = (osP rs, 0)) := by
        have e1 : (osP (ps ++ qs)).take (n + m) = osP (ps ++ qs) := List.take_of_length_le (by rw [os_len, List.length_append, HL.out, GL.out]; exact Nat.le_refl _)
        have e2 := HRS.out
        rw [e1] at e2
        rw [HJ.out, ← e2, if_pos HRR.out]
        rfl
      go_wp2
      go_ret2
      exact ReadR.good HE.out (hown.mono hszc) (hb0c.trans (hbw.mono hszc))
theorem join_any (A : Option Addr) (n c : Nat) (ps : List Po) (B : Option Addr) (m d : Nat) (qs : List Po) (w : World) (h : RdO w A n c ps) (g : RdO w B m d qs) :
    Calls Tryz.prog 122 #[.slice A n c, .slice B m d] w (ReadR w (joinL (osP ps) (osP qs))) := by
  by_cases hr : rightL (osP ps) = true ∧ rightL (osP qs) = true
  · exact join_yes A n c ps B m d qs w h g hr.1 hr.2
  · have e : joinL (osP ps) (osP qs) = ([], 1) := by unfold joinL; rw [if_neg hr]
    rw [e]
    exact join_no A n c ps B m d qs w h g hr
end Go.Proofs.YtabjcgchcnnjjaaGreatDoor.Tw
