/- The walk of CodeRows: it returns true, and what was in memory stays. For all inputs. -/
import Derived.Test.YtikgigijngobeaaCoLaws
import Derived.Test.YtikgigijngobeaaCoRowsMath
import Derived.Test.YtikgigijngobeaaElKit
import Derived.Test.YtikgigijngobeaaRowBs
import Derived.Deep.QuietTactic
import Derived.BigQuiet
namespace Go.Proofs.Ytikgigijngobeaa
open Go.RowKit Co By

theorem elP : ElP Try.prog 43 22 (.slice none 0 0) 24 := ⟨Try.underlying43, by kernel_rfl, rfl⟩
def Part.v (p : Part) : Value := .slice p.A p.l.length p.c
/-- What the first loop holds behind k rounds. -/
def St1 (w : World) (ps : List Part) (k : Nat) (v7 v8 v9 : Value) (wr : World) : Prop :=
  ∃ qs N M L A7 c7 A8 c8, keptP (ps.take k) = qs ∧ (allL qs).length = N ∧ qs.length = M ∧ lastN qs = L ∧ v7 = .slice A7 N c7 ∧ v8 = .slice A8 M c8 ∧ v9 = .int .i64 (L : Nat) ∧ Own 5 w.heap.size wr A7 N c7 (allL qs) ∧
    OwnV 22 w.heap.size wr A8 M c8 (qs.map Part.v) ∧ Below w.heap.size w wr

theorem lastN_pos {qs : List Part} (h : qs ≠ []) : 0 < lastN qs := by
  obtain ⟨r, p, rfl⟩ : ∃ r p, qs = r ++ [p] := ⟨qs.dropLast, qs.getLast h, (List.dropLast_concat_getLast h).symm⟩
  rw [lastN_snoc]
  omega
theorem bs_part {w : World} {A : Option Addr} {n c : Nat} {ps : List Part} (h : BsRows w A n c ps) {p : Part} {m : Nat} (hp : p ∈ ps) (hm : p.l.length = m) : Bs w p.A m p.c p.l := by
  obtain ⟨i, hi, rfl⟩ := List.mem_iff_getElem.1 hp
  obtain ⟨b, o, _, hP⟩ := h.2.2.2 (by have := h.1; omega)
  have := (hP i hi).2
  rwa [hm] at this
/-- What the second loop holds behind j rounds. -/
def St2 (wr : World) (qs : List Part) (lr : List UInt8) (M : Nat) (v i : Value) (wr2 : World) : Prop :=
  ∃ (j R : Nat) (A : Option Addr) (c : Nat), j ≤ M ∧ i = .int .i64 j ∧ (allL (qs.drop j) ++ lr).length = R ∧ v = .slice A R c ∧ Bs wr2 A R c (allL (qs.drop j) ++ lr) ∧ Below wr.heap.size wr wr2

set_option maxRecDepth 100000 in
set_option maxHeartbeats 4000000 in
theorem codeRows_walk (A : Option Addr) (n c : Nat) (ps : List Part) (Ar : Option Addr) (nr cr : Nat) (lr : List UInt8) (cut : Int) (w : World) (h : BsRows w A n c ps) (hr : Bs w Ar nr cr lr) (_ : (Lit.int .i64 cut).wf = true) :
    Calls Try.prog 8 #[.slice A n c, .slice Ar nr cr, .int .i64 cut] w (isTrue w) := by
  have hmr := hr.max
  have hcapr := hr.cap
  have hn63 : n ≤ 9223372036854775807 := by
    have h1 := h.2.1
    have h2 := h.2.2.1
    unfold maxLen at h2
    omega
  by_cases hg : 5000 < nr
  · have hgd : decide (5000 < nr) = true := decide_eq_true hg
    go_enter Try.func8, Try.ntmps8
    go_wp2_with fail
    refine (great_any Ar nr cr _ (by omega)).mono ?_
    rw [hgd]
    rintro e w' ⟨rfl, rfl⟩
    go_wp2_with fail
    refine (knows_yes _).mono ?_
    rintro e w1 ⟨rfl, hb1⟩
    go_wp2
    go_ret
    exact ⟨rfl, hb1⟩
  have hgd : decide (5000 < nr) = false := decide_eq_false hg
  have HN := Lib.hid h.1
  have HP := Lib.hid h.2.2.2
  go_enter Try.func8, Try.ntmps8
  go_wp2_with fail
  refine (great_any Ar nr cr _ (by omega)).mono ?_
  rw [hgd]
  rintro e w' ⟨rfl, rfl⟩
  go_wp2
  go_loopw [7, 8, 9, 10] (fun v7 v8 v9 i wr => ∃ k : Nat, k ≤ n ∧ k ≤ 10 ∧ i = .int .i64 k ∧ St1 w ps k v7 v8 v9 wr) (fun _ _ _ i _ => 10 - (intOf i).toNat)
  case atStart => exact ⟨0, by omega, by omega, rfl, [], 0, 0, 0, none, 0, none, 0, rfl, rfl, rfl, rfl, rfl, rfl, rfl, Own.nil _ _ _, OwnV.nil _ _ _, Below.refl _ _⟩
  case round =>
    obtain ⟨k, hkn, hk10, rfl, qs, N, M, L, A7, c7, A8, c8, e1, e2, e3, e4, rfl, rfl, rfl, hown7, hown8, hb⟩ := hrel
    have hql : M ≤ k := by have := kept_len ps k; rw [e1, e3] at this; exact this
    have HQ : Hid (∀ p ∈ qs, p.l.length ≤ 2000) := fun p hp => kept_small (ps := ps.take k) (by rw [e1]; exact hp)
    have hal : N ≤ 2006 * M := by have := allL_len qs HQ.out; rw [e2, e3] at this; exact this
    have HM : Hid (∀ p ∈ qs, p ∈ ps) := fun p hp => kept_mem (k := k) (by rw [e1]; exact hp)
    have E1 := Lib.hid e1
    have E2 := Lib.hid e2
    have E3 := Lib.hid e3
    have E4 := Lib.hid e4
    clear e1 e2 e3 e4
    by_cases hlt : k < n ∧ k < 10
    · obtain ⟨hlt, hlt2⟩ := hlt
      obtain ⟨b, o, rfl, hP⟩ := HP.out (by omega)
      have hkl : k < ps.length := by have := HN.out; omega
      obtain ⟨p, hp⟩ : ∃ p, ps[k] = p := ⟨_, rfl⟩
      obtain ⟨m, hpm⟩ : ∃ m, p.l.length = m := ⟨_, rfl⟩
      have HC : Hid (∀ W, Below w.heap.size w W → W.cell? ⟨b, o + k, none⟩ = some (.slice p.A m p.c) ∧ Bs W p.A m p.c p.l) := fun W hW => by
        have := (hP.below hW) k hkl
        rw [hp, hpm] at this
        exact this
      have HPM := Lib.hid hpm
      obtain ⟨hcell, hbs⟩ := HC.out wr hb
      by_cases hm : 2000 < m
      · have HK : Hid (keptP (ps.take (k + 1)) = qs) := by
          have := kept_no hkl (by rw [hp, hpm]; exact hm)
          rw [E1.out] at this
          exact this
        clear hp hpm hkl hbs
        go_wp2
        go_roundw
        case rel => exact ⟨k + 1, by omega, by omega, by go_num, qs, N, M, L, A7, c7, A8, c8, HK.out, E2.out, E3.out, E4.out, rfl, rfl, rfl, hown7, hown8, hb⟩
        case measure => simp [intOf]; omega
      · have HK : Hid (keptP (ps.take (k + 1)) = qs ++ [p]) := by
          have := kept_yes hkl (by rw [hp, hpm]; omega)
          rw [E1.out, hp] at this
          exact this
        clear hp hpm hkl
        go_wp2_with fail
        refine (frame_ok _ _ _ _ _ hbs (by omega)).mono ?_
        rintro e w1 ⟨A11, c11, rfl, hown11, hb11⟩
        have hb1 : Below w.heap.size w w1 := hb.trans (hb11.mono hb.size)
        have ho7 := hown7.below hb11
        have ho8 := hown8.below hb11
        have hbs11 := hown11.bs
        clear hown7 hown8 hown11 hbs hcell
        have hsz := hb1.size
        go_wp2_with (first
          | (at_builtin; refine wpList_app byP rfl (.tmp 56) (.tmp 57) rfl rfl ho7 rfl hbs11 (by omega) hsz ?_; intro A7' c7' w2 hown7' hb2 hg2 _; have ho8' := ho8.grown (by decide) ho7 hg2; have hb02 := hb1.trans hb2; have hcell2 := (HC.out w2 hb02).1)
          | (at_builtin; refine wpList_appV elP rfl (.tmp 59) (.tmp 64) rfl rfl (ho8'.below ((Below.refl _ _).alloc (Nat.le_refl _) _)) rfl (OwnV.lit1 22 w2 _).rd (by intro u hu; simp at hu; subst hu; rfl) (by unfold maxLen; omega) (by omega) (by have := hb02.size; simp; omega) ?_; intro A8' c8' w3 hown8' hb3 hg3 _))
        have hba : Below w2.heap.size w2 (w2.alloc (Obj.cells #[Value.slice p.A m p.c] 22)) := (Below.refl _ _).alloc (Nat.le_refl _) _
        have ho7' : Own 5 w.heap.size w3 A7' (N + (m + 6)) c7' (allL (qs ++ [p])) := by
          rw [allL_snoc]
          exact (hown7'.below hba).grown (by decide) (ho8'.below hba) hg3
        have ho8'' : OwnV 22 w.heap.size w3 A8' (M + 1) c8' ((qs ++ [p]).map Part.v) := by
          rw [List.map_append]
          simpa [Part.v, HPM.out] using hown8'
        have hb03 : Below w.heap.size w w3 := (hb02.alloc hb02.size _).trans hb3
        clear hown7' hown8' hb2 hb3 hg2 hg3 ho7 ho8 ho8' hbs11
        go_roundw
        case rel =>
          exact ⟨k + 1, by omega, by omega, by go_num, qs ++ [p], N + (m + 6), M + 1, m + 6, A7', c7', A8', c8', HK.out, by rw [allL_snoc, List.length_append, frameL_length, E2.out, HPM.out],
            by rw [List.length_append, E3.out]; rfl, by rw [lastN_snoc, HPM.out], rfl, rfl, by go_num, ho7', ho8'', hb03⟩
        case measure => simp [intOf]; omega
    · obtain ⟨wo, hwo⟩ : ∃ wo, wo = wr := ⟨_, rfl⟩
      subst hwo
      have hend : n ≤ k ∨ (k < n ∧ 10 ≤ k) := by omega
      have hl0 := Own.lit0 5 wo
      have hbw : Below wo.heap.size wo (wo.alloc (.cells #[] 5)) := (Below.refl _ _).alloc (Nat.le_refl _) _
      have hle := hbw.size
      have hsr := hr.below hb
      have hbs7 := hown7.bs
      have HLR := Lib.hid hr.len
      rcases hend with hend | ⟨hend, hend2⟩
      all_goals
        go_wp2_with (first
          | (at_builtin; refine wpList_app byP rfl (.tmp 68) (.tmp 69) rfl rfl hl0 rfl (hbs7.below hbw) (by omega) hle ?_; intro A12 c12 w4 hown12 hb4 _ _; simp only [Nat.zero_add, List.nil_append] at hown12; have hbA := hbw.trans hb4)
          | (at_builtin; refine wpList_app byP rfl (.tmp 70) (.tmp 71) rfl rfl hown12 rfl (hsr.below hbA) (by omega) hbA.size ?_; intro A13 c13 w5 hown13 hb5 _ _; have hbB := hbA.trans hb5))
        have hbs13 := hown13.bs
        clear hown13 hown12 hb4 hb5 hbA hl0
        go_loopw [13, 14] (fun v i wr2 => St2 wo qs lr M v i wr2) (fun _ i _ => M - (intOf i).toNat)
        case atStart => exact ⟨0, N + nr, A13, c13, by omega, rfl, by rw [List.drop_zero, List.length_append, E2.out, HLR.out], rfl, by rw [List.drop_zero]; exact hbs13, hbB⟩
        case round =>
          clear hbs13 hbB
          obtain ⟨j, R, A14, c14, hjM, rfl, eR, rfl, hbs, hb2⟩ := hrel
          have ER := Lib.hid eR
          clear eR
          by_cases hlj : j < M
          · have hjl : j < qs.length := by have := E3.out; omega
            obtain ⟨p, hp⟩ : ∃ p, qs[j] = p := ⟨_, rfl⟩
            obtain ⟨m, hpm⟩ : ∃ m, p.l.length = m := ⟨_, rfl⟩
            have hpq : p ∈ qs := by rw [← hp]; exact List.getElem_mem _
            have hm2 : m ≤ 2000 := by rw [← hpm]; exact HQ.out p hpq
            obtain ⟨HE, HH, HV⟩ : Hid (openE (allL (qs.drop j) ++ lr) = 0) ∧ Hid (heldL (allL (qs.drop j) ++ lr) = p.l) ∧ Hid (valL ((allL (qs.drop j) ++ lr).take 2) = m) := by
              have := rest_open hjl (by rw [hp, hpm]; exact hm2) lr
              rw [hp, hpm] at this
              exact this
            have HD : Hid ((allL (qs.drop j) ++ lr).drop (6 + m) = allL (qs.drop (j + 1)) ++ lr) := by
              have := rest_next hjl lr
              rw [hp, hpm, Nat.add_comm] at this
              exact this
            have hRm : 6 + m ≤ R := by
              have h1 := ER.out
              rw [drop_frame hjl, hp, List.length_append, frameL_length, hpm] at h1
              omega
            have hRc := hbs.cap
            have hRx := hbs.max
            have HBp : Hid (Bs w p.A m p.c p.l) := bs_part h (HM.out p hpq) hpm
            obtain ⟨b8, o8, rfl, hc8⟩ := (hown8.rd).at_ hlj
            have HC8 : Hid (∀ W, Below wo.heap.size wo W → W.cell? ⟨b8, o8 + j, none⟩ = some (.slice p.A m p.c)) := fun W hW => by
              have h1 := ((hown8.below hW).rd).at_ hlj
              obtain ⟨b9, o9, e9, hc9⟩ := h1
              cases e9
              rw [hc9 j (by rw [List.length_map]; exact hjl)]
              simp [Part.v, hp, hpm]
            clear hp hpm hpq hjl hc8
            go_wp2_with fail
            refine (open_yes _ _ _ m _ _ hbs HV.out HE.out).mono ?_
            rw [HH.out]
            rintro e w6 ⟨A15, c15, rfl, hown15, hb6⟩
            have hb26 : Below wo.heap.size wo w6 := hb2.trans (hb6.mono hb2.size)
            have hcell8 := HC8.out w6 hb26
            have hbsp : Bs w6 p.A m p.c p.l := (HBp.out.below hb).below hb26
            have hcv1 : ∀ q, (convert 22 9 (.slice A15 m c15)).run Try.prog (w6.drewN q) = .ok (.string ⟨p.l.toArray⟩) (w6.drewN q) := fun q => byP.str (w := w6.drewN q) hown15.bs
            have hcv2 : ∀ q, (convert 22 9 (.slice p.A m p.c)).run Try.prog (w6.drewN q) = .ok (.string ⟨p.l.toArray⟩) (w6.drewN q) := fun q => byP.str (w := w6.drewN q) hbsp
            obtain ⟨A16, hA16, hrun16⟩ := byP.cut_l (hbs.below hb6) (6 + m) (6 + (m : Int)) (by omega) hRm
            have hi1 : (0 : Int) ≤ (j : Int) := by omega
            have hi2 : (j : Int) < (M : Int) := by omega
            have hw1 : IntKind.i64.wrap ((m : Int) + 6) = (m : Int) + 6 := IntWalk.i64_in _ (by omega)
            have hne : ((6 + (m : Int)) != (m : Int) + 6) = false := by simp; omega
            have hgt : decide ((R : Int) < 6 + (m : Int)) = false := decide_eq_false (by omega)
            clear hown15 hbsp
            go_wp2_with fail
            go_quiet (fail)
            clear hcv1 hcv2
            go_wp2
            go_roundw
            case rel =>
              exact ⟨j + 1, R - (6 + m), A16, c14 - (6 + m), by omega, by go_num, by rw [← HD.out, List.length_drop, ER.out], rfl, by rw [← HD.out]; exact hA16, ⟨hb26.os, hb26.tape, hb26.output, hb26.size, hb26.block⟩⟩
            case measure => simp [intOf]; omega
          · have HL : Hid (allL (qs.drop j) ++ lr = lr) := by
              rw [List.drop_eq_nil_of_le (by have := E3.out; omega)]
              rfl
            have hbsl : Bs wr A14 R c14 lr := by
              have := hbs
              rw [HL.out] at this
              exact this
            have hcv1 := byP.str hbsl
            have hcv2 := byP.str (hsr.below hb2)
            have hb0 : Below w.heap.size w wr := hb.trans (hb2.mono hb.size)
            by_cases hM : M = 0
            · have hM0 : ((M : Int) == 0) = true := by simp; omega
              go_wp2_with fail
              refine (knows_yes _).mono ?_
              rintro e wz ⟨rfl, hbz⟩
              go_wp2
              go_ret
              exact ⟨rfl, hb0.trans (hbz.mono hb0.size)⟩
            · have hM0 : ((M : Int) == 0) = false := by simp; omega
              have hq0 : qs ≠ [] := fun e => hM (by rw [← E3.out, e]; rfl)
              obtain ⟨U, hU⟩ : ∃ U : Nat, IntKind.u64.wrap cut = (U : Int) := Int.eq_ofNat_of_zero_le (by rw [IntKind.wrap_u64]; omega)
              have hL := last_part hq0 HQ.out 0
              have hL6 : 6 ≤ L ∧ L ≤ N := by
                have h1 := (last_part hq0 HQ.out (U % lastN qs) (Nat.mod_lt _ (lastN_pos hq0)))
                rw [E4.out, E2.out] at h1
                exact ⟨h1.1, h1.2.1⟩
              obtain ⟨F, hF, hFlt, hFE⟩ : ∃ F : Nat, (U : Int) % (L : Int) = (F : Int) ∧ F < L ∧ Hid (openE (((allL qs).drop (N - L)).take F) = 4) := by
                have hp : 0 < lastN qs := lastN_pos hq0
                have h1 := (last_part hq0 HQ.out (U % lastN qs) (Nat.mod_lt _ hp)).2.2
                rw [E4.out, E2.out] at h1
                exact ⟨U % L, by simp, Nat.mod_lt _ (by omega), h1⟩
              obtain ⟨hL6, hLN⟩ := hL6
              have hL0 : ((L : Int) == 0) = false := by simp; omega
              obtain ⟨A17, hA17, hrun17⟩ := byP.cut_l (hbs7.below hb2) (N - L) ((N : Int) - (L : Int)) (by omega) (by omega)
              rw [show N - (N - L) = L by omega] at hA17 hrun17
              obtain ⟨A18, hA18, hrun18⟩ := byP.cut_h hA17 F (F : Int) rfl (by omega)
              clear hL hq0
              go_wp2_with fail
              refine (open_err _ _ _ _ _ hA18 (by rw [hFE.out]; decide)).mono ?_
              rw [hFE.out]
              rintro e w' ⟨rfl, rfl⟩
              go_wp2_with fail
              refine (knows_yes _).mono ?_
              rintro e wz ⟨rfl, hbz⟩
              go_wp2
              go_ret
              exact ⟨rfl, hb0.trans (hbz.mono hb0.size)⟩
end Go.Proofs.Ytikgigijngobeaa
