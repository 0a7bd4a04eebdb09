/- What pick.Place and the document's Place come to. Condition: the options' data are no longer than 1000 bytes (the program's; boarderlaw04's Great is false). -/
import Derived.Test.YtehanbmnkoebcaaPwLeaf
import Derived.Test.YtehanbmnkoebcaaRwA
import Derived.Deep.Cut
import Derived.Deep.QuietTactic
import Derived.Laws.EntriesVeiled
set_option maxRecDepth 8000
namespace Go.Proofs.Ytehanbmnkoebcaa.Pw
open Go.RowKit Tl Co Ms Ry Cf Ad By Pk
theorem boxM (w : World) (x : Mv) (t : TypeId) : ∃ w0, w0 = w.alloc (.cells x.cells t) ∧ Cel w0 w.heap.size t x.cells ∧ Below w.heap.size w w0 ∧ w0.heap.size = w.heap.size + 1 := ⟨_, rfl, Cel.born _ _ _, alloc_more _ _, by simp⟩
theorem celM {w : World} {g : Nat} {t : TypeId} {x : Mv} (h : Cel w g t x.cells) : w.cell? ⟨g, 7, none⟩ = some (.int .i64 x.ci) ∧ w.cell? ⟨g, 10, none⟩ = some (.int .i64 x.gi) ∧ w.cell? ⟨g, 12, none⟩ = some (.slice x.B x.m x.d) := ⟨by rw [h.cell]; rfl, by rw [h.cell]; rfl, by rw [h.cell]; rfl⟩
theorem celM_all {w : World} {g : Nat} {t : TypeId} {x : Mv} (h : Cel w g t x.cells) : (w.cell? ⟨g, 0, none⟩ = some (.int .i64 x.op) ∧ w.cell? ⟨g, 1, none⟩ = some (.int .i64 x.htype) ∧ w.cell? ⟨g, 2, none⟩ = some (.int .i64 x.hlen) ∧ w.cell? ⟨g, 3, none⟩ = some (.int .i64 x.hops) ∧ w.cell? ⟨g, 4, none⟩ = some (.int .i64 x.xid) ∧ w.cell? ⟨g, 5, none⟩ = some (.int .i64 x.secs) ∧ w.cell? ⟨g, 6, none⟩ = some (.int .i64 x.flags)) ∧ w.cell? ⟨g, 7, none⟩ = some (.int .i64 x.ci) ∧ w.cell? ⟨g, 8, none⟩ = some (.int .i64 x.yi) ∧ w.cell? ⟨g, 9, none⟩ = some (.int .i64 x.si) ∧ w.cell? ⟨g, 10, none⟩ = some (.int .i64 x.gi) ∧ w.cell? ⟨g, 11, none⟩ = some (.slice x.A x.n x.c) ∧ w.cell? ⟨g, 12, none⟩ = some (.slice x.B x.m x.d) :=
  ⟨⟨by rw [h.cell]; rfl, by rw [h.cell]; rfl, by rw [h.cell]; rfl, by rw [h.cell]; rfl, by rw [h.cell]; rfl, by rw [h.cell]; rfl, by rw [h.cell]; rfl⟩, by rw [h.cell]; rfl, by rw [h.cell]; rfl, by rw [h.cell]; rfl, by rw [h.cell]; rfl, by rw [h.cell]; rfl, by rw [h.cell]; rfl⟩

set_option maxHeartbeats 4000000 in
theorem place_any (x : Mv) (w : World) (h : x.ok w) (hsm : ∀ p ∈ x.ps, p.l.length ≤ 1000) : Calls Try.prog 9 #[x.v] w (PlR (placeM x.mm) w) := by
  obtain ⟨w0, hw0, hc0, hb0, hz⟩ := boxM w x 25
  have HA := Lib.hid (fun W (hW : Below w.heap.size w W) => alt_any x W (h.below hW) hsm)
  have HB := Lib.hid hb0
  have HC0 := Lib.hid hc0
  have HP := Lib.hid (fun k => @place_at x.mm k)
  have HN := Lib.hid (@place_never x.mm)
  have HAB : Hid (∀ k, altB x.mm k = ((altR x.mm k).2 && (decide ((altR x.mm k).1 ≠ 0) || altZ k))) := fun _ => rfl
  have HNX := Lib.hid (fun k => @alt_next x.mm k)
  generalize placeM x.mm = t at HP HN ⊢
  generalize altR x.mm = R at HA HP HAB
  generalize altB x.mm = T at HP HN HAB HNX
  clear h hsm hb0 hc0
  go_enter Try.func9, Try.ntmps9
  go_wp2_with fail
  rw [← hw0]
  clear hw0
  refine (alts_any w0).mono ?_
  rintro e w1 ⟨rfl, hc1, hb1⟩
  rw [hz] at hc1
  have HC1 := Lib.hid hc1
  have HC2 := Lib.hid (HC0.out.below hb1 (by omega))
  have HB1 := Lib.hid (HB.out.trans (hb1.mono HB.out.size))
  have hz1 : w.heap.size + 2 ≤ w1.heap.size := by have := hc1.lt; omega
  clear hb1 hc1
  go_wp2_with fail
  go_loopw [10] (fun v wr => ∃ k : Nat, v = .int .i64 k ∧ k ≤ 4 ∧ Hid (∀ j, j < k → T j = false) ∧ Hid (Below w1.heap.size w1 wr)) (fun v _ => 4 - (intOf v).toNat)
  case atStart => exact ⟨0, rfl, by omega, fun j hj => by omega, Below.refl _ _⟩
  case round =>
    obtain ⟨k, rfl, hk4, HE, HB2⟩ := hrel
    by_cases hlt : k < 4
    · have hkz : (k : Int) < 4 := by omega
      obtain ⟨t0, t1⟩ := alt_cells (HC1.out.below HB2.out HC1.out.lt) k hlt
      obtain ⟨w2, hw2⟩ : ∃ w2, w2 = wr.alloc (.cells #[.func (.func (altF k)) #[] #[], .bool (altZ k)] 60) := ⟨_, rfl⟩
      have hb2 : Below wr.heap.size wr w2 := by rw [hw2]; exact alloc_more _ _
      have HCX := Lib.hid (show Cel w2 wr.heap.size 60 #[.func (.func (altF k)) #[] #[], .bool (altZ k)] by rw [hw2]; exact Cel.born _ _ _)
      have HB3 := Lib.hid (HB2.out.trans (hb2.mono HB2.out.size))
      have HB4 := Lib.hid (HB1.out.trans (HB3.out.mono HB1.out.size))
      have HCM := Lib.hid (HC2.out.below HB3.out (by omega))
      have HC := Lib.hid (HA.out w2 HB4.out k hlt)
      have HEN := Lib.hid (fun args W => alt_enter k args W hlt)
      have HT := Lib.hid (HAB.out k)
      have HPK := Lib.hid (HP.out k hlt HE.out)
      have HSK := Lib.hid (HNX.out k HE.out)
      clear hb2 HE
      generalize altZ k = z at *
      generalize altF k = F at *
      generalize R k = r at HC HT HPK
      generalize T k = b at HT HPK HSK
      obtain ⟨a, y⟩ := r
      have hgo : (y = false ∧ Hid (b = false)) ∨ (y = true ∧ (a != 0) = true ∧ Hid (b = true)) ∨ (y = true ∧ (a != 0) = false ∧ z = true ∧ Hid (b = true)) ∨ (y = true ∧ (a != 0) = false ∧ z = false ∧ Hid (b = false)) := by
        have e := HT.out
        cases y with
        | false => exact .inl ⟨rfl, by rw [e]; rfl⟩
        | true =>
          by_cases ha : a = 0
          · subst ha
            cases z with
            | false => exact .inr (.inr (.inr ⟨rfl, rfl, rfl, by rw [e]; rfl⟩))
            | true => exact .inr (.inr (.inl ⟨rfl, rfl, rfl, by rw [e]; rfl⟩))
          · exact .inr (.inl ⟨rfl, by simpa using ha, by show b = true; rw [e]; simp [ha]⟩)
      clear HT
      go_upto_region 4 with fail
      rw [← hw2]
      clear hw2 t0 t1
      obtain ⟨t0, t1⟩ : w2.cell? ⟨wr.heap.size, 0, none⟩ = some (.func (.func F) #[] #[]) ∧ w2.cell? ⟨wr.heap.size, 1, none⟩ = some (.bool z) := ⟨by rw [HCX.out.cell]; rfl, by rw [HCX.out.cell]; rfl⟩
      obtain ⟨⟨m0, m1, m2, m3, m4, m5, m6⟩, m7, m8, m9, m10, m11, m12⟩ := celM_all HCM.out
      go_wp2_with fail
      rw [HEN.out, Oper.upon_enter]
      refine HC.out.mono ?_
      rintro e w3 ⟨rfl, hb3⟩
      clear t0 t1 m0 m1 m2 m3 m4 m5 m6 m7 m8 m9 m10 m11 m12
      obtain ⟨t0, t1⟩ : w3.cell? ⟨wr.heap.size, 0, none⟩ = some (.func (.func F) #[] #[]) ∧ w3.cell? ⟨wr.heap.size, 1, none⟩ = some (.bool z) := ⟨by rw [(HCX.out.below hb3 HCX.out.lt).cell]; rfl, by rw [(HCX.out.below hb3 HCX.out.lt).cell]; rfl⟩
      have HB5 := Lib.hid (HB3.out.trans (hb3.mono HB3.out.size))
      have HB6 := Lib.hid (HB4.out.trans (hb3.mono HB4.out.size))
      clear hb3 HC
      rcases hgo with ⟨rfl, H⟩ | ⟨rfl, ha, H⟩ | ⟨rfl, ha, rfl, H⟩ | ⟨rfl, ha, rfl, H⟩
      · go_wp2
        go_roundw
        case rel => exact ⟨k + 1, by go_num, by omega, HSK.out H.out, HB5.out⟩
        case measure => simp [intOf]; omega
      · go_wp2
        go_ret2
        rw [HPK.out H.out]
        exact ⟨rfl, HB6.out⟩
      · go_wp2
        go_ret2
        rw [HPK.out H.out]
        exact ⟨rfl, HB6.out⟩
      · go_wp2
        go_roundw
        case rel => exact ⟨k + 1, by go_num, by omega, HSK.out H.out, HB5.out⟩
        case measure => simp [intOf]; omega
    · obtain rfl : k = 4 := by omega
      have HT := Lib.hid (HN.out HE.out)
      go_wp2
      go_ret2
      rw [HT.out]
      exact ⟨rfl, HB1.out.trans (HB2.out.mono HB1.out.size)⟩

theorem ne_dec (a : Int) : decide (a ≠ 0) = (a != 0) := by
  by_cases h : a = 0
  · subst h; rfl
  · simp [h]
/-- What is told behind 'no link'. -/
theorem rest_cases (m : M) : (m.gi ≠ 0 ∧ Hid (linkM m = none → placeM m = (m.gi, true))) ∨ (m.gi = 0 ∧ ∃ a : Nat, Hid (numM m = some a) ∧ a ≠ 0 ∧ Hid (linkM m = none → placeM m = ((a : Int), true))) ∨ (m.gi = 0 ∧ Hid (numM m = none) ∧ Hid (linkM m = none → placeM m = (m.ci, decide (m.ci ≠ 0)))) ∨ (m.gi = 0 ∧ Hid (numM m = some 0) ∧ Hid (linkM m = none → placeM m = (m.ci, decide (m.ci ≠ 0)))) := by
  by_cases hg : m.gi = 0
  · cases hn : numM m with
    | none => exact .inr (.inr (.inl ⟨hg, rfl, fun hl => place_ci hl hg (.inl hn)⟩))
    | some a =>
      by_cases ha : a = 0
      · subst ha
        exact .inr (.inr (.inr ⟨hg, rfl, fun hl => place_ci hl hg (.inr hn)⟩))
      · exact .inr (.inl ⟨hg, a, rfl, ha, fun hl => place_num hl hg hn ha⟩)
  · exact .inl ⟨hg, fun hl => place_gi hl hg⟩
set_option maxHeartbeats 4000000 in
theorem refPlace_any (x : Mv) (w : World) (hx : x.ok w) : Calls Try.prog 10 #[x.v] w (PlR (placeM x.mm) w) := by
  obtain ⟨w0, hw0, hc0, hb0, hz⟩ := boxM w x 31
  have h := Lib.hid hx
  have hrest : (x.gi ≠ 0 ∧ _) ∨ (x.gi = 0 ∧ ∃ a : Nat, _ ∧ a ≠ 0 ∧ _) ∨ (x.gi = 0 ∧ _ ∧ _) ∨ (x.gi = 0 ∧ _ ∧ _) := rest_cases x.mm
  rw [num_M] at hrest
  have HF := Lib.hid (Tw.refFind_any x.B x.m x.d x.ps 82 w0 (hx.below hb0).os)
  have HLM := Lib.hid (link_M x)
  have HPL := Lib.hid (fun a => @place_link x.mm a)
  generalize placeM x.mm = t at HPL hrest ⊢
  generalize linkM x.mm = L at HLM HPL hrest
  change (x.gi ≠ 0 ∧ Hid (L = none → t = (x.gi, true))) ∨ (x.gi = 0 ∧ ∃ a : Nat, Hid (Ow.numL (osP x.ps) 118 4 = some a) ∧ a ≠ 0 ∧ Hid (L = none → t = ((a : Int), true))) ∨ (x.gi = 0 ∧ Hid (Ow.numL (osP x.ps) 118 4 = none) ∧ Hid (L = none → t = (x.ci, decide (x.ci ≠ 0)))) ∨ (x.gi = 0 ∧ Hid (Ow.numL (osP x.ps) 118 4 = some 0) ∧ Hid (L = none → t = (x.ci, decide (x.ci ≠ 0)))) at hrest
  have HB0 := Lib.hid hb0
  have HC0 := Lib.hid hc0
  clear hx hb0 hc0 hz
  cases hf : findL (osP x.ps) 82 with
  | none =>
    have HL : Hid (L = none) := by rw [hf] at HLM; exact HLM.out
    rw [hf] at HF
    clear hf HLM HPL
    go_enter Try.func10, Try.ntmps10
    go_wp2_with fail
    rw [← hw0]
    clear hw0
    refine HF.out.mono ?_
    rintro e w1 ⟨A1, m1, c1, rfl, hbs, rfl⟩
    have HBS := Lib.hid HB0.out
    have HCS := Lib.hid HC0.out
    clear hbs HF HB0 HC0
    obtain ⟨c7, c10, c12⟩ := celM HCS.out
    have HN := Lib.hid (Ow.refNumber_any x.B x.m x.d x.ps 118 w0 (h.out.below HBS.out).os)
    rcases hrest with ⟨hg, H⟩ | ⟨hg, a, hn, ha, H⟩ | ⟨hg, hn, H⟩ | ⟨hg, hn, H⟩
    · have hg1 : (x.gi != 0) = true := by simpa using hg
      go_wp2
      go_ret2
      rw [H.out HL.out]
      exact ⟨rfl, HBS.out⟩
    · have hg1 : (x.gi != 0) = false := by simpa using hg
      have ha1 : ((a : Int) != 0) = true := by simp; omega
      rw [hn.out] at HN
      go_wp2_with fail
      refine HN.out.mono ?_
      rintro e wn ⟨rfl, hbn⟩
      go_wp2
      go_ret2
      rw [H.out HL.out]
      exact ⟨rfl, HBS.out.trans (hbn.mono HBS.out.size)⟩
    · have hg1 : (x.gi != 0) = false := by simpa using hg
      rw [hn.out] at HN
      go_wp2_with fail
      refine HN.out.mono ?_
      rintro e wn ⟨rfl, hbn⟩
      have hbw := HBS.out.trans (hbn.mono HBS.out.size)
      clear c7 c10 c12
      obtain ⟨c7, c10, c12⟩ := celM (HCS.out.below hbn HCS.out.lt)
      go_wp2_with fail
      go_quiet (fail)
      go_wp2
      go_ret2
      rw [H.out HL.out]
      rw [ne_dec]
      exact ⟨rfl, below_drewN hbw _⟩
    · have hg1 : (x.gi != 0) = false := by simpa using hg
      rw [hn.out] at HN
      go_wp2_with fail
      refine HN.out.mono ?_
      rintro e wn ⟨rfl, hbn⟩
      have hbw := HBS.out.trans (hbn.mono HBS.out.size)
      clear c7 c10 c12
      obtain ⟨c7, c10, c12⟩ := celM (HCS.out.below hbn HCS.out.lt)
      go_wp2_with fail
      go_quiet (fail)
      go_wp2
      go_ret2
      rw [H.out HL.out]
      rw [ne_dec]
      exact ⟨rfl, below_drewN hbw _⟩
  | some d =>
    rw [hf] at HF HLM
    clear hf
    cases hl : linkR d with
    | some a =>
      have HT : Hid (t = ((a : Int), true)) := HPL.out a (HLM.out.trans hl)
      have HK : Hid (linkR d = some a) := hl
      clear hl HLM HPL hrest
      go_enter Try.func10, Try.ntmps10
      go_wp2_with fail
      rw [← hw0]
      clear hw0
      refine HF.out.mono ?_
      rintro e w1 ⟨A1, m1, c1, rfl, hbs, rfl⟩
      have HR := Lib.hid (Rw.refLink_any A1 m1 c1 d w0 hbs)
      rw [HK.out] at HR
      clear hbs HF
      go_wp2_with fail
      refine HR.out.mono ?_
      rintro e w2 ⟨rfl, hb2⟩
      go_wp2
      go_ret2
      rw [HT.out]
      exact ⟨rfl, HB0.out.trans (hb2.mono HB0.out.size)⟩
    | none =>
      have HL : Hid (L = none) := HLM.out.trans hl
      have HK : Hid (linkR d = none) := hl
      clear hl HLM HPL
      go_enter Try.func10, Try.ntmps10
      go_wp2_with fail
      rw [← hw0]
      clear hw0
      refine HF.out.mono ?_
      rintro e w1 ⟨A1, m1, c1, rfl, hbs, rfl⟩
      have HR := Lib.hid (Rw.refLink_any A1 m1 c1 d w0 hbs)
      rw [HK.out] at HR
      clear hbs HF
      go_wp2_with fail
      refine HR.out.mono ?_
      rintro e w2 ⟨rfl, hb2⟩
      have HBS := Lib.hid (HB0.out.trans (hb2.mono HB0.out.size))
      have HCS := Lib.hid (HC0.out.below hb2 HC0.out.lt)
      clear hb2 HB0 HC0 HR
      obtain ⟨c7, c10, c12⟩ := celM HCS.out
      have HN := Lib.hid (Ow.refNumber_any x.B x.m x.d x.ps 118 w2 (h.out.below HBS.out).os)
      rcases hrest with ⟨hg, H⟩ | ⟨hg, a, hn, ha, H⟩ | ⟨hg, hn, H⟩ | ⟨hg, hn, H⟩
      · have hg1 : (x.gi != 0) = true := by simpa using hg
        go_wp2
        go_ret2
        rw [H.out HL.out]
        exact ⟨rfl, HBS.out⟩
      · have hg1 : (x.gi != 0) = false := by simpa using hg
        have ha1 : ((a : Int) != 0) = true := by simp; omega
        rw [hn.out] at HN
        go_wp2_with fail
        refine HN.out.mono ?_
        rintro e wn ⟨rfl, hbn⟩
        go_wp2
        go_ret2
        rw [H.out HL.out]
        exact ⟨rfl, HBS.out.trans (hbn.mono HBS.out.size)⟩
      · have hg1 : (x.gi != 0) = false := by simpa using hg
        rw [hn.out] at HN
        go_wp2_with fail
        refine HN.out.mono ?_
        rintro e wn ⟨rfl, hbn⟩
        have hbw := HBS.out.trans (hbn.mono HBS.out.size)
        clear c7 c10 c12
        obtain ⟨c7, c10, c12⟩ := celM (HCS.out.below hbn HCS.out.lt)
        go_wp2_with fail
        go_quiet (fail)
        go_wp2
        go_ret2
        rw [H.out HL.out]
        rw [ne_dec]
        exact ⟨rfl, below_drewN hbw _⟩
      · have hg1 : (x.gi != 0) = false := by simpa using hg
        rw [hn.out] at HN
        go_wp2_with fail
        refine HN.out.mono ?_
        rintro e wn ⟨rfl, hbn⟩
        have hbw := HBS.out.trans (hbn.mono HBS.out.size)
        clear c7 c10 c12
        obtain ⟨c7, c10, c12⟩ := celM (HCS.out.below hbn HCS.out.lt)
        go_wp2_with fail
        go_quiet (fail)
        go_wp2
        go_ret2
        rw [H.out HL.out]
        rw [ne_dec]
        exact ⟨rfl, below_drewN hbw _⟩
end Go.Proofs.Ytehanbmnkoebcaa.Pw
