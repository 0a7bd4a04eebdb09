/- How pick reads the four places that a message may tell, and the first of them that counts. Condition: the options' data are no longer than 1000 bytes (boarderlaw04's Great is false). -/
import Derived.Test.YtoldppbakapohaaGreatDoorMathA
import Derived.Test.YtoldppbakapohaaGreatDoorRwA
import Derived.Test.YtoldppbakapohaaGreatDoorOwA
import Derived.Test.YtoldppbakapohaaGreatDoorMwA
import Derived.Test.YtoldppbakapohaaGreatDoorVwC
import Derived.Test.YtoldppbakapohaaGreatDoorVwE
import Derived.BigQuiet
import Derived.Deep.Cut
import Derived.Deep.QuietTactic
import Derived.Laws.EntriesVeiled
section
set_option maxRecDepth 8000
namespace Go.Proofs.YtoldppbakapohaaGreatDoor.Pk
open Tl Co Ms Ry Cf Ad
theorem link_nil : linkR [] = none := by rfl
/-- What the k-th of the four tells, and whether the address 0 is one there. -/
def altR (m : M) : Nat → Int × Bool
  | 0 => (((linkM m).getD 0 : Nat), (linkM m).isSome)
  | 1 => (m.gi, true)
  | 2 => (((numM m).getD 0 : Nat), (numM m).isSome)
  | _ => (m.ci, true)
def altZ : Nat → Bool
  | 0 => true
  | _ => false
def altB (m : M) (k : Nat) : Bool := (altR m k).2 && (decide ((altR m k).1 ≠ 0) || altZ k)
theorem alt_0 {m : M} (h : altB m 0 = false) : linkM m = none := by
  cases hl : linkM m with
  | none => rfl
  | some a => simp [altB, altR, altZ, hl] at h
theorem alt_1 {m : M} (h : altB m 1 = false) : m.gi = 0 := by simpa [altB, altR, altZ] using h
theorem alt_2 {m : M} (h : altB m 2 = false) : numM m = none ∨ numM m = some 0 := by
  cases hl : numM m with
  | none => exact .inl rfl
  | some a =>
    simp [altB, altR, altZ, hl] at h
    subst h
    exact .inr rfl
theorem place_never {m : M} (h : ∀ j, j < 4 → altB m j = false) : placeM m = (0, false) := by
  have h3 := h 3 (by omega)
  have hc : m.ci = 0 := by simpa [altB, altR, altZ] using h3
  rw [place_ci (alt_0 (h 0 (by omega))) (alt_1 (h 1 (by omega))) (alt_2 (h 2 (by omega))), hc]
  rfl
theorem place_at {m : M} : ∀ {k : Nat}, k < 4 → (∀ j, j < k → altB m j = false) → altB m k = true → placeM m = ((altR m k).1, true)
  | 0, _, _, h => by
    cases hl : linkM m with
    | none => simp [altB, altR, hl] at h
    | some a => rw [place_link hl]; simp [altR, hl]
  | 1, _, hE, h => by
    have hg : m.gi ≠ 0 := by simpa [altB, altR, altZ] using h
    rw [place_gi (alt_0 (hE 0 (by omega))) hg]
    rfl
  | 2, _, hE, h => by
    cases hl : numM m with
    | none => simp [altB, altR, hl] at h
    | some a =>
      have ha : a ≠ 0 := by simpa [altB, altR, altZ, hl] using h
      rw [place_num (alt_0 (hE 0 (by omega))) (alt_1 (hE 1 (by omega))) hl ha]
      simp [altR, hl]
  | 3, _, hE, h => by
    have hg : m.ci ≠ 0 := by simpa [altB, altR, altZ] using h
    rw [place_ci (alt_0 (hE 0 (by omega))) (alt_1 (hE 1 (by omega))) (alt_2 (hE 2 (by omega)))]
    simp [altR, hg]
theorem alt_next {m : M} {k : Nat} (hE : ∀ j, j < k → altB m j = false) (h : altB m k = false) : ∀ j, j < k + 1 → altB m j = false := fun j hj => by
  rcases Nat.lt_or_ge j k with q | q
  · exact hE j q
  · obtain rfl : j = k := by omega
    exact h
end Go.Proofs.YtoldppbakapohaaGreatDoor.Pk
namespace Go.Proofs.YtoldppbakapohaaGreatDoor.Pw
open Go.RowKit Tl Co Ms Ry Cf Ad By Pk
/-- An address, and whether there is one. -/
def PlR (t : Int × Bool) (w : World) (e : Ending) (w' : World) : Prop := e = .returned (.tuple #[.int .i64 t.1, .bool t.2]) ∧ Below w.heap.size w w'
theorem link_M (x : Mv) : linkM x.mm = (findL (osP x.ps) 82).bind linkR := rfl
theorem link_D (x : Mv) : linkR ((findL (osP x.ps) 82).getD []) = linkM x.mm := by
  rw [link_M]
  cases findL (osP x.ps) 82 with
  | none => exact link_nil
  | some d => rfl
theorem num_M (x : Mv) : numM x.mm = Ow.numL (osP x.ps) 118 4 := rfl

set_option maxHeartbeats 1000000 in
theorem link_any (x : Mv) (w : World) (h : x.ok w) (hsm : ∀ p ∈ x.ps, p.l.length ≤ 1000) : Calls Tryz.prog 221 #[x.v] w (PlR (altR x.mm 0) w) := by
  have HC := Lib.hid (fun W (hW : Below w.heap.size w W) => Tw.find_any x.B x.m x.d x.ps 82 W (h.os.below hW) hsm)
  have HD := Lib.hid (link_D x)
  have HR : Hid (altR x.mm 0 = ((((linkM x.mm).getD 0 : Nat) : Int), (linkM x.mm).isSome)) := rfl
  generalize altR x.mm 0 = t at HR ⊢
  clear h hsm
  go_enter Tryz.func221, Tryz.ntmps221
  go_wp2_with fail
  refine (HC.out _ (alloc_more _ _)).mono ?_
  rintro e w1 ⟨A1, m1, c1, rfl, hbs, hb1⟩
  generalize findL (osP x.ps) 82 = r at hbs HD
  have HB := Lib.hid ((alloc_more w (.cells x.cells 29)).trans (hb1.mono (alloc_more w (.cells x.cells 29)).size))
  have HL := Lib.hid (Rw.linkOf_any A1 m1 c1 _ w1 hbs)
  rw [HD.out] at HL
  clear hb1 hbs HC HD
  go_wp2_with fail
  refine HL.out.mono ?_
  rintro e w2 ⟨rfl, hb2⟩
  go_wp2
  go_ret2
  rw [HR.out]
  exact ⟨rfl, HB.out.trans (hb2.mono HB.out.size)⟩

theorem gi_any (x : Mv) (w : World) : Calls Tryz.prog 222 #[x.v] w (PlR (altR x.mm 1) w) := by
  go_enter Tryz.func222, Tryz.ntmps222
  go_wp2
  go_ret2
  exact ⟨rfl, alloc_more _ _⟩
theorem ci_any (x : Mv) (w : World) : Calls Tryz.prog 224 #[x.v] w (PlR (altR x.mm 3) w) := by
  go_enter Tryz.func224, Tryz.ntmps224
  go_wp2
  go_ret2
  exact ⟨rfl, alloc_more _ _⟩
set_option maxHeartbeats 1000000 in
theorem num_any (x : Mv) (w : World) (h : x.ok w) (hsm : ∀ p ∈ x.ps, p.l.length ≤ 1000) : Calls Tryz.prog 223 #[x.v] w (PlR (altR x.mm 2) w) := by
  have HC := Lib.hid (fun W (hW : Below w.heap.size w W) => Ow.number4_any x.B x.m x.d x.ps 118 W (h.os.below hW) hsm)
  have HR : Hid (altR x.mm 2 = ((((Ow.numL (osP x.ps) 118 4).getD 0 : Nat) : Int), (Ow.numL (osP x.ps) 118 4).isSome)) := rfl
  generalize altR x.mm 2 = t at HR ⊢
  clear h hsm
  go_enter Tryz.func223, Tryz.ntmps223
  go_wp2_with fail
  refine (HC.out _ (alloc_more _ _)).mono ?_
  generalize Ow.numL (osP x.ps) 118 4 = r at HR ⊢
  rintro e w1 ⟨rfl, hb1⟩
  go_wp2
  go_ret2
  rw [HR.out]
  exact ⟨rfl, (alloc_more w (.cells x.cells 29)).trans (hb1.mono (alloc_more w (.cells x.cells 29)).size)⟩

/-! ### The four, one after the other -/
/-- The functions that read them. -/
def altF : Nat → Nat
  | 0 => 221
  | 1 => 222
  | 2 => 223
  | _ => 224
theorem alt_any (x : Mv) (w : World) (h : x.ok w) (hsm : ∀ p ∈ x.ps, p.l.length ≤ 1000) : ∀ k : Nat, k < 4 → Calls Tryz.prog (altF k) #[x.v] w (PlR (altR x.mm k) w)
  | 0, _ => link_any x w h hsm
  | 1, _ => gi_any x w
  | 2, _ => num_any x w h hsm
  | 3, _ => ci_any x w
theorem alt_enter : ∀ (k : Nat) (args : Array Value) (W : World), k < 4 → (callFunc (altF k) args).run Tryz.prog W = .ok (.enter (altF k) args) W
  | 0, _, _, _ => by rfl
  | 1, _, _, _ => by rfl
  | 2, _, _, _ => by rfl
  | 3, _, _, _ => by rfl
@[reducible] def altCs : Array Value := #[.func (.func 221) #[] #[], .bool true, .func (.func 222) #[] #[], .bool false, .func (.func 223) #[] #[], .bool false, .func (.func 224) #[] #[], .bool false]
theorem alt_cells {w : World} {g : Nat} {t : TypeId} (h : Cel w g t altCs) : ∀ k : Nat, k < 4 → w.cell? ⟨g, k * 2, none⟩ = some (.func (.func (altF k)) #[] #[]) ∧ w.cell? ⟨g, k * 2 + 1, none⟩ = some (.bool (altZ k))
  | 0, _ => ⟨by rw [h.cell]; rfl, by rw [h.cell]; rfl⟩
  | 1, _ => ⟨by rw [h.cell]; rfl, by rw [h.cell]; rfl⟩
  | 2, _ => ⟨by rw [h.cell]; rfl, by rw [h.cell]; rfl⟩
  | 3, _ => ⟨by rw [h.cell]; rfl, by rw [h.cell]; rfl⟩
theorem alts_any (w : World) : Calls Tryz.prog 197 #[] w fun e w' => e = .returned (.slice (some ⟨w.heap.size, 0, none⟩) 4 4) ∧ Cel w' w.heap.size 211 altCs ∧ Below w.heap.size w w' := by
  go_enter Tryz.func197, Tryz.ntmps197
  go_wp2
  go_ret
  exact ⟨rfl, Cel.born _ _ _, alloc_more _ _⟩
end Go.Proofs.YtoldppbakapohaaGreatDoor.Pw
end
/- What pick.Place and the document's Place come to. Condition: the options' data are no longer than 1000 bytes (the program's; boarderlaw04's Great is false). -/
section
set_option maxRecDepth 8000
namespace Go.Proofs.YtoldppbakapohaaGreatDoor.Pw
open Go.RowKit Tl Co Ms Ry Cf Ad By Pk
set_option maxHeartbeats 4000000 in
theorem place_any (x : Mv) (w : World) (h : x.ok w) (hsm : ∀ p ∈ x.ps, p.l.length ≤ 1000) : Calls Tryz.prog 136 #[x.v] w (PlR (placeM x.mm) w) := by
  obtain ⟨w0, hw0, hc0, hb0, hz⟩ := boxM w x 29
  have HA := Lib.hid (fun W (hW : Below w.heap.size w W) => alt_any x W (h.below hW) hsm)
  have HB := Lib.hid hb0
  have HC0 := Lib.hid hc0
  have HP := Lib.hid (fun k => @place_at x.mm k)
  have HN := Lib.hid (@place_never x.mm)
  have HAB : Hid (∀ k, altB x.mm k = ((altR x.mm k).2 && (decide ((altR x.mm k).1 ≠ 0) || altZ k))) := fun _ => rfl
  have HNX := Lib.hid (fun k => @alt_next x.mm k)
  generalize placeM x.mm = t at HP HN ⊢
  generalize altR x.mm = R at HA HP HAB
  generalize altB x.mm = T at HP HN HAB HNX
  clear h hsm hb0 hc0
  go_enter Tryz.func136, Tryz.ntmps136
  go_wp2_with fail
  rw [← hw0]
  clear hw0
  refine (alts_any w0).mono ?_
  rintro e w1 ⟨rfl, hc1, hb1⟩
  rw [hz] at hc1
  have HC1 := Lib.hid hc1
  have HC2 := Lib.hid (HC0.out.below hb1 (by omega))
  have HB1 := Lib.hid (HB.out.trans (hb1.mono HB.out.size))
  have hz1 : w.heap.size + 2 ≤ w1.heap.size := by have := hc1.lt; omega
  clear hb1 hc1
  go_wp2_with fail
  go_loopw [10] (fun v wr => ∃ k : Nat, v = .int .i64 k ∧ k ≤ 4 ∧ Hid (∀ j, j < k → T j = false) ∧ Hid (Below w1.heap.size w1 wr)) (fun v _ => 4 - (intOf v).toNat)
  case atStart => exact ⟨0, rfl, by omega, fun j hj => by omega, Below.refl _ _⟩
  case round =>
    obtain ⟨k, rfl, hk4, HE, HB2⟩ := hrel
    by_cases hlt : k < 4
    · have hkz : (k : Int) < 4 := by omega
      obtain ⟨t0, t1⟩ := alt_cells (HC1.out.below HB2.out HC1.out.lt) k hlt
      obtain ⟨w2, hw2⟩ : ∃ w2, w2 = wr.alloc (.cells #[.func (.func (altF k)) #[] #[], .bool (altZ k)] 211) := ⟨_, rfl⟩
      have hb2 : Below wr.heap.size wr w2 := by rw [hw2]; exact alloc_more _ _
      have HCX := Lib.hid (show Cel w2 wr.heap.size 211 #[.func (.func (altF k)) #[] #[], .bool (altZ k)] by rw [hw2]; exact Cel.born _ _ _)
      have HB3 := Lib.hid (HB2.out.trans (hb2.mono HB2.out.size))
      have HB4 := Lib.hid (HB1.out.trans (HB3.out.mono HB1.out.size))
      have HCM := Lib.hid (HC2.out.below HB3.out (by omega))
      have HC := Lib.hid (HA.out w2 HB4.out k hlt)
      have HEN := Lib.hid (fun args W => alt_enter k args W hlt)
      have HT := Lib.hid (HAB.out k)
      have HPK := Lib.hid (HP.out k hlt HE.out)
      have HSK := Lib.hid (HNX.out k HE.out)
      clear hb2 HE
      generalize altZ k = z at *
      generalize altF k = F at *
      generalize R k = r at HC HT HPK
      generalize T k = b at HT HPK HSK
      obtain ⟨a, y⟩ := r
      have hgo : (y = false ∧ Hid (b = false)) ∨ (y = true ∧ (a != 0) = true ∧ Hid (b = true)) ∨ (y = true ∧ (a != 0) = false ∧ z = true ∧ Hid (b = true)) ∨ (y = true ∧ (a != 0) = false ∧ z = false ∧ Hid (b = false)) := by
        have e := HT.out
        cases y with
        | false => exact .inl ⟨rfl, by rw [e]; rfl⟩
        | true =>
          by_cases ha : a = 0
          · subst ha
            cases z with
            | false => exact .inr (.inr (.inr ⟨rfl, rfl, rfl, by rw [e]; rfl⟩))
            | true => exact .inr (.inr (.inl ⟨rfl, rfl, rfl, by rw [e]; rfl⟩))
          · exact .inr (.inl ⟨rfl, by simpa using ha, by show b = true; rw [e]; simp [ha]⟩)
      clear HT
      go_upto_region 4 with fail
      rw [← hw2]
      clear hw2 t0 t1
      obtain ⟨t0, t1⟩ : w2.cell? ⟨wr.heap.size, 0, none⟩ = some (.func (.func F) #[] #[]) ∧ w2.cell? ⟨wr.heap.size, 1, none⟩ = some (.bool z) := ⟨by rw [HCX.out.cell]; rfl, by rw [HCX.out.cell]; rfl⟩
      obtain ⟨⟨m0, m1, m2, m3, m4, m5, m6⟩, m7, m8, m9, m10, m11, m12⟩ := celM_all HCM.out
      go_wp2_with fail
      rw [HEN.out, Oper.upon_enter]
      refine HC.out.mono ?_
      rintro e w3 ⟨rfl, hb3⟩
      clear t0 t1 m0 m1 m2 m3 m4 m5 m6 m7 m8 m9 m10 m11 m12
      obtain ⟨t0, t1⟩ : w3.cell? ⟨wr.heap.size, 0, none⟩ = some (.func (.func F) #[] #[]) ∧ w3.cell? ⟨wr.heap.size, 1, none⟩ = some (.bool z) := ⟨by rw [(HCX.out.below hb3 HCX.out.lt).cell]; rfl, by rw [(HCX.out.below hb3 HCX.out.lt).cell]; rfl⟩
      have HB5 := Lib.hid (HB3.out.trans (hb3.mono HB3.out.size))
      have HB6 := Lib.hid (HB4.out.trans (hb3.mono HB4.out.size))
      clear hb3 HC
      rcases hgo with ⟨rfl, H⟩ | ⟨rfl, ha, H⟩ | ⟨rfl, ha, rfl, H⟩ | ⟨rfl, ha, rfl, H⟩
      · go_wp2
        go_roundw
        case rel => exact ⟨k + 1, by go_num, by omega, HSK.out H.out, HB5.out⟩
        case measure => simp [intOf]; omega
      · go_wp2
        go_ret2
        rw [HPK.out H.out]
        exact ⟨rfl, HB6.out⟩
      · go_wp2
        go_ret2
        rw [HPK.out H.out]
        exact ⟨rfl, HB6.out⟩
      · go_wp2
        go_roundw
        case rel => exact ⟨k + 1, by go_num, by omega, HSK.out H.out, HB5.out⟩
        case measure => simp [intOf]; omega
    · obtain rfl : k = 4 := by omega
      have HT := Lib.hid (HN.out HE.out)
      go_wp2
      go_ret2
      rw [HT.out]
      exact ⟨rfl, HB1.out.trans (HB2.out.mono HB1.out.size)⟩

theorem ne_dec (a : Int) : decide (a ≠ 0) = (a != 0) := by
  by_cases h : a = 0
  · subst h; rfl
  · simp [h]
/-- What is told behind 'no link'. -/
theorem rest_cases (m : M) : (m.gi ≠ 0 ∧ Hid (linkM m = none → placeM m = (m.gi, true))) ∨ (m.gi = 0 ∧ ∃ a : Nat, Hid (numM m = some a) ∧ a ≠ 0 ∧ Hid (linkM m = none → placeM m = ((a : Int), true))) ∨ (m.gi = 0 ∧ Hid (numM m = none) ∧ Hid (linkM m = none → placeM m = (m.ci, decide (m.ci ≠ 0)))) ∨ (m.gi = 0 ∧ Hid (numM m = some 0) ∧ Hid (linkM m = none → placeM m = (m.ci, decide (m.ci ≠ 0)))) := by
  by_cases hg : m.gi = 0
  · cases hn : numM m with
    | none => exact .inr (.inr (.inl ⟨hg, rfl, fun hl => place_ci hl hg (.inl hn)⟩))
    | some a =>
      by_cases ha : a = 0
      · subst ha
        exact .inr (.inr (.inr ⟨hg, rfl, fun hl => place_ci hl hg (.inr hn)⟩))
      · exact .inr (.inl ⟨hg, a, rfl, ha, fun hl => place_num hl hg hn ha⟩)
  · exact .inl ⟨hg, fun hl => place_gi hl hg⟩
set_option maxHeartbeats 4000000 in
theorem refPlace_any (x : Mv) (w : World) (hx : x.ok w) : Calls Tryz.prog 48 #[x.v] w (PlR (placeM x.mm) w) := by
  obtain ⟨w0, hw0, hc0, hb0, hz⟩ := boxM w x 40
  have h := Lib.hid hx
  have hrest : (x.gi ≠ 0 ∧ _) ∨ (x.gi = 0 ∧ ∃ a : Nat, _ ∧ a ≠ 0 ∧ _) ∨ (x.gi = 0 ∧ _ ∧ _) ∨ (x.gi = 0 ∧ _ ∧ _) := rest_cases x.mm
  rw [num_M] at hrest
  have HF := Lib.hid (Tw.refFind_any x.B x.m x.d x.ps 82 w0 (hx.below hb0).os)
  have HLM := Lib.hid (link_M x)
  have HPL := Lib.hid (fun a => @place_link x.mm a)
  generalize placeM x.mm = t at HPL hrest ⊢
  generalize linkM x.mm = L at HLM HPL hrest
  change (x.gi ≠ 0 ∧ Hid (L = none → t = (x.gi, true))) ∨ (x.gi = 0 ∧ ∃ a : Nat, Hid (Ow.numL (osP x.ps) 118 4 = some a) ∧ a ≠ 0 ∧ Hid (L = none → t = ((a : Int), true))) ∨ (x.gi = 0 ∧ Hid (Ow.numL (osP x.ps) 118 4 = none) ∧ Hid (L = none → t = (x.ci, decide (x.ci ≠ 0)))) ∨ (x.gi = 0 ∧ Hid (Ow.numL (osP x.ps) 118 4 = some 0) ∧ Hid (L = none → t = (x.ci, decide (x.ci ≠ 0)))) at hrest
  have HB0 := Lib.hid hb0
  have HC0 := Lib.hid hc0
  clear hx hb0 hc0 hz
  cases hf : findL (osP x.ps) 82 with
  | none =>
    have HL : Hid (L = none) := by rw [hf] at HLM; exact HLM.out
    rw [hf] at HF
    clear hf HLM HPL
    go_enter Tryz.func48, Tryz.ntmps48
    go_wp2_with fail
    rw [← hw0]
    clear hw0
    refine HF.out.mono ?_
    rintro e w1 ⟨A1, m1, c1, rfl, hbs, rfl⟩
    have HBS := Lib.hid HB0.out
    have HCS := Lib.hid HC0.out
    clear hbs HF HB0 HC0
    obtain ⟨c7, c10, c12⟩ := celM HCS.out
    have HN := Lib.hid (Ow.refNumber_any x.B x.m x.d x.ps 118 w0 (h.out.below HBS.out).os)
    rcases hrest with ⟨hg, H⟩ | ⟨hg, a, hn, ha, H⟩ | ⟨hg, hn, H⟩ | ⟨hg, hn, H⟩
    · have hg1 : (x.gi != 0) = true := by simpa using hg
      go_wp2
      go_ret2
      rw [H.out HL.out]
      exact ⟨rfl, HBS.out⟩
    · have hg1 : (x.gi != 0) = false := by simpa using hg
      have ha1 : ((a : Int) != 0) = true := by simp; omega
      rw [hn.out] at HN
      go_wp2_with fail
      refine HN.out.mono ?_
      rintro e wn ⟨rfl, hbn⟩
      go_wp2
      go_ret2
      rw [H.out HL.out]
      exact ⟨rfl, HBS.out.trans (hbn.mono HBS.out.size)⟩
    · have hg1 : (x.gi != 0) = false := by simpa using hg
      rw [hn.out] at HN
      go_wp2_with fail
      refine HN.out.mono ?_
      rintro e wn ⟨rfl, hbn⟩
      have hbw := HBS.out.trans (hbn.mono HBS.out.size)
      clear c7 c10 c12
      obtain ⟨c7, c10, c12⟩ := celM (HCS.out.below hbn HCS.out.lt)
      go_wp2_with fail
      go_quiet (fail)
      go_wp2
      go_ret2
      rw [H.out HL.out]
      rw [ne_dec]
      exact ⟨rfl, below_drewN hbw _⟩
    · have hg1 : (x.gi != 0) = false := by simpa using hg
      rw [hn.out] at HN
      go_wp2_with fail
      refine HN.out.mono ?_
      rintro e wn ⟨rfl, hbn⟩
      have hbw := HBS.out.trans (hbn.mono HBS.out.size)
      clear c7 c10 c12
      obtain ⟨c7, c10, c12⟩ := celM (HCS.out.below hbn HCS.out.lt)
      go_wp2_with fail
      go_quiet (fail)
      go_wp2
      go_ret2
      rw [H.out HL.out]
      rw [ne_dec]
      exact ⟨rfl, below_drewN hbw _⟩
  | some d =>
    rw [hf] at HF HLM
    clear hf
    cases hl : linkR d with
    | some a =>
      have HT : Hid (t = ((a : Int), true)) := HPL.out a (HLM.out.trans hl)
      have HK : Hid (linkR d = some a) := hl
      clear hl HLM HPL hrest
      go_enter Tryz.func48, Tryz.ntmps48
      go_wp2_with fail
      rw [← hw0]
      clear hw0
      refine HF.out.mono ?_
      rintro e w1 ⟨A1, m1, c1, rfl, hbs, rfl⟩
      have HR := Lib.hid (Rw.refLink_any A1 m1 c1 d w0 hbs)
      rw [HK.out] at HR
      clear hbs HF
      go_wp2_with fail
      refine HR.out.mono ?_
      rintro e w2 ⟨rfl, hb2⟩
      go_wp2
      go_ret2
      rw [HT.out]
      exact ⟨rfl, HB0.out.trans (hb2.mono HB0.out.size)⟩
    | none =>
      have HL : Hid (L = none) := HLM.out.trans hl
      have HK : Hid (linkR d = none) := hl
      clear hl HLM HPL
      go_enter Tryz.func48, Tryz.ntmps48
      go_wp2_with fail
      rw [← hw0]
      clear hw0
      refine HF.out.mono ?_
      rintro e w1 ⟨A1, m1, c1, rfl, hbs, rfl⟩
      have HR := Lib.hid (Rw.refLink_any A1 m1 c1 d w0 hbs)
      rw [HK.out] at HR
      clear hbs HF
      go_wp2_with fail
      refine HR.out.mono ?_
      rintro e w2 ⟨rfl, hb2⟩
      have HBS := Lib.hid (HB0.out.trans (hb2.mono HB0.out.size))
      have HCS := Lib.hid (HC0.out.below hb2 HC0.out.lt)
      clear hb2 HB0 HC0 HR
      obtain ⟨c7, c10, c12⟩ := celM HCS.out
      have HN := Lib.hid (Ow.refNumber_any x.B x.m x.d x.ps 118 w2 (h.out.below HBS.out).os)
      rcases hrest with ⟨hg, H⟩ | ⟨hg, a, hn, ha, H⟩ | ⟨hg, hn, H⟩ | ⟨hg, hn, H⟩
      · have hg1 : (x.gi != 0) = true := by simpa using hg
        go_wp2
        go_ret2
        rw [H.out HL.out]
        exact ⟨rfl, HBS.out⟩
      · have hg1 : (x.gi != 0) = false := by simpa using hg
        have ha1 : ((a : Int) != 0) = true := by simp; omega
        rw [hn.out] at HN
        go_wp2_with fail
        refine HN.out.mono ?_
        rintro e wn ⟨rfl, hbn⟩
        go_wp2
        go_ret2
        rw [H.out HL.out]
        exact ⟨rfl, HBS.out.trans (hbn.mono HBS.out.size)⟩
      · have hg1 : (x.gi != 0) = false := by simpa using hg
        rw [hn.out] at HN
        go_wp2_with fail
        refine HN.out.mono ?_
        rintro e wn ⟨rfl, hbn⟩
        have hbw := HBS.out.trans (hbn.mono HBS.out.size)
        clear c7 c10 c12
        obtain ⟨c7, c10, c12⟩ := celM (HCS.out.below hbn HCS.out.lt)
        go_wp2_with fail
        go_quiet (fail)
        go_wp2
        go_ret2
        rw [H.out HL.out]
        rw [ne_dec]
        exact ⟨rfl, below_drewN hbw _⟩
      · have hg1 : (x.gi != 0) = false := by simpa using hg
        rw [hn.out] at HN
        go_wp2_with fail
        refine HN.out.mono ?_
        rintro e wn ⟨rfl, hbn⟩
        have hbw := HBS.out.trans (hbn.mono HBS.out.size)
        clear c7 c10 c12
        obtain ⟨c7, c10, c12⟩ := celM (HCS.out.below hbn HCS.out.lt)
        go_wp2_with fail
        go_quiet (fail)
        go_wp2
        go_ret2
        rw [H.out HL.out]
        rw [ne_dec]
        exact ⟨rfl, below_drewN hbw _⟩
end Go.Proofs.YtoldppbakapohaaGreatDoor.Pw
end
/- What pick.Subnet comes to. Conditions: the configuration is small (boarderlaw13's Great is false); the options' data are no longer than 1000 bytes (boarderlaw04's is false). -/
section
set_option maxRecDepth 8000
namespace Go.Proofs.YtoldppbakapohaaGreatDoor.Pw
open Go.RowKit Tl Co Ms Ry Cf Ad By Pk
open Vw (Cx FiR cel3C)
theorem boxCM (w : World) (x : Cx) (m : Mv) (t : TypeId) : ∃ w0, w0 = (w.alloc (.cells x.cs 24)).alloc (.cells m.cells t) ∧ Cel w0 w.heap.size 24 x.cs ∧ Cel w0 (w.heap.size + 1) t m.cells ∧ Below w.heap.size w w0 ∧ w0.heap.size = w.heap.size + 2 := by
  have hs : (w.alloc (.cells x.cs 24)).heap.size = w.heap.size + 1 := by simp
  have c1 := Cel.born (w.alloc (.cells x.cs 24)) t m.cells
  rw [hs] at c1
  exact ⟨_, rfl, (Cel.born w 24 x.cs).below (alloc_more _ _) (by rw [hs]; omega), c1, (alloc_more _ _).trans ((alloc_more _ _).mono (alloc_more _ _).size), by simp⟩
theorem sub_no {c : Cf} {m : M} {i : Int} (h : rightM m = false) : subnetM c m i = (0, 0, false) := by unfold subnetM; rw [if_neg (by rw [h]; decide)]
theorem sub_at {c : Cf} {m : M} {i a : Int} (h : rightM m = true) (hp : placeM m = (a, true)) : subnetM c m i = findC c a := by unfold subnetM; rw [if_pos h, hp, if_pos rfl]
theorem sub_wire {c : Cf} {m : M} {i a : Int} (h : rightM m = true) (hp : placeM m = (a, false)) : subnetM c m i = wireC c i := by unfold subnetM; rw [if_pos h, hp, if_neg (show ¬ (false = true) from Bool.false_ne_true)]

set_option maxHeartbeats 4000000 in
theorem subnet_any (c : Cx) (m : Mv) (i : Int) (U : Nat) (w : World) (hc : c.ok U w) (hU : U ≤ w.heap.size) (hS : Small c.cf) (hm : m.ok w) (hsm : ∀ p ∈ m.ps, p.l.length ≤ 1000) : Calls Tryz.prog 79 #[c.v, m.v, .int .i64 i] w (FiR (subnetM c.cf m.mm i) w) := by
  obtain ⟨w0, hw0, hc0, hm0, hb0, hz⟩ := boxCM w c m 29
  have HR := Lib.hid (Mw.right_any m w0 (hm.below hb0))
  have HP := Lib.hid (fun W (hW : Below w.heap.size w W) => place_any m W (hm.below hW) hsm)
  have HF : Hid (∀ (a : Int) (W : World), Below w.heap.size w W → Calls Tryz.prog 115 #[c.v, .int .i64 a] W (FiR (findC c.cf a) W)) := (fun a W hW => Vw.find_doc c a ▸ Vw.findX_any c a U W (hc.below (hW.mono hU)) (Nat.le_trans hU hW.size) hS)
  have HW : Hid (∀ W : World, Below w.heap.size w W → Calls Tryz.prog 137 #[c.v, .int .i64 i] W (FiR (wireC c.cf i) W)) := (fun W hW => Vw.wire_doc c i ▸ Vw.wireX_any c i U W (hc.below (hW.mono hU)) (Nat.le_trans hU hW.size) hS)
  have HB0 := Lib.hid hb0
  have HC0 := Lib.hid hc0
  have HM0 := Lib.hid hm0
  have HE0 := Lib.hid (@sub_no c.cf m.mm i)
  have HE1 := Lib.hid (fun a => @sub_at c.cf m.mm i a)
  have HE2 := Lib.hid (fun a => @sub_wire c.cf m.mm i a)
  generalize subnetM c.cf m.mm i = t at HE0 HE1 HE2 ⊢
  clear hc hU hS hm hb0 hc0 hm0 hsm
  cases hr : rightM m.mm with
  | false =>
    have HT := Lib.hid (HE0.out hr)
    rw [hr] at HR
    clear hr HE0 HE1 HE2 HP HF HW
    go_enter Tryz.func79, Tryz.ntmps79
    go_wp2_with fail
    rw [← hw0]
    clear hw0
    refine HR.out.mono ?_
    rintro e w1 ⟨rfl, hb1⟩
    go_wp2
    go_ret3
    rw [HT.out]
    exact ⟨rfl, HB0.out.trans (hb1.mono HB0.out.size)⟩
  | true =>
    obtain ⟨p, hp⟩ : ∃ p, placeM m.mm = p := ⟨_, rfl⟩
    rw [hp] at HP
    obtain ⟨a, is⟩ := p
    cases is with
    | true =>
      have HT := Lib.hid (HE1.out a hr hp)
      have HK := Lib.hid (HF.out a)
      generalize findC c.cf a = u at HT HK
      obtain ⟨u1, u2, u3⟩ := u
      rw [hr] at HR
      clear hr hp HE0 HE1 HE2 HF HW
      go_enter Tryz.func79, Tryz.ntmps79
      go_wp2_with fail
      rw [← hw0]
      clear hw0
      refine HR.out.mono ?_
      rintro e w1 ⟨rfl, hb1⟩
      have HB1 := Lib.hid (HB0.out.trans (hb1.mono HB0.out.size))
      obtain ⟨⟨m0, m1, m2, m3, m4, m5, m6⟩, m7, m8, m9, m10, m11, m12⟩ := celM_all (HM0.out.below hb1 HM0.out.lt)
      have HC1 := Lib.hid (HC0.out.below hb1 HC0.out.lt)
      clear hb1 HR
      go_wp2_with fail
      refine (HP.out w1 HB1.out).mono ?_
      rintro e w2 ⟨rfl, hb2⟩
      clear m0 m1 m2 m3 m4 m5 m6 m7 m8 m9 m10 m11 m12
      obtain ⟨x0, x1, x2⟩ := cel3C (HC1.out.below hb2 HC1.out.lt)
      have HB2 := Lib.hid (HB1.out.trans (hb2.mono HB1.out.size))
      clear hb2
      go_wp2_with fail
      refine (HK.out w2 HB2.out).mono ?_
      rintro e w3 ⟨rfl, hb3⟩
      go_wp2
      go_ret3
      rw [HT.out]
      exact ⟨rfl, HB2.out.trans (hb3.mono HB2.out.size)⟩
    | false =>
      have HT := Lib.hid (HE2.out a hr hp)
      generalize wireC c.cf i = u at HT HW
      obtain ⟨u1, u2, u3⟩ := u
      rw [hr] at HR
      clear hr hp HE0 HE1 HE2 HF
      go_enter Tryz.func79, Tryz.ntmps79
      go_wp2_with fail
      rw [← hw0]
      clear hw0
      refine HR.out.mono ?_
      rintro e w1 ⟨rfl, hb1⟩
      have HB1 := Lib.hid (HB0.out.trans (hb1.mono HB0.out.size))
      obtain ⟨⟨m0, m1, m2, m3, m4, m5, m6⟩, m7, m8, m9, m10, m11, m12⟩ := celM_all (HM0.out.below hb1 HM0.out.lt)
      have HC1 := Lib.hid (HC0.out.below hb1 HC0.out.lt)
      clear hb1 HR
      go_wp2_with fail
      refine (HP.out w1 HB1.out).mono ?_
      rintro e w2 ⟨rfl, hb2⟩
      clear m0 m1 m2 m3 m4 m5 m6 m7 m8 m9 m10 m11 m12
      obtain ⟨x0, x1, x2⟩ := cel3C (HC1.out.below hb2 HC1.out.lt)
      have HB2 := Lib.hid (HB1.out.trans (hb2.mono HB1.out.size))
      clear hb2
      go_wp2_with fail
      refine (HW.out w2 HB2.out).mono ?_
      rintro e w3 ⟨rfl, hb3⟩
      go_wp2
      go_ret3
      rw [HT.out]
      exact ⟨rfl, HB2.out.trans (hb3.mono HB2.out.size)⟩
end Go.Proofs.YtoldppbakapohaaGreatDoor.Pw
end
/- What the document's Subnet comes to. Condition: the configuration is small (boarderlaw13's Great is false). -/
section
set_option maxRecDepth 8000
namespace Go.Proofs.YtoldppbakapohaaGreatDoor.Pw
open Go.RowKit Tl Co Ms Ry Cf Ad By Pk
open Vw (Cx FiR cel3C)

set_option maxHeartbeats 4000000 in
theorem refSubnet_any (c : Cx) (m : Mv) (i : Int) (U : Nat) (w : World) (hc : c.ok U w) (hU : U ≤ w.heap.size) (hS : Small c.cf) (hm : m.ok w) : Calls Tryz.prog 17 #[c.v, m.v, .int .i64 i] w (FiR (subnetM c.cf m.mm i) w) := by
  obtain ⟨w0, hw0, hc0, hm0, hb0, hz⟩ := boxCM w c m 40
  have HR := Lib.hid (Mw.refRight_msg m w0 (hm.below hb0))
  have HP := Lib.hid (fun W (hW : Below w.heap.size w W) => refPlace_any m W (hm.below hW))
  have HF := Lib.hid (fun a W (hW : Below w.heap.size w W) => Vw.refFind_any c a U W (hc.below (hW.mono hU)) (Nat.le_trans hU hW.size) hS)
  have HW := Lib.hid (fun W (hW : Below w.heap.size w W) => Vw.refWire_any c i U W (hc.below (hW.mono hU)) (Nat.le_trans hU hW.size) hS)
  have HB0 := Lib.hid hb0
  have HC0 := Lib.hid hc0
  have HM0 := Lib.hid hm0
  have HE0 := Lib.hid (@sub_no c.cf m.mm i)
  have HE1 := Lib.hid (fun a => @sub_at c.cf m.mm i a)
  have HE2 := Lib.hid (fun a => @sub_wire c.cf m.mm i a)
  generalize subnetM c.cf m.mm i = t at HE0 HE1 HE2 ⊢
  clear hc hU hS hm hb0 hc0 hm0
  cases hr : rightM m.mm with
  | false =>
    have HT := Lib.hid (HE0.out hr)
    rw [hr] at HR
    clear hr HE0 HE1 HE2 HP HF HW
    go_enter Tryz.func17, Tryz.ntmps17
    go_wp2_with fail
    rw [← hw0]
    clear hw0
    refine HR.out.mono ?_
    rintro e w1 ⟨rfl, hb1⟩
    go_wp2
    go_ret3
    rw [HT.out]
    exact ⟨rfl, HB0.out.trans (hb1.mono HB0.out.size)⟩
  | true =>
    obtain ⟨p, hp⟩ : ∃ p, placeM m.mm = p := ⟨_, rfl⟩
    rw [hp] at HP
    obtain ⟨a, is⟩ := p
    cases is with
    | true =>
      have HT := Lib.hid (HE1.out a hr hp)
      have HK := Lib.hid (HF.out a)
      generalize findC c.cf a = u at HT HK
      obtain ⟨u1, u2, u3⟩ := u
      rw [hr] at HR
      clear hr hp HE0 HE1 HE2 HF HW
      go_enter Tryz.func17, Tryz.ntmps17
      go_wp2_with fail
      rw [← hw0]
      clear hw0
      refine HR.out.mono ?_
      rintro e w1 ⟨rfl, hb1⟩
      have HB1 := Lib.hid (HB0.out.trans (hb1.mono HB0.out.size))
      obtain ⟨⟨m0, m1, m2, m3, m4, m5, m6⟩, m7, m8, m9, m10, m11, m12⟩ := celM_all (HM0.out.below hb1 HM0.out.lt)
      have HC1 := Lib.hid (HC0.out.below hb1 HC0.out.lt)
      clear hb1 HR
      go_wp2_with fail
      refine (HP.out w1 HB1.out).mono ?_
      rintro e w2 ⟨rfl, hb2⟩
      clear m0 m1 m2 m3 m4 m5 m6 m7 m8 m9 m10 m11 m12
      obtain ⟨x0, x1, x2⟩ := cel3C (HC1.out.below hb2 HC1.out.lt)
      have HB2 := Lib.hid (HB1.out.trans (hb2.mono HB1.out.size))
      clear hb2
      go_wp2_with fail
      refine (HK.out w2 HB2.out).mono ?_
      rintro e w3 ⟨rfl, hb3⟩
      go_wp2
      go_ret3
      rw [HT.out]
      exact ⟨rfl, HB2.out.trans (hb3.mono HB2.out.size)⟩
    | false =>
      have HT := Lib.hid (HE2.out a hr hp)
      generalize wireC c.cf i = u at HT HW
      obtain ⟨u1, u2, u3⟩ := u
      rw [hr] at HR
      clear hr hp HE0 HE1 HE2 HF
      go_enter Tryz.func17, Tryz.ntmps17
      go_wp2_with fail
      rw [← hw0]
      clear hw0
      refine HR.out.mono ?_
      rintro e w1 ⟨rfl, hb1⟩
      have HB1 := Lib.hid (HB0.out.trans (hb1.mono HB0.out.size))
      obtain ⟨⟨m0, m1, m2, m3, m4, m5, m6⟩, m7, m8, m9, m10, m11, m12⟩ := celM_all (HM0.out.below hb1 HM0.out.lt)
      have HC1 := Lib.hid (HC0.out.below hb1 HC0.out.lt)
      clear hb1 HR
      go_wp2_with fail
      refine (HP.out w1 HB1.out).mono ?_
      rintro e w2 ⟨rfl, hb2⟩
      clear m0 m1 m2 m3 m4 m5 m6 m7 m8 m9 m10 m11 m12
      obtain ⟨x0, x1, x2⟩ := cel3C (HC1.out.below hb2 HC1.out.lt)
      have HB2 := Lib.hid (HB1.out.trans (hb2.mono HB1.out.size))
      clear hb2
      go_wp2_with fail
      refine (HW.out w2 HB2.out).mono ?_
      rintro e w3 ⟨rfl, hb3⟩
      go_wp2
      go_ret3
      rw [HT.out]
      exact ⟨rfl, HB2.out.trans (hb3.mono HB2.out.size)⟩
end Go.Proofs.YtoldppbakapohaaGreatDoor.Pw
end
