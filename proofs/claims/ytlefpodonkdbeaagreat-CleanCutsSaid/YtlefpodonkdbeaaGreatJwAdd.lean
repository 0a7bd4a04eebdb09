/- What journal's Add comes to: the changes by which a lease is kept. For all disks whose names fit and all leases whose keys fit. -/
import Derived.Test.YtlefpodonkdbeaaGreatJwRead
import Derived.Test.YtlefpodonkdbeaaGreatJwLasts
import Derived.Test.YtlefpodonkdbeaaGreatCoA
set_option maxRecDepth 8000
namespace Go.Proofs.YtlefpodonkdbeaaGreat.Jw
open Go.RowKit Co By Ky Rc Dk Jn Ew
open Dw (ba ba_size ba_data ba_list Dv RdD Sm)

/-- A call that answers changes and an error. -/
def AdR (w : World) (p : List Ch × Int) (e : Ending) (w' : World) : Prop := ∃ A n c xs, e = .returned (.tuple #[.slice A n c, .int .i64 p.2]) ∧ RdC w'.heap.size w' A n c xs ∧ xs.map Cv.ch = p.1 ∧ Below w.heap.size w w'
def c1V (F : Option Addr) (cF : Nat) (fb : List UInt8) : Cv := ⟨1, nJ, [], F, cF, fb⟩
def c2V : Cv := ⟨2, nJ, [], none, 0, []⟩
def c5V : Cv := ⟨5, [], [], none, 0, []⟩
theorem lit2C (w : World) (F : Option Addr) (m cF : Nat) (fb : List UInt8) (hm : fb.length = m) :
    OwnG layC 75 w.heap.size (w.alloc (.cells #[.int .i64 1, .string ⟨#[106]⟩, .string ⟨#[]⟩, .slice F m cF, .int .i64 2, .string ⟨#[106]⟩, .string ⟨#[]⟩, .slice none 0 0] 75)) (some ⟨w.heap.size, 0, none⟩) 2 2 [c1V F cF fb, c2V] := by
  subst hm
  exact OwnG.lit (Y := layC) 75 w [c1V F cF fb, c2V] (by simp)
theorem lit1C (w : World) : RdG layC (w.heap.size + 1) (w.alloc (.cells #[.int .i64 5, .string ⟨#[]⟩, .string ⟨#[]⟩, .slice none 0 0] 75)) (some ⟨w.heap.size, 0, none⟩) 1 1 [c5V] := by
  have := (OwnG.lit (Y := layC) 75 w [c5V] (by simp)).rd
  have e : (w.alloc (.cells (layC.cells [c5V]).toArray 75)).heap.size = w.heap.size + 1 := by simp
  rw [e] at this
  exact this
theorem ok1 {U : Nat} {w : World} {F : Option Addr} {cF : Nat} {fb : List UInt8} (h : BsU U w F fb.length cF fb) (hl : fb.length ≤ 1000000) : OkC U w (c1V F cF fb) := ⟨h, by show 1 ≤ _; omega, Nat.zero_le _, hl⟩
theorem ok2 (U : Nat) (w : World) : OkC U w c2V := ⟨BsU.nil U w, by show 1 ≤ _; omega, Nat.zero_le _, Nat.zero_le _⟩
theorem ok5 (U : Nat) (w : World) : OkC U w c5V := ⟨BsU.nil U w, Nat.zero_le _, Nat.zero_le _, Nat.zero_le _⟩
theorem add_wrong (d : D) {l : L} (h : ¬ RightR l) : addJ d l = ([], 1) := if_neg h
theorem add_torn {d : D} {l : L} (h : RightR l) (h4 : (readD d).2.2 = 4) : addJ d l = ([], 7) := by unfold addJ; rw [if_pos h, if_pos h4]
theorem add_bad {d : D} {l : L} (h : RightR l) (h4 : ¬ (readD d).2.2 = 4) (h0 : (readD d).2.2 ≠ 0) : addJ d l = ([], (readD d).2.2) := by unfold addJ; rw [if_pos h, if_neg h4, if_pos h0]
theorem add_ok {d : D} {l : L} (h : RightR l) (h0 : (readD d).2.2 = 0) : addJ d l = ([frameC l, syncC] ++ (if loseJ (goodD d) then [dirC] else []), 0) := by
  unfold addJ
  rw [if_pos h, if_neg (by rw [h0]; decide), if_neg (fun k => k h0)]

set_option maxHeartbeats 4000000 in
theorem addJ_any (x : Dv) (l : L) (w : World) (h : RdD w.heap.size w x) (hsm : Sm x.d) (hk : Fk l) : Calls Tryz.prog 29 #[x.v, lv l] w (AdR w (addJ x.d l)) := by
  obtain ⟨w1, hw1⟩ : ∃ w1, w1 = (w.alloc (.cells x.cs 30)).alloc (.cells (lcs l) 56) := ⟨_, rfl⟩
  have hb1 : Below w.heap.size w w1 := by rw [hw1]; exact ((Below.refl _ _).alloc (Nat.le_refl _) _).alloc (by simp) _
  have HC0 := Lib.hid (show Cel w1 w.heap.size 30 x.cs by rw [hw1]; exact (Cel.born w _ _).below ((Below.refl _ _).alloc (Nat.le_refl _) _) (by simp))
  have HX := Lib.hid ((h.below hb1).mono hb1.size)
  have HB1 := Lib.hid hb1
  have HSM := Lib.hid hsm
  have HW := Lib.hid (write_any l w1 hk)
  by_cases hr : RightR l
  rotate_left
  · have HA := Lib.hid (add_wrong x.d hr)
    have hw : writeR l = ([], 1) := if_neg hr
    rw [hw] at HW
    clear h hb1 hsm hr hw
    go_enter Tryz.func29, Tryz.ntmps29
    go_wp2_with fail
    rw [← hw1]
    clear hw1
    refine HW.out.mono ?_
    rintro e w2 ⟨A, n, c, rfl, _, hb2⟩
    have HB2 := Lib.hid (HB1.out.trans (hb2.mono HB1.out.size))
    clear hb2
    go_wp2
    go_ret2
    exact ⟨none, 0, 0, [], by rw [HA.out]; rfl, RdC.nil _ _, by rw [HA.out]; rfl, HB2.out⟩
  · have HRR := Lib.hid hr
    have hw : writeR l = (encR l, 0) := if_pos hr
    have HE := Lib.hid (key_len hr).1
    rw [hw] at HW
    generalize hen : encR l = en at HW HE
    have HEN := Lib.hid hen
    clear h hb1 hsm hr hw hen
    go_enter Tryz.func29, Tryz.ntmps29
    go_wp2_with fail
    rw [← hw1]
    clear hw1
    refine HW.out.mono ?_
    rintro e w2 ⟨A, n, c, rfl, hown2, hb2⟩
    have HB2 := Lib.hid (HB1.out.trans (hb2.mono HB1.out.size))
    have HO2 := Lib.hid hown2.bs
    have hc2 := HC0.out.below hb2 HC0.out.lt
    have HX2 := Lib.hid ((HX.out.below hb2).mono hb2.size)
    have HRD := Lib.hid (readJ_any x w2 HX2.out HSM.out)
    obtain ⟨q0, q1, q2⟩ := Dw.cel3 hc2
    have HC2 := Lib.hid hc2
    clear hown2 hb2 hc2 HW HX HC0
    go_wp2_with fail
    refine HRD.out.mono ?_
    rintro e w3 ⟨A3, n3, c3, rfl, _, hb3⟩
    have HB3 := Lib.hid (HB2.out.trans (hb3.mono HB2.out.size))
    have HC3 := Lib.hid (HC2.out.below hb3 HC2.out.lt)
    have HX3 := Lib.hid ((HX2.out.below hb3).mono hb3.size)
    have HO3 := Lib.hid (HO2.out.below hb3)
    have HA4 := Lib.hid (fun k => add_torn (d := x.d) HRR.out k)
    have HAB := Lib.hid (fun k1 k2 => add_bad (d := x.d) HRR.out k1 k2)
    have HA0 := Lib.hid (fun k => add_ok (d := x.d) HRR.out k)
    clear hb3 q0 q1 q2 HC2 HX2 HO2
    clear HRD
    generalize (readD x.d).2.2 = er at HA4 HAB HA0 ⊢
    by_cases h4 : er = 4
    · have HA := Lib.hid (HA4.out h4)
      clear HA4 HAB HA0
      subst h4
      go_wp2
      go_ret2
      exact ⟨none, 0, 0, [], by rw [HA.out]; rfl, RdC.nil _ _, by rw [HA.out]; rfl, HB3.out⟩
    by_cases h0 : er = 0
    rotate_left
    · have HA := Lib.hid (HAB.out h4 h0)
      have b4 : (er == 4) = false := by simpa using h4
      have b0 : (er != 0) = true := by simpa using h0
      clear HA4 HAB HA0 h4 h0
      go_wp2
      go_ret2
      exact ⟨none, 0, 0, [], by rw [HA.out]; rfl, RdC.nil _ _, by rw [HA.out]; rfl, HB3.out⟩
    · have HA := Lib.hid (HA0.out h0)
      subst h0
      have hn : n ≤ 2000 := by have := HO3.out.len; have := HE.out; omega
      have HF := Lib.hid (Cw.frame_ok A n c en w3 HO3.out hn)
      obtain ⟨fb, hfb⟩ : ∃ fb, fb = frameL en := ⟨_, rfl⟩
      have hfl : fb.length = n + 6 := by rw [hfb, frameL_length]; have := HO3.out.len; omega
      have HFC : Hid ((c1V none 0 fb).ch = frameC l) := by show Ch.mk 1 nJ [] fb = Ch.mk 1 nJ [] (frameL (encR l)); rw [hfb, HEN.out]
      rw [← hfb] at HF
      have HFL := Lib.hid hfl
      clear HA4 HAB HA0 h4 hfb hfl HEN HE
      go_wp2_with fail
      refine HF.out.mono ?_
      rintro e w4 ⟨F, cF, rfl, hown4, hb4⟩
      have hbU4 : BsU w4.heap.size w4 F (n + 6) cF fb := hown4.bs.upto
      have hlit := lit2C w4 F (n + 6) cF fb HFL.out
      obtain ⟨w5, hw5⟩ : ∃ w5, w5 = w4.alloc (.cells #[.int .i64 1, .string ⟨#[106]⟩, .string ⟨#[]⟩, .slice F (n + 6) cF, .int .i64 2, .string ⟨#[106]⟩, .string ⟨#[]⟩, .slice none 0 0] 75) := ⟨_, rfl⟩
      rw [← hw5] at hlit
      have hb5 : Below w4.heap.size w4 w5 := by rw [hw5]; exact (Below.refl _ _).alloc (Nat.le_refl _) _
      have hb35 := hb4.trans (hb5.mono hb4.size)
      have HB5 := Lib.hid (HB3.out.trans (hb35.mono HB3.out.size))
      have hsw4 := Nat.le_trans HB3.out.size hb4.size
      have HC5 := HC3.out.below hb35 HC3.out.lt
      have HX5 := (HX3.out.below hb35).mono hb35.size
      have HOK := Lib.hid (ok1 (F := F) (cF := cF) (fb := fb) (by rw [HFL.out]; exact hbU4) (by rw [HFL.out]; omega))
      have HLA := Lib.hid (lasts_any x w5 HX5 HSM.out)
      have HLIT := Lib.hid hlit
      have HB45 := Lib.hid hb5
      obtain ⟨q0, q1, q2⟩ := Dw.cel3 HC5
      rw [hw5] at q0 q1 q2
      clear hown4 hb4 hbU4 hlit hb5 hb35 HC5 HX5 HF
      cases hlo : loseJ (goodD x.d) with
      | false =>
        have HA2 : Hid (addJ x.d l = ([frameC l, syncC], 0)) := by show _ = _; rw [HA.out, hlo]; rfl
        rw [hlo] at HLA
        clear HA hlo
        go_wp2_with fail
        rw [← hw5]
        clear hw5 q0 q1 q2
        refine HLA.out.mono ?_
        rintro e w6 ⟨rfl, hb6⟩
        go_wp2
        go_ret2
        have hb46 := HB45.out.trans (hb6.mono HB45.out.size)
        exact ⟨_, _, _, [c1V F cF fb, c2V], by rw [HA2.out]; rfl, ⟨(HLIT.out.below hb6).rd, fun y hy => by
          rcases List.mem_cons.1 hy with rfl | hy
          · exact (HOK.out.below hb46).mono hb46.size
          · rcases List.mem_cons.1 hy with rfl | hy
            · exact ok2 _ _
            · cases hy⟩, by rw [HA2.out]; exact congrArg (fun z => [z, c2V.ch]) HFC.out, HB5.out.trans (hb6.mono HB5.out.size)⟩
      | true =>
        have HA2 : Hid (addJ x.d l = ([frameC l, syncC, dirC], 0)) := by show _ = _; rw [HA.out, hlo]; rfl
        rw [hlo] at HLA
        clear HA hlo
        go_wp2_with fail
        rw [← hw5]
        clear hw5 q0 q1 q2
        refine HLA.out.mono ?_
        rintro e w6 ⟨rfl, hb6⟩
        have hl6 := HLIT.out.below hb6
        have hba : Below w6.heap.size w6 (w6.alloc (.cells #[.int .i64 5, .string ⟨#[]⟩, .string ⟨#[]⟩, .slice none 0 0] 75)) := (Below.refl _ _).alloc (Nat.le_refl _) _
        have hl5 := lit1C w6
        have hs56 := Nat.le_trans HB45.out.size hb6.size
        go_wp2_with (at_builtin; refine wpList_appG chP (by decide) (by decide) (by kernel_rfl) rfl (.tmp 42) (.tmp 44) rfl rfl (hl6.below hba) rfl hl5 (by omega) (by simp; omega) ?_; intro A7 c7 w7 happ)
        have hb46 := HB45.out.trans (hb6.mono HB45.out.size)
        have hb47 := (hb46.trans (hba.mono hb46.size)).trans happ.2.1
        have hb57 : Below w.heap.size w5 w7 := by
          have h1 := (hb6.trans (hba.mono hb6.size)).mono (B' := w.heap.size) HB5.out.size
          have h2 := happ.2.1.mono (B' := w.heap.size) hsw4
          exact h1.trans h2
        go_wp2
        go_ret2
        exact ⟨_, _, _, [c1V F cF fb, c2V, c5V], by rw [HA2.out]; rfl, ⟨happ.1.rd, fun y hy => by
          rcases List.mem_cons.1 hy with rfl | hy
          · exact (HOK.out.below hb47).mono hb47.size
          · rcases List.mem_cons.1 hy with rfl | hy
            · exact ok2 _ _
            · rcases List.mem_cons.1 hy with rfl | hy
              · exact ok5 _ _
              · cases hy⟩, by rw [HA2.out]; exact congrArg (fun z => [z, c2V.ch, c5V.ch]) HFC.out, HB5.out.trans hb57⟩
end Go.Proofs.YtlefpodonkdbeaaGreat.Jw
