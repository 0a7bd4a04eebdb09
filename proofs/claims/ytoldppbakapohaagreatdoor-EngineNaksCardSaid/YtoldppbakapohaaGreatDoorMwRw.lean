/- msg.decode, Read and Write, by contract. Condition: what msg's package-level variables hold (En.ok). -/
import Derived.Test.YtoldppbakapohaaGreatDoorMwC
import Derived.Test.YtoldppbakapohaaGreatDoorMwEnc
import Derived.Test.YtoldppbakapohaaGreatDoorMwA
import Derived.Deep.RegionWith
set_option maxRecDepth 8000
namespace Go.Proofs.YtoldppbakapohaaGreatDoor.Mw
open Go.RowKit Tl Ms Co By

/-- Bytes and a number. -/
def WrR (w : World) (x : Mv) (e : Ending) (w' : World) : Prop := Below w.heap.size w w' ∧
  ((rightM x.mm = false ∧ e = .returned (.tuple #[.slice none 0 0, .int .i64 1])) ∨ (rightM x.mm = true ∧ 1500 < (bodyM x.mm).length ∧ e = .returned (.tuple #[.slice none 0 0, .int .i64 3])) ∨
    (rightM x.mm = true ∧ ¬ 1500 < (bodyM x.mm).length ∧ ∃ A n c, e = .returned (.tuple #[.slice A n c, .int .i64 0]) ∧ Own 5 w.heap.size w' A n c (bytesM x.mm)))
set_option maxHeartbeats 1000000 in
theorem write_any (E : En) (x : Mv) (w : World) (hE : E.ok w) (h : x.ok w) : Calls Tryz.prog 203 #[x.v] w (WrR w x) := by
  have hb0 : Below w.heap.size w (w.alloc (.cells x.cells 29)) := (Below.refl _ _).alloc (Nat.le_refl _) _
  have HE0 := Lib.hid (hE.below hb0)
  have NI : Hid ((Er.flt strMessage (.sen E.I)).num E = 1) := num_I E
  have NL : Hid ((Er.flt strEncoding (.sen E.L)).num E = 3) := num_L hE
  have h0 := h.below hb0
  clear hE h
  cases hr : rightM x.mm with
  | false =>
    have HR := Lib.hid hr
    clear hr
    go_enter Tryz.func203, Tryz.ntmps203
    go_wp2_with fail
    refine (encode_no E x _ HE0.out h0 HR.out).mono ?_
    rintro e w1 ⟨rfl, hb1⟩
    have hbw1 := hb0.trans (hb1.mono hb0.size)
    have HE1 := Lib.hid (HE0.out.below hb1)
    obtain ⟨u, y, hy⟩ := (Er.flt strMessage (.sen E.I)).form
    rw [hy.out]
    go_wp2_with fail
    rw [← hy.out]
    refine (numberOf_any E (.flt strMessage (.sen E.I)) _ HE1.out (Or.inl rfl)).mono ?_
    rw [NI.out]
    rintro e w2 ⟨rfl, hb2⟩
    go_wp2
    go_ret2
    exact ⟨hbw1.trans (hb2.mono hbw1.size), .inl ⟨HR.out, rfl⟩⟩
  | true =>
    have HR := Lib.hid hr
    clear hr
    go_enter Tryz.func203, Tryz.ntmps203
    go_wp2_with fail
    refine (encode_yes E x _ HE0.out h0 HR.out).mono ?_
    rintro e w1 ⟨hb1, hJ⟩
    have hbw1 := hb0.trans (hb1.mono hb0.size)
    have HE1 := Lib.hid (HE0.out.below hb1)
    by_cases hfull : 1500 < (bodyM x.mm).length
    · rw [if_pos hfull] at hJ
      subst hJ
      have HF := Lib.hid hfull
      clear hfull
      obtain ⟨u, y, hy⟩ := (Er.flt strEncoding (.sen E.L)).form
      rw [hy.out]
      go_wp2_with fail
      rw [← hy.out]
      refine (numberOf_any E (.flt strEncoding (.sen E.L)) _ HE1.out (Or.inr (Or.inl rfl))).mono ?_
      rw [NL.out]
      rintro e w2 ⟨rfl, hb2⟩
      go_wp2
      go_ret2
      exact ⟨hbw1.trans (hb2.mono hbw1.size), .inr (.inl ⟨HR.out, HF.out, rfl⟩)⟩
    · rw [if_neg hfull] at hJ
      obtain ⟨A, n, c, rfl, hown⟩ := hJ
      have HF := Lib.hid hfull
      clear hfull
      go_wp2_with fail
      refine (numberOf_nil _).mono ?_
      rintro e w2 ⟨rfl, hb2⟩
      go_wp2
      go_ret2
      exact ⟨hbw1.trans (hb2.mono hbw1.size), .inr (.inr ⟨HR.out, HF.out, A, n, c, rfl, (hown.below hb2).mono hb0.size⟩)⟩
end Go.Proofs.YtoldppbakapohaaGreatDoor.Mw
