/- What the program's Right and Find come to, and bytes.Clone. For all inputs. -/
import Derived.Test.YtmefnlgoejbgfaaTlPlace
import Derived.Lib.AppendZeros
import Derived.Lib.SliceRun
import Derived.Deep.RegionWith
namespace Go.Proofs.Ytmefnlgoejbgfaa.Tw
open Go.RowKit Tl By

set_option maxHeartbeats 400000 in
theorem clone_any (A : Option Addr) (n c : Nat) (l : List UInt8) (w : World) (h : Bs w A n c l) (hn : n ≤ 140737488355328) :
    Calls Try.prog 37 #[.slice A n c] w (RB 5 w n l fun x => x) := by
  have q : ∀ (w : World) (a : Option Addr) (n c n' c' : Nat), (binOp .eql 22 (.slice a n c) (.slice none n' c')).run Try.prog w = .ok (.bool a.isNone) w := fun w a n c n' c' => Lib.run_eql_slice_nil w _ _ a n c n' c' Try.underlying22
  have hl := Lib.hid h.len
  cases A with
  | none =>
    have h0 : n = 0 := by
      rcases Nat.eq_zero_or_pos n with h0 | h0
      · exact h0
      · obtain ⟨b, o, e, _⟩ := h.at_ h0
        cases e
    subst h0
    obtain rfl : l = [] := List.length_eq_zero_iff.1 hl.out
    clear hl
    go_enter Try.func37, Try.ntmps37
    go_wp2
    go_ret
    exact ⟨none, 0, rfl, Own.nil _ _ _, Below.refl _ _⟩
  | some a =>
    go_enter Try.func37, Try.ntmps37
    go_wp2_with (at_builtin; refine wpList_app byP rfl (.tmp 5) (.tmp 6) rfl rfl (Own.lit0 5 w) rfl (h.alloc _) (by omega) (by simp) ?_; intro A' c' w2 hown2 hb2 _ _)
    go_ret
    exact ⟨A', c', by simp, by simpa using hown2, ((Below.refl _ _).alloc (Nat.le_refl _) _).trans hb2⟩

/-- What the program's Find answers. -/
def FoundB (w : World) (r : Option (List UInt8)) (e : Ending) (w' : World) : Prop := ∃ A m c, e = .returned (.tuple #[.slice A m c, .bool r.isSome]) ∧ Bs w' A m c (r.getD []) ∧ Below w.heap.size w w'
set_option maxHeartbeats 400000 in
theorem find_any (A : Option Addr) (n c : Nat) (ps : List Po) (code : Int) (w : World) (h : RdO w A n c ps) (hsm : ∀ p ∈ ps, p.l.length ≤ 1000) :
    Calls Try.prog 34 #[.slice A n c, .int .i64 code] w (FoundB w (findL (osP ps) code)) := by
  have hl := Lib.hid h.len
  have hm := h.max
  have hcap := h.cap
  have HSM := Lib.hid hsm
  clear hsm
  by_cases hd : code ∈ codesL (osP ps)
  · obtain ⟨i, hi, hp, hcode, hno⟩ := place_mem hd
    have hin : i < n := by rw [os_len, hl.out] at hi; exact hi
    obtain ⟨b, o, co, A', m, c', l, rfl, _, _, _, HP0, HO, HM, _, _⟩ := h.at_ hin
    have HF : Hid (findL (osP ps) code = some l) := by
      obtain ⟨g1, g2⟩ := HO.out
      have := find_hit (c := code) hi hcode hno
      rw [g2] at this
      exact this
    have HPL := Lib.hid hp
    have hm1 : m ≤ 1000 := by
      have h1 := HSM.out _ (List.mem_of_getElem? HP0.out)
      have h2 := HM.out
      subst h2
      exact h1
    have HB : Hid (∀ W, Below w.heap.size w W → W.cell? ⟨b, o + i * 2 + 1, none⟩ = some (.slice A' m c') ∧ Bs W A' m c' l) := fun W hW => by
      obtain ⟨b2, o2, co2, A2, m2, c2, l2, e, h1, h2, h3, h4, h5, h6, _⟩ := (h.below hW).at_ hin
      cases e
      have h7 := h4.out.symm.trans HP0.out
      injection h7 with h7
      injection h7 with e1 e2 e3 e4
      subst e2; subst e3; subst e4
      have e5 := h6.out
      have e6 := HM.out
      rw [e5] at e6
      subst e6
      exact ⟨h2, h3⟩
    clear hp hcode hno hd hi HO
    go_enter Try.func34, Try.ntmps34
    go_wp2_with fail
    refine (place_any _ n c ps code _ h).mono ?_
    rw [HPL.out]
    rintro e w1 ⟨rfl, hb1⟩
    obtain ⟨hcell, hbs⟩ := HB.out w1 hb1
    go_wp2_with fail
    refine (clone_any A' m c' l _ hbs (by omega)).mono ?_
    rintro e w2 ⟨A3, c3, rfl, hown3, hb2⟩
    go_wp2
    go_ret2
    exact ⟨A3, m, c3, by rw [HF.out]; rfl, by rw [HF.out]; exact hown3.bs, hb1.trans (hb2.mono hb1.size)⟩
  · have HP := Lib.hid (place_none hd)
    have HF := Lib.hid (find_none hd)
    clear hd
    go_enter Try.func34, Try.ntmps34
    go_wp2_with fail
    refine (place_any _ n c ps code _ h).mono ?_
    rw [HP.out]
    rintro e w1 ⟨rfl, hb1⟩
    go_wp2
    go_ret2
    exact ⟨none, 0, 0, by rw [HF.out]; rfl, by rw [HF.out]; exact Bs.nil _, hb1⟩
end Go.Proofs.Ytmefnlgoejbgfaa.Tw
