/- What key.Parse and the document's own Parse come to. Conditions: that the table of digits holds what the program's text lays; for the document's, a text of 1000 bytes at most. -/
import Derived.Test.YtgdomcjonlngaaaDoorKwParse
set_option maxRecDepth 8000
namespace Go.Proofs.YtgdomcjonlngaaaDoor.Kw
open Go.RowKit Tl By Ky

theorem parse_bytes (x : UInt8) (r : List UInt8) : parseK (x :: 45 :: r) = (shortH r).bind fun t => if rightK (x :: t) = true then some (x :: t) else none := by
  unfold shortH
  split
  · rw [parseK, if_pos rfl]
  · rw [parse_long (by rw [List.length_cons, List.length_cons]; omega)]
    rfl
theorem parse_hyphen {x y : UInt8} {r : List UInt8} (h : y ≠ 45) : parseK (x :: y :: r) = none := by rw [parseK, if_neg h]
/-- What Parse answers. -/
def PaR (w : World) (R : Option (List UInt8)) (en : Ending) (w' : World) : Prop := ∃ q : ByteArray, en = .returned (.tuple #[.string q, .int .i64 (if R.isSome then 0 else 2)]) ∧ q.data.toList = R.getD [] ∧ Below w.heap.size w w'
theorem PaR.no {w w' : World} {R : Option (List UInt8)} (h : R = none) (hb : Below w.heap.size w w') : PaR w R (.returned (.tuple #[.string ⟨#[]⟩, .int .i64 2])) w' := ⟨_, by rw [h]; rfl, by rw [h]; rfl, hb⟩
theorem PaR.yes {w w' : World} {R : Option (List UInt8)} {t : List UInt8} {q : ByteArray} (h : R = some t) (hq : q.data.toList = t) (hb : Below w.heap.size w w') : PaR w R (.returned (.tuple #[.string q, .int .i64 0])) w' := ⟨q, by rw [h]; rfl, by rw [h]; exact hq, hb⟩

set_option maxHeartbeats 1000000 in
theorem parse_any (s : ByteArray) (w : World) (hw : Dig w) (hs : s.size ≤ 9223372036854775807) :
    Calls Tryd.prog 17 #[.string s] w (PaR w (parseK s.data.toList)) := by
  have hz := size_list s
  by_cases h2 : (s.size : Int) < 2
  · have H : Hid (parseK s.data.toList = none) := parse_short (by omega)
    clear hz
    go_enter Tryd.func17, Tryd.ntmps17
    go_wp2
    go_ret2
    exact PaR.no H.out (Below.refl _ _)
  have h0 : 0 < s.size := by omega
  have h1 : 1 < s.size := by omega
  have HL : Hid (s.data.toList = s[0] :: s[1] :: s.data.toList.drop 2) := by
    show _ = _
    have e := drop_at s 0 h0
    rw [List.drop_zero, drop_at s (0 + 1) h1] at e
    exact e
  generalize hx0 : s[0]'h0 = x at HL
  generalize hx1 : s[1]'h1 = y at HL
  by_cases h45 : y = 45
  rotate_left
  · have H : Hid (parseK s.data.toList = none) := by show _ = _; rw [HL.out]; exact parse_hyphen h45
    have b45 : ((y.toNat : Int) == 45) = false := by
      rw [beq_eq_false_iff_ne]
      intro e
      exact h45 (byte_eq (n := 45) e (by omega))
    clear hz h45
    go_enter Tryd.func17, Tryd.ntmps17
    go_wp2
    go_ret2
    exact PaR.no H.out (Below.refl _ _)
  subst h45
  obtain ⟨t, ht⟩ : ∃ t, t = s.extract 2 s.size := ⟨_, rfl⟩
  have htz : t.size ≤ 9223372036854775807 := by rw [ht]; simp; omega
  have HP : Hid (parseK s.data.toList = (shortH t.data.toList).bind fun r => if rightK (x :: r) = true then some (x :: r) else none) := by
    show _ = _
    rw [HL.out, ht, extract_list]
    exact parse_bytes _ _
  have HB := Lib.hid (parseBytes_any t w hw htz)
  cases hR : shortH t.data.toList with
  | none =>
    have H : Hid (parseK s.data.toList = none) := by show _ = _; rw [HP.out, hR]; rfl
    rw [hR] at HB
    rw [ht] at HB
    clear hz hR HP ht htz
    go_enter Tryd.func17, Tryd.ntmps17
    go_wp2_with fail
    refine HB.out.mono ?_
    rintro e w1 ⟨A1, n1, c1, rfl, hbs1, hb1⟩
    go_wp2
    go_ret2
    exact PaR.no H.out hb1
  | some r =>
    have hrl : r.length ≤ 1000 := by
      unfold shortH at hR
      split at hR
      · have := unhex_len hR; omega
      · cases hR
    have HR := Lib.hid hR
    rw [hR] at HB
    rw [ht] at HB
    obtain ⟨q, hq⟩ : ∃ q : ByteArray, q = ⟨(x :: r).toArray⟩ := ⟨_, rfl⟩
    have HQ : Hid (q.data.toList = x :: r) := by show _ = _; rw [hq]
    have hqz : q.size ≤ 9223372036854775807 := by have := size_list q; rw [HQ.out, List.length_cons] at this; omega
    have HH : Hid (parseK s.data.toList = if rightK (x :: r) = true then some (x :: r) else none) := by show _ = _; rw [HP.out, HR.out]; rfl
    have HG := Lib.hid (fun W => right_any q W hqz)
    rw [HQ.out] at HG
    have HW := Lib.hid (fun A n c W (h : Bs W A n c r) => withLetter_any x A n c r W h (by have := h.len; omega))
    rw [← hq] at HW
    clear hz hR HP ht htz hqz hq
    cases hk : rightK (x :: r) with
    | false =>
      have H : Hid (parseK s.data.toList = none) := by show _ = _; rw [HH.out, hk]; rfl
      rw [hk] at HG
      clear hk
      go_enter Tryd.func17, Tryd.ntmps17
      go_wp2_with fail
      refine HB.out.mono ?_
      rintro e w1 ⟨A1, n1, c1, rfl, hbs1, hb1⟩
      go_wp2_with fail
      refine (HW.out _ _ _ _ hbs1).mono ?_
      rintro e w2 ⟨rfl, hb2⟩
      have hb02 := hb1.trans (hb2.mono hb1.size)
      go_wp2_with fail
      refine (HG.out _).mono ?_
      rintro e w3 ⟨rfl, rfl⟩
      go_wp2
      go_ret2
      exact PaR.no H.out hb02
    | true =>
      have H : Hid (parseK s.data.toList = some (x :: r)) := by show _ = _; rw [HH.out, hk]; rfl
      rw [hk] at HG
      clear hk
      go_enter Tryd.func17, Tryd.ntmps17
      go_wp2_with fail
      refine HB.out.mono ?_
      rintro e w1 ⟨A1, n1, c1, rfl, hbs1, hb1⟩
      go_wp2_with fail
      refine (HW.out _ _ _ _ hbs1).mono ?_
      rintro e w2 ⟨rfl, hb2⟩
      have hb02 := hb1.trans (hb2.mono hb1.size)
      go_wp2_with fail
      refine (HG.out _).mono ?_
      rintro e w3 ⟨rfl, rfl⟩
      go_wp2
      go_ret2
      exact PaR.yes H.out HQ.out hb02
end Go.Proofs.YtgdomcjonlngaaaDoor.Kw
