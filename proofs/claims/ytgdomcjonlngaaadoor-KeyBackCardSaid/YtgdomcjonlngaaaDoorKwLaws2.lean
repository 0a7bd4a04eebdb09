/- The walk of KeyBack: it returns true, and what was in memory stays. For all inputs, where the table of digits holds what the program's text lays. -/
import Derived.Test.YtgdomcjonlngaaaDoorKwLaws
set_option maxRecDepth 8000
namespace Go.Proofs.YtgdomcjonlngaaaDoor
open Go.RowKit Tl By Ky Kw

set_option maxHeartbeats 2000000 in
theorem keyBack_walk (k s : ByteArray) (w : World) (hw : Dig w) (hmk : k.size ≤ maxLen) (hms : s.size ≤ maxLen) : Calls Tryd.prog 6 #[.string k, .string s] w (isTrue w) := by
  unfold maxLen at hmk hms
  by_cases hk1 : 1000 < k.size
  · go_enter Tryd.func6, Tryd.ntmps6
    go_wp2_with fail
    refine (knows_yes _ hw).mono ?_
    rintro e w1 ⟨rfl, hb1⟩
    go_wp2
    go_ret
    exact ⟨rfl, hb1⟩
  by_cases hs1 : 1000 < s.size
  · go_enter Tryd.func6, Tryd.ntmps6
    go_wp2_with fail
    refine (knows_yes _ hw).mono ?_
    rintro e w1 ⟨rfl, hb1⟩
    go_wp2
    go_ret
    exact ⟨rfl, hb1⟩
  have HPS := Lib.hid (fun W (h : Dig W) => parse_any s W h (by omega))
  have HP2 : Hid (∀ x, parseK s.data.toList = some x → rightK x = true ∧ textK x = s.data.toList) := fun x hx => parse_iff.1 hx
  have HK := Lib.hid (fun W (h : Dig W) => knows_yes W h)
  cases hr : rightK k.data.toList with
  | false =>
    have HT := Lib.hid (text_no k w (by omega) hr)
    clear hr
    cases hp : parseK s.data.toList with
    | none =>
      rw [hp] at HPS
      clear hp
      go_enter Tryd.func6, Tryd.ntmps6
      go_wp2_with fail
      refine HT.out.mono ?_
      rintro e w1 ⟨rfl, rfl⟩
      go_wp2_with fail
      refine (HPS.out _ hw).mono ?_
      rintro e w2 ⟨q, rfl, hq, hb2⟩
      obtain rfl : q = ⟨#[]⟩ := arr_of hq
      clear hq
      go_wp2_with fail
      refine (HK.out _ (hw.below hb2)).mono ?_
      rintro e w3 ⟨rfl, hb3⟩
      go_wp2
      go_ret
      exact ⟨rfl, hb2.trans (hb3.mono hb2.size)⟩
    | some x =>
      obtain ⟨hx1, hx2⟩ := HP2.out x hp
      have HX1 := Lib.hid hx1
      have HX2 := Lib.hid hx2
      rw [hp] at HPS
      clear hp hx1 hx2
      go_enter Tryd.func6, Tryd.ntmps6
      go_wp2_with fail
      refine HT.out.mono ?_
      rintro e w1 ⟨rfl, rfl⟩
      go_wp2_with fail
      refine (HPS.out _ hw).mono ?_
      rintro e w2 ⟨q, rfl, hq, hb2⟩
      have hq' : q.data.toList = x := hq
      have HT2 := Lib.hid (text_yes q w2 (hw.below hb2) (by rw [hq']; exact HX1.out))
      rw [hq', HX2.out, show (⟨s.data.toList.toArray⟩ : ByteArray) = s from (arr_of rfl).symm] at HT2
      clear hq hq'
      go_wp2_with fail
      refine HT2.out.mono ?_
      rintro e w3 ⟨rfl, hb3⟩
      have hb03 := hb2.trans (hb3.mono hb2.size)
      go_wp2_with fail
      refine (HK.out _ (hw.below hb03)).mono ?_
      rintro e w4 ⟨rfl, hb4⟩
      go_wp2
      go_ret
      exact ⟨rfl, hb03.trans (hb4.mono hb03.size)⟩
  | true =>
    have HT := Lib.hid (text_yes k w hw hr)
    obtain ⟨t, ht⟩ : ∃ t : ByteArray, t = ⟨(textK k.data.toList).toArray⟩ := ⟨_, rfl⟩
    have htl : t.data.toList = textK k.data.toList := by rw [ht]
    have htz : t.size ≤ 9223372036854775807 := by have e1 := size_list t; have e2 := text_len hr; rw [htl] at e1; omega
    have HPT := Lib.hid (fun W (h : Dig W) => parse_any t W h htz)
    rw [htl, parse_iff.2 ⟨hr, rfl⟩] at HPT
    rw [← ht] at HT
    clear hr ht htl htz
    cases hp : parseK s.data.toList with
    | none =>
      rw [hp] at HPS
      clear hp
      go_enter Tryd.func6, Tryd.ntmps6
      go_wp2_with fail
      refine HT.out.mono ?_
      rintro e w1 ⟨rfl, hb1⟩
      go_wp2_with fail
      refine (HPT.out _ (hw.below hb1)).mono ?_
      rintro e w2 ⟨q, rfl, hq, hb2⟩
      obtain rfl : q = k := (arr_of hq).trans (arr_of rfl).symm
      have hb02 := hb1.trans (hb2.mono hb1.size)
      clear hq
      go_wp2_with fail
      refine (HPS.out _ (hw.below hb02)).mono ?_
      rintro e w3 ⟨p, rfl, hq, hb3⟩
      obtain rfl : p = ⟨#[]⟩ := arr_of hq
      have hb03 := hb02.trans (hb3.mono hb02.size)
      clear hq
      go_wp2_with fail
      refine (HK.out _ (hw.below hb03)).mono ?_
      rintro e w4 ⟨rfl, hb4⟩
      go_wp2
      go_ret
      exact ⟨rfl, hb03.trans (hb4.mono hb03.size)⟩
    | some x =>
      obtain ⟨hx1, hx2⟩ := HP2.out x hp
      have HX1 := Lib.hid hx1
      have HX2 := Lib.hid hx2
      rw [hp] at HPS
      clear hp hx1 hx2
      go_enter Tryd.func6, Tryd.ntmps6
      go_wp2_with fail
      refine HT.out.mono ?_
      rintro e w1 ⟨rfl, hb1⟩
      go_wp2_with fail
      refine (HPT.out _ (hw.below hb1)).mono ?_
      rintro e w2 ⟨q, rfl, hq, hb2⟩
      obtain rfl : q = k := (arr_of hq).trans (arr_of rfl).symm
      have hb02 := hb1.trans (hb2.mono hb1.size)
      clear hq
      go_wp2_with fail
      refine (HPS.out _ (hw.below hb02)).mono ?_
      rintro e w3 ⟨p, rfl, hq, hb3⟩
      have hb03 := hb02.trans (hb3.mono hb02.size)
      have hq' : p.data.toList = x := hq
      have HT2 := Lib.hid (text_yes p w3 (hw.below hb03) (by rw [hq']; exact HX1.out))
      rw [hq', HX2.out, show (⟨s.data.toList.toArray⟩ : ByteArray) = s from (arr_of rfl).symm] at HT2
      clear hq hq'
      go_wp2_with fail
      refine HT2.out.mono ?_
      rintro e w4 ⟨rfl, hb4⟩
      have hb04 := hb03.trans (hb4.mono hb03.size)
      go_wp2_with fail
      refine (HK.out _ (hw.below hb04)).mono ?_
      rintro e w5 ⟨rfl, hb5⟩
      go_wp2
      go_ret
      exact ⟨rfl, hb04.trans (hb5.mono hb04.size)⟩
end Go.Proofs.YtgdomcjonlngaaaDoor
