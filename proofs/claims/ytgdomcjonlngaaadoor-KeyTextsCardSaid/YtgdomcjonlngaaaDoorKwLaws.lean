/- The walks of KeyTexts, KeyParses and KeyBack: each returns true, and what was in memory stays. For all inputs, where the table of digits holds what the program's text lays. -/
import Derived.Test.YtgdomcjonlngaaaDoorKwKnows
import Derived.Test.YtgdomcjonlngaaaDoorKwRef
set_option maxRecDepth 8000
namespace Go.Proofs.YtgdomcjonlngaaaDoor
open Go.RowKit Tl By Ky Kw

theorem arr_of {q : ByteArray} {l : List UInt8} (h : q.data.toList = l) : q = ⟨l.toArray⟩ := by
  obtain ⟨⟨ql⟩⟩ := q
  have h' : ql = l := h
  rw [h']

set_option maxHeartbeats 1000000 in
theorem keyTexts_walk (s : ByteArray) (w : World) (hw : Dig w) (hm : s.size ≤ maxLen) : Calls Tryd.prog 4 #[.string s] w (isTrue w) := by
  unfold maxLen at hm
  by_cases hs : 1000 < s.size
  · go_enter Tryd.func4, Tryd.ntmps4
    go_wp2_with fail
    refine (knows_yes _ hw).mono ?_
    rintro e w1 ⟨rfl, hb1⟩
    go_wp2
    go_ret
    exact ⟨rfl, hb1⟩
  have hs9 : s.size ≤ 9223372036854775807 := by omega
  cases hr : rightK s.data.toList with
  | false =>
    have HT := Lib.hid (text_no s w hs9 hr)
    have HG := Lib.hid (fun W => right_any s W hs9)
    have HF := Lib.hid (fun W => refRight_any s W hs9)
    rw [hr] at HG HF
    clear hr
    go_enter Tryd.func4, Tryd.ntmps4
    go_wp2_with fail
    refine HT.out.mono ?_
    rintro e w1 ⟨rfl, rfl⟩
    go_wp2_with fail
    refine (HG.out _).mono ?_
    rintro e w1 ⟨rfl, rfl⟩
    go_wp2_with fail
    refine (HF.out _).mono ?_
    rintro e w1 ⟨rfl, rfl⟩
    go_wp2_with fail
    refine (HF.out _).mono ?_
    rintro e w1 ⟨rfl, rfl⟩
    go_wp2_with fail
    refine (knows_yes _ hw).mono ?_
    rintro e w1 ⟨rfl, hb1⟩
    go_wp2
    go_ret
    exact ⟨rfl, hb1⟩
  | true =>
    have HT := Lib.hid (text_yes s w hw hr)
    have HX := Lib.hid (fun W => refText_any s W hr)
    have HG := Lib.hid (fun W => right_any s W hs9)
    have HF := Lib.hid (fun W => refRight_any s W hs9)
    rw [hr] at HG HF
    clear hr
    obtain ⟨q, hq⟩ : ∃ q : ByteArray, q = ⟨(textK s.data.toList).toArray⟩ := ⟨_, rfl⟩
    rw [← hq] at HT HX
    clear hq
    go_enter Tryd.func4, Tryd.ntmps4
    go_wp2_with fail
    refine HT.out.mono ?_
    rintro e w1 ⟨rfl, hb1⟩
    go_wp2_with fail
    refine (HG.out _).mono ?_
    rintro e w2 ⟨rfl, rfl⟩
    go_wp2_with fail
    refine (HF.out _).mono ?_
    rintro e w2 ⟨rfl, rfl⟩
    go_wp2_with fail
    refine (HF.out _).mono ?_
    rintro e w2 ⟨rfl, rfl⟩
    go_wp2_with fail
    refine (HX.out _).mono ?_
    rintro e w2 ⟨rfl, hb2⟩
    have hb02 := hb1.trans (hb2.mono hb1.size)
    go_wp2_with fail
    refine (knows_yes _ (hw.below hb02)).mono ?_
    rintro e w3 ⟨rfl, hb3⟩
    go_wp2
    go_ret
    exact ⟨rfl, hb02.trans (hb3.mono hb02.size)⟩

set_option maxHeartbeats 1000000 in
theorem keyParses_walk (s : ByteArray) (w : World) (hw : Dig w) (hm : s.size ≤ maxLen) : Calls Tryd.prog 5 #[.string s] w (isTrue w) := by
  unfold maxLen at hm
  by_cases hs : 1000 < s.size
  · go_enter Tryd.func5, Tryd.ntmps5
    go_wp2_with fail
    refine (knows_yes _ hw).mono ?_
    rintro e w1 ⟨rfl, hb1⟩
    go_wp2
    go_ret
    exact ⟨rfl, hb1⟩
  have HP := Lib.hid (parse_any s w hw (by omega))
  have HF := Lib.hid (fun W => refParse_any s W (by omega))
  cases hp : parseK s.data.toList with
  | none =>
    rw [hp] at HP HF
    clear hp
    go_enter Tryd.func5, Tryd.ntmps5
    go_wp2_with fail
    refine HP.out.mono ?_
    rintro e w1 ⟨q, rfl, hq, hb1⟩
    go_wp2_with fail
    refine (HF.out _).mono ?_
    rintro e w2 ⟨p, rfl, hp, hb2⟩
    obtain rfl : p = q := (arr_of hp).trans (arr_of hq).symm
    have hb02 := hb1.trans (hb2.mono hb1.size)
    clear hp hq
    go_wp2_with fail
    refine (knows_yes _ (hw.below hb02)).mono ?_
    rintro e w3 ⟨rfl, hb3⟩
    go_wp2
    go_ret
    exact ⟨rfl, hb02.trans (hb3.mono hb02.size)⟩
  | some k =>
    rw [hp] at HP HF
    clear hp
    go_enter Tryd.func5, Tryd.ntmps5
    go_wp2_with fail
    refine HP.out.mono ?_
    rintro e w1 ⟨q, rfl, hq, hb1⟩
    go_wp2_with fail
    refine (HF.out _).mono ?_
    rintro e w2 ⟨p, rfl, hp, hb2⟩
    obtain rfl : p = q := (arr_of hp).trans (arr_of hq).symm
    have hb02 := hb1.trans (hb2.mono hb1.size)
    clear hp hq
    go_wp2_with fail
    refine (knows_yes _ (hw.below hb02)).mono ?_
    rintro e w3 ⟨rfl, hb3⟩
    go_wp2
    go_ret
    exact ⟨rfl, hb02.trans (hb3.mono hb02.size)⟩
end Go.Proofs.YtgdomcjonlngaaaDoor
