/- The rows of the document's examples of layer 7 answer yes. Conditions: that the table of digits holds what the program's text lays. -/
import Derived.Test.YtgdomcjonlngaaaDoorKwOf
import Derived.Test.YtgdomcjonlngaaaDoorKwParse2
set_option maxRecDepth 8000
namespace Go.Proofs.YtgdomcjonlngaaaDoor.Kw
open Go.RowKit Tl Ms By Ky

/-- The message of the example, its hardware address at the block g. -/
def exV (g : Nat) : Mv := ⟨0, 1, 6, 0, 0, 0, 0, 0, 0, 0, 0, some ⟨g, 0, none⟩, 16, 16, [2, 0, 0, 0, 0, 7, 0, 0, 0, 0, 0, 0, 0, 0, 0, 0], none, 0, 0, []⟩
set_option maxHeartbeats 1600000 in
theorem knows_yes (w : World) (hw : Dig w) : Calls Tryd.prog 9 #[] w fun e w' => e = .returned (.bool true) ∧ Below w.heap.size w w' := by
  obtain ⟨wa, hwa⟩ : ∃ wa, wa = w.alloc (.cells #[.int .u8 2, .int .u8 0, .int .u8 0, .int .u8 0, .int .u8 0, .int .u8 7, .int .u8 0, .int .u8 0, .int .u8 0, .int .u8 0, .int .u8 0, .int .u8 0, .int .u8 0, .int .u8 0, .int .u8 0, .int .u8 0] 5) := ⟨_, rfl⟩
  have hbs : Bs wa (some ⟨w.heap.size, 0, none⟩) 16 16 [2, 0, 0, 0, 0, 7, 0, 0, 0, 0, 0, 0, 0, 0, 0, 0] := by rw [hwa]; exact Bs.const w 5 (0, 0) [2, 0, 0, 0, 0, 7, 0, 0, 0, 0, 0, 0, 0, 0, 0, 0] (by decide)
  have hba : Below w.heap.size w wa := by rw [hwa]; exact (Below.refl _ _).alloc (Nat.le_refl _) _
  have hok : (exV w.heap.size).ok wa := ⟨hbs, RdO.nil wa⟩
  have HO := Lib.hid (of_any (exV w.heap.size) wa hok)
  have H1 : Hid (ofK (exV w.heap.size).mm = ([104, 1, 2, 0, 0, 0, 0, 7], 0)) := by show ofK (exV 0).mm = _; decide +kernel
  have H2 := Lib.hid (show rightK [104, 1, 2, 0, 0, 0, 0, 7] = true by decide +kernel)
  have H3 := Lib.hid (show textK [104, 1, 2, 0, 0, 0, 0, 7] = [104, 45, 48, 49, 48, 50, 48, 48, 48, 48, 48, 48, 48, 48, 48, 55] by decide +kernel)
  have H4 : Hid (parseK [104, 45, 48, 49, 48, 50, 48, 48, 48, 48, 48, 48, 48, 48, 48, 55] = some [104, 1, 2, 0, 0, 0, 0, 7]) := by show _ = _; decide +kernel
  rw [H1.out] at HO
  rw [hwa] at HO
  have hwd := hw.below hba
  clear hbs hok
  go_enter Tryd.func9, Tryd.ntmps9
  go_wp2_with fail
  refine HO.out.mono ?_
  rw [← hwa]
  rintro e w1 ⟨q, rfl, hq, hb1⟩
  have hq' : q.data.toList = [104, 1, 2, 0, 0, 0, 0, 7] := hq
  have HT := Lib.hid (text_yes q w1 (hwd.below hb1) (by rw [hq']; exact H2.out))
  rw [hq', H3.out] at HT
  have hqz : q.size ≤ 9223372036854775807 := by have := size_list q; rw [hq'] at this; simp at this; omega
  have HG := Lib.hid (fun W => right_any q W hqz)
  rw [hq', H2.out] at HG
  have hw1 := hwd.below hb1
  have hb01 := hba.trans (hb1.mono hba.size)
  have HQ := Lib.hid hq'
  clear hq hq' HO
  go_wp2_with fail
  refine HT.out.mono ?_
  rintro e w2 ⟨rfl, hb2⟩
  have hb02 := hb01.trans (hb2.mono hb01.size)
  have HP := Lib.hid (parse_any ⟨#[104, 45, 48, 49, 48, 50, 48, 48, 48, 48, 48, 48, 48, 48, 48, 55]⟩ w2 (hw1.below hb2) (by decide))
  rw [show (⟨#[104, 45, 48, 49, 48, 50, 48, 48, 48, 48, 48, 48, 48, 48, 48, 55]⟩ : ByteArray).data.toList = [104, 45, 48, 49, 48, 50, 48, 48, 48, 48, 48, 48, 48, 48, 48, 55] from rfl, H4.out] at HP
  go_wp2_with fail
  refine HP.out.mono ?_
  rintro e w3 ⟨p, rfl, hp, hb3⟩
  have hb03 := hb02.trans (hb3.mono hb02.size)
  obtain rfl : p = q := by
    have e := hp.trans HQ.out.symm
    obtain ⟨⟨pl⟩⟩ := p
    obtain ⟨⟨ql⟩⟩ := q
    have e' : pl = ql := e
    rw [e']
  clear hp
  go_wp2_with fail
  refine (HG.out _).mono ?_
  rintro e w4 ⟨rfl, rfl⟩
  go_wp2
  go_ret
  exact ⟨rfl, hb03⟩
end Go.Proofs.YtgdomcjonlngaaaDoor.Kw
