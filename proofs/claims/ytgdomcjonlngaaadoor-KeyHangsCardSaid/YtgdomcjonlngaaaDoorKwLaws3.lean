/- The walk of KeyOf: it returns true, and what was in memory stays. For all messages, where the table of digits holds what the program's text lays. -/
import Derived.Test.YtgdomcjonlngaaaDoorKwKnows
import Derived.Test.YtgdomcjonlngaaaDoorKwOf2
import Derived.Test.YtgdomcjonlngaaaDoorMwCel
set_option maxRecDepth 8000
namespace Go.Proofs.YtgdomcjonlngaaaDoor
open Go.RowKit Tl Ms By Ky Kw

theorem arr_eq {p q : ByteArray} (h : p.data.toList = q.data.toList) : p = q := by
  obtain ⟨⟨pl⟩⟩ := p
  obtain ⟨⟨ql⟩⟩ := q
  have h' : pl = ql := h
  rw [h']

set_option maxHeartbeats 2000000 in
theorem keyOf_walk (x : Mv) (w : World) (hw : Dig w) (h : x.ok w) : Calls Tryd.prog 3 #[x.v] w (isTrue w) := by
  have hb0 : Below w.heap.size w (w.alloc (.cells x.cells 25)) := (Below.refl _ _).alloc (Nat.le_refl _) _
  have H0 := Lib.hid h
  have HK := Lib.hid (fun W (hb : Below w.heap.size w W) => knows_yes W (hw.below hb))
  have HZ := Lib.hid (of_right (m := x.mm))
  have HOF := Lib.hid (fun W (k : x.ok W) => of_any x W k)
  have HOR := Lib.hid (fun W (k : x.ok W) => refOf_any x W k)
  generalize ofK x.mm = R at HZ HOF HOR
  obtain ⟨l, er⟩ := R
  clear hw h
  go_enter Tryd.func3, Tryd.ntmps3
  go_wp2_with fail
  refine (Mw.great_msg x _ (H0.out.below hb0)).mono ?_
  rintro e w1 ⟨rfl, hb1⟩
  have hcel := Mw.box_at (x := x) (by simp) hb1
  have hbw1 := hb0.trans (hb1.mono hb0.size)
  cases q : Mw.greatM x.mm
  rotate_left
  · go_wp2_with fail
    refine (HK.out _ hbw1).mono ?_
    rintro e w2 ⟨rfl, hb2⟩
    go_wp2
    go_ret
    exact ⟨rfl, hbw1.trans (hb2.mono hbw1.size)⟩
  obtain ⟨r0, r1, r2, r3, r4, r5, r6, r7, r8, r9, r10, r11, r12, _⟩ := Mw.cels13 hcel
  go_wp2_with fail
  clear r0 r1 r2 r3 r4 r5 r6 r7 r8 r9 r10 r11 r12
  refine (HOF.out _ (H0.out.below hbw1)).mono ?_
  rintro e w2 ⟨s1, rfl, hs1, hb2⟩
  have hbw2 := hbw1.trans (hb2.mono hbw1.size)
  have hcel2 := hcel.below hb2 hcel.lt
  obtain ⟨r0, r1, r2, r3, r4, r5, r6, r7, r8, r9, r10, r11, r12, _⟩ := Mw.cels13 hcel2
  go_wp2_with fail
  clear r0 r1 r2 r3 r4 r5 r6 r7 r8 r9 r10 r11 r12
  refine (Mw.as_msg x _).mono ?_
  rintro e w3 ⟨rfl, hb3⟩
  have hbw3 := hbw2.trans (hb3.mono hbw2.size)
  go_wp2_with fail
  refine (HOR.out _ (H0.out.below hbw3)).mono ?_
  rintro e w4 ⟨s2, rfl, hs2, hb4⟩
  have hbw4 := hbw3.trans (hb4.mono hbw3.size)
  obtain rfl : s2 = s1 := arr_eq (hs2.trans hs1.symm)
  have HS := Lib.hid hs1
  clear hs1 hs2
  by_cases he : er = 0
  · have hz9 : rightK s2.data.toList = true := by rw [HS.out]; exact HZ.out he
    have hsz : s2.size ≤ 9223372036854775807 := by have e1 := size_list s2; have e2 := text_len hz9; omega
    have HG := Lib.hid (fun W => right_any s2 W hsz)
    rw [hz9] at HG
    have HE := Lib.hid he
    subst he
    clear hz9 hsz
    go_wp2_with fail
    refine (HG.out _).mono ?_
    rintro e w5 ⟨rfl, rfl⟩
    go_wp2_with fail
    refine (HK.out _ hbw4).mono ?_
    rintro e w5 ⟨rfl, hb5⟩
    go_wp2
    go_ret
    exact ⟨rfl, hbw4.trans (hb5.mono hbw4.size)⟩
  · have hne : (er == 0) = false := by simpa using he
    have hne2 : (er != 0) = true := by simpa using he
    go_wp2_with fail
    refine (HK.out _ hbw4).mono ?_
    rintro e w5 ⟨rfl, hb5⟩
    go_wp2
    go_ret
    exact ⟨rfl, hbw4.trans (hb5.mono hbw4.size)⟩
end Go.Proofs.YtgdomcjonlngaaaDoor
