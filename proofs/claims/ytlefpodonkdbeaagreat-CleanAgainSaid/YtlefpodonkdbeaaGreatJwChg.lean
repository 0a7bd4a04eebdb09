/- What a change's methods and journal's Do come to. For all disks whose names fit and all changes of the five kinds whose names and bytes fit. -/
import Derived.Test.YtlefpodonkdbeaaGreatJwMap
import Derived.Test.YtlefpodonkdbeaaGreatDwC
import Derived.Test.YtlefpodonkdbeaaGreatDwE
import Derived.Test.YtlefpodonkdbeaaGreatJwLasts
import Derived.Deep.RegionHeld3
set_option maxRecDepth 8000
namespace Go.Proofs.YtlefpodonkdbeaaGreat.Jw
open Go.RowKit By Dk Jn
open Dw

theorem chg4 {w : World} {g : Nat} {t : TypeId} {a b c d : Value} (h : Cel w g t #[a, b, c, d]) : w.cell? ⟨g, 0, none⟩ = some a ∧ w.cell? ⟨g, 1, none⟩ = some b ∧ w.cell? ⟨g, 2, none⟩ = some c ∧ w.cell? ⟨g, 3, none⟩ = some d := ⟨by rw [h.cell]; rfl, by rw [h.cell]; rfl, by rw [h.cell]; rfl, by rw [h.cell]; rfl⟩
theorem three {w : World} (c : Cv) (x : Dv) : Below w.heap.size w (((w.alloc (.cells c.cs 75)).alloc (.cells x.cs 30)).alloc (.cells #[.slice none 0 0, .slice none 0 0, .slice none 0 0] 30)) ∧
    Cel (((w.alloc (.cells c.cs 75)).alloc (.cells x.cs 30)).alloc (.cells #[.slice none 0 0, .slice none 0 0, .slice none 0 0] 30)) w.heap.size 75 c.cs ∧
    Cel (((w.alloc (.cells c.cs 75)).alloc (.cells x.cs 30)).alloc (.cells #[.slice none 0 0, .slice none 0 0, .slice none 0 0] 30)) (w.heap.size + 1) 30 x.cs ∧
    Cel (((w.alloc (.cells c.cs 75)).alloc (.cells x.cs 30)).alloc (.cells #[.slice none 0 0, .slice none 0 0, .slice none 0 0] 30)) (w.heap.size + 2) 30 #[.slice none 0 0, .slice none 0 0, .slice none 0 0] := by
  have b1 : Below w.heap.size w (w.alloc (.cells c.cs 75)) := alloc_more _ _
  have s1 : (w.alloc (.cells c.cs 75)).heap.size = w.heap.size + 1 := by simp
  generalize hv : w.alloc (.cells c.cs 75) = v at b1 s1
  have b2 : Below v.heap.size v (v.alloc (.cells x.cs 30)) := alloc_more _ _
  have s2 : (v.alloc (.cells x.cs 30)).heap.size = v.heap.size + 1 := by simp
  have c1 := Cel.born v 30 x.cs
  generalize v.alloc (.cells x.cs 30) = u at b2 s2 c1
  have b3 : Below u.heap.size u (u.alloc (.cells #[.slice none 0 0, .slice none 0 0, .slice none 0 0] 30)) := alloc_more _ _
  have c2 := Cel.born u 30 #[.slice none 0 0, .slice none 0 0, .slice none 0 0]
  have c0 : Cel v w.heap.size 75 c.cs := by rw [← hv]; exact Cel.born _ _ _
  rw [show w.heap.size + 1 = v.heap.size from s1.symm, show w.heap.size + 2 = u.heap.size by omega]
  exact ⟨(b1.trans (b2.mono b1.size)).trans (b3.mono (Nat.le_trans b1.size b2.size)), (c0.below b2 c0.lt).below b3 ((c0.below b2 c0.lt).lt), c1.below b3 c1.lt, c2⟩
set_option maxHeartbeats 1000000 in
theorem appended_any (x : Dv) (c : Cv) (w : World) (hx : RdD w.heap.size w x) (hsm : Sm x.d) (hc : OkC w.heap.size w c) : Calls Tryz.prog 86 #[c.v, x.v] w (DE w (appendK x.d c.name c.b)) := by
  obtain ⟨w1, hw1⟩ : ∃ w1, w1 = ((w.alloc (.cells c.cs 75)).alloc (.cells x.cs 30)).alloc (.cells #[.slice none 0 0, .slice none 0 0, .slice none 0 0] 30) := ⟨_, rfl⟩
  have h3 := three (w := w) c x
  rw [← hw1] at h3
  obtain ⟨hb1, hc0, hc1, hc2⟩ := h3
  have HD := Lib.hid (append_any x c.name c.A c.b.length c.c c.b w1 ((hx.below hb1).mono hb1.size) hsm hc.s (hc.b.below hb1).bs hc.m)
  have HB1 := Lib.hid hb1
  have HC2 := Lib.hid hc2
  clear hx hsm hc hb1 hc0 hc1 hc2
  go_enter Tryz.func86, Tryz.ntmps86
  go_wp2_with fail
  rw [← hw1]
  clear hw1
  refine HD.out.mono ?_
  rintro e w2 ⟨z, rfl, hz, hrz, hb2⟩
  have hk := HC2.out.below hb2 HC2.out.lt
  have HB2 := Lib.hid (HB1.out.trans (hb2.mono HB1.out.size))
  obtain ⟨q0, q1, q2⟩ := cel3 hk
  obtain ⟨f0, f1, f2⟩ := cel_frs hk
  have HK := Lib.hid hk
  have HZ := Lib.hid hrz
  clear hk hrz hb2
  go_wp2
  (try simp only [Exit.inBlock, Exit.then])
  refine bodyPost_ret (ret_disk2 rfl _ _ (w.heap.size + 2) z.cs rfl (cel_put3 HK.out) rfl) rfl ?_
  refine ⟨z, rfl, hz, ?_, below_put3 HB2.out (by omega) _ _ _⟩
  have := rdd_away HZ.out HK.out sl3 (cell_put3 w2 (w.heap.size + 2) (.slice z.fA z.fn z.fc) (.slice z.nA z.nn z.nc) (.slice z.kA z.kn z.kc))
  simpa using this
set_option maxHeartbeats 1000000 in
theorem synced_any (x : Dv) (c : Cv) (w : World) (hx : RdD w.heap.size w x) (hsm : Sm x.d) (_ : OkC w.heap.size w c) : Calls Tryz.prog 87 #[c.v, x.v] w (DE w (syncK x.d c.name)) := by
  obtain ⟨w1, hw1⟩ : ∃ w1, w1 = ((w.alloc (.cells c.cs 75)).alloc (.cells x.cs 30)).alloc (.cells #[.slice none 0 0, .slice none 0 0, .slice none 0 0] 30) := ⟨_, rfl⟩
  have h3 := three (w := w) c x
  rw [← hw1] at h3
  obtain ⟨hb1, hc0, hc1, hc2⟩ := h3
  have HD := Lib.hid (sync_any x c.name w1 ((hx.below hb1).mono hb1.size) hsm)
  have HB1 := Lib.hid hb1
  have HC2 := Lib.hid hc2
  clear hx hsm hb1 hc0 hc1 hc2
  go_enter Tryz.func87, Tryz.ntmps87
  go_wp2_with fail
  rw [← hw1]
  clear hw1
  refine HD.out.mono ?_
  rintro e w2 ⟨z, rfl, hz, hrz, hb2⟩
  have hk := HC2.out.below hb2 HC2.out.lt
  have HB2 := Lib.hid (HB1.out.trans (hb2.mono HB1.out.size))
  obtain ⟨q0, q1, q2⟩ := cel3 hk
  obtain ⟨f0, f1, f2⟩ := cel_frs hk
  have HK := Lib.hid hk
  have HZ := Lib.hid hrz
  clear hk hrz hb2
  go_wp2
  (try simp only [Exit.inBlock, Exit.then])
  refine bodyPost_ret (ret_disk2 rfl _ _ (w.heap.size + 2) z.cs rfl (cel_put3 HK.out) rfl) rfl ?_
  refine ⟨z, rfl, hz, ?_, below_put3 HB2.out (by omega) _ _ _⟩
  have := rdd_away HZ.out HK.out sl3 (cell_put3 w2 (w.heap.size + 2) (.slice z.fA z.fn z.fc) (.slice z.nA z.nn z.nc) (.slice z.kA z.kn z.kc))
  simpa using this
set_option maxHeartbeats 1000000 in
theorem renamed_any (x : Dv) (c : Cv) (w : World) (hx : RdD w.heap.size w x) (hsm : Sm x.d) (hc : OkC w.heap.size w c) : Calls Tryz.prog 88 #[c.v, x.v] w (DE w (renameK x.d c.name c.tn)) := by
  obtain ⟨w1, hw1⟩ : ∃ w1, w1 = ((w.alloc (.cells c.cs 75)).alloc (.cells x.cs 30)).alloc (.cells #[.slice none 0 0, .slice none 0 0, .slice none 0 0] 30) := ⟨_, rfl⟩
  have h3 := three (w := w) c x
  rw [← hw1] at h3
  obtain ⟨hb1, hc0, hc1, hc2⟩ := h3
  have HD := Lib.hid (rename_any x c.name c.tn w1 ((hx.below hb1).mono hb1.size) hsm hc.t)
  have HB1 := Lib.hid hb1
  have HC2 := Lib.hid hc2
  clear hx hsm hc hb1 hc0 hc1 hc2
  go_enter Tryz.func88, Tryz.ntmps88
  go_wp2_with fail
  rw [← hw1]
  clear hw1
  refine HD.out.mono ?_
  rintro e w2 ⟨z, rfl, hz, hrz, hb2⟩
  have hk := HC2.out.below hb2 HC2.out.lt
  have HB2 := Lib.hid (HB1.out.trans (hb2.mono HB1.out.size))
  obtain ⟨q0, q1, q2⟩ := cel3 hk
  obtain ⟨f0, f1, f2⟩ := cel_frs hk
  have HK := Lib.hid hk
  have HZ := Lib.hid hrz
  clear hk hrz hb2
  go_wp2
  (try simp only [Exit.inBlock, Exit.then])
  refine bodyPost_ret (ret_disk2 rfl _ _ (w.heap.size + 2) z.cs rfl (cel_put3 HK.out) rfl) rfl ?_
  refine ⟨z, rfl, hz, ?_, below_put3 HB2.out (by omega) _ _ _⟩
  have := rdd_away HZ.out HK.out sl3 (cell_put3 w2 (w.heap.size + 2) (.slice z.fA z.fn z.fc) (.slice z.nA z.nn z.nc) (.slice z.kA z.kn z.kc))
  simpa using this
set_option maxHeartbeats 1000000 in
theorem removed_any (x : Dv) (c : Cv) (w : World) (hx : RdD w.heap.size w x) (hsm : Sm x.d) (_ : OkC w.heap.size w c) : Calls Tryz.prog 89 #[c.v, x.v] w (DE w (removeK x.d c.name)) := by
  obtain ⟨w1, hw1⟩ : ∃ w1, w1 = ((w.alloc (.cells c.cs 75)).alloc (.cells x.cs 30)).alloc (.cells #[.slice none 0 0, .slice none 0 0, .slice none 0 0] 30) := ⟨_, rfl⟩
  have h3 := three (w := w) c x
  rw [← hw1] at h3
  obtain ⟨hb1, hc0, hc1, hc2⟩ := h3
  have HD := Lib.hid (remove_any x c.name w1 ((hx.below hb1).mono hb1.size) hsm)
  have HB1 := Lib.hid hb1
  have HC2 := Lib.hid hc2
  clear hx hsm hb1 hc0 hc1 hc2
  go_enter Tryz.func89, Tryz.ntmps89
  go_wp2_with fail
  rw [← hw1]
  clear hw1
  refine HD.out.mono ?_
  rintro e w2 ⟨z, rfl, hz, hrz, hb2⟩
  have hk := HC2.out.below hb2 HC2.out.lt
  have HB2 := Lib.hid (HB1.out.trans (hb2.mono HB1.out.size))
  obtain ⟨q0, q1, q2⟩ := cel3 hk
  obtain ⟨f0, f1, f2⟩ := cel_frs hk
  have HK := Lib.hid hk
  have HZ := Lib.hid hrz
  clear hk hrz hb2
  go_wp2
  (try simp only [Exit.inBlock, Exit.then])
  refine bodyPost_ret (ret_disk2 rfl _ _ (w.heap.size + 2) z.cs rfl (cel_put3 HK.out) rfl) rfl ?_
  refine ⟨z, rfl, hz, ?_, below_put3 HB2.out (by omega) _ _ _⟩
  have := rdd_away HZ.out HK.out sl3 (cell_put3 w2 (w.heap.size + 2) (.slice z.fA z.fn z.fc) (.slice z.nA z.nn z.nc) (.slice z.kA z.kn z.kc))
  simpa using this
set_option maxHeartbeats 1000000 in
theorem dirSynced_any (x : Dv) (c : Cv) (w : World) (hx : RdD w.heap.size w x) (hsm : Sm x.d) (_ : OkC w.heap.size w c) : Calls Tryz.prog 90 #[c.v, x.v] w (DE w ((syncDirK x.d, 0))) := by
  obtain ⟨w1, hw1⟩ : ∃ w1, w1 = ((w.alloc (.cells c.cs 75)).alloc (.cells x.cs 30)).alloc (.cells #[.slice none 0 0, .slice none 0 0, .slice none 0 0] 30) := ⟨_, rfl⟩
  have h3 := three (w := w) c x
  rw [← hw1] at h3
  obtain ⟨hb1, hc0, hc1, hc2⟩ := h3
  have HD := Lib.hid (syncDir_any x w1 ((hx.below hb1).mono hb1.size) hsm)
  have HB1 := Lib.hid hb1
  have HC2 := Lib.hid hc2
  clear hx hsm hb1 hc0 hc1 hc2
  go_enter Tryz.func90, Tryz.ntmps90
  go_wp2_with fail
  rw [← hw1]
  clear hw1
  refine HD.out.mono ?_
  rintro e w2 ⟨z, rfl, hz, hrz, hb2⟩
  have hk := HC2.out.below hb2 HC2.out.lt
  have HB2 := Lib.hid (HB1.out.trans (hb2.mono HB1.out.size))
  obtain ⟨q0, q1, q2⟩ := cel3 hk
  obtain ⟨f0, f1, f2⟩ := cel_frs hk
  have HK := Lib.hid hk
  have HZ := Lib.hid hrz
  clear hk hrz hb2
  go_wp2
  (try simp only [Exit.inBlock, Exit.then])
  refine bodyPost_ret (ret_disk2 rfl _ _ (w.heap.size + 2) z.cs rfl (cel_put3 HK.out) rfl) rfl ?_
  refine ⟨z, rfl, hz, ?_, below_put3 HB2.out (by omega) _ _ _⟩
  have := rdd_away HZ.out HK.out sl3 (cell_put3 w2 (w.heap.size + 2) (.slice z.fA z.fn z.fc) (.slice z.nA z.nn z.nc) (.slice z.kA z.kn z.kc))
  simpa using this
end Go.Proofs.YtlefpodonkdbeaaGreat.Jw
