/- The statement MsgWrites of boarderlaw04, walked: true, and nothing that was there has turned. Condition: what msg's package-level variables hold (En.ok). -/
import Derived.Test.YtibcpdimdjipjaaDoorMwRef6
import Derived.Test.YtibcpdimdjipjaaDoorMwKnows
import Derived.Test.YtibcpdimdjipjaaDoorMwRef1
set_option maxRecDepth 8000
namespace Go.Proofs.YtibcpdimdjipjaaDoor.Mw
open Go.RowKit Tl Ms Co By

theorem bytes_small {m : M} (h : ¬ 1500 < (bodyM m).length) : (bytesM m).length ≤ 1500 := by
  unfold bytesM padL
  rw [List.length_append, List.length_replicate]
  omega
theorem bytes_big {m : M} (h : 1500 < (bodyM m).length) : 1500 < (bytesM m).length := by
  unfold bytesM padL
  rw [List.length_append, List.length_replicate]
  omega
set_option maxHeartbeats 4000000 in
theorem msgWrites_walk (E : En) (x : Mv) (w : World) (hE : E.ok w) (h : x.ok w) : Calls Tryd.prog 3 #[x.v] w (isTrue w) := by
  have hb0 : Below w.heap.size w (w.alloc (.cells x.cells 25)) := (Below.refl _ _).alloc (Nat.le_refl _) _
  have HE := Lib.hid hE
  have H0 := Lib.hid h
  clear hE h
  go_enter Tryd.func3, Tryd.ntmps3
  go_wp2_with fail
  refine (great_msg x _ (H0.out.below hb0)).mono ?_
  rintro e w1 ⟨rfl, hb1⟩
  have hcel := box_at (x := x) (by simp) hb1
  have hbw1 := hb0.trans (hb1.mono hb0.size)
  have HE1 := Lib.hid (HE.out.below hbw1)
  have H1 := Lib.hid (H0.out.below hbw1)
  cases q : greatM x.mm
  rotate_left
  · go_wp2_with fail
    refine (knows_yes E _ HE1.out).mono ?_
    rintro e w2 ⟨rfl, hb2⟩
    go_wp2
    go_ret
    exact ⟨rfl, hbw1.trans (hb2.mono hbw1.size)⟩
  obtain ⟨r0, r1, r2, r3, r4, r5, r6, r7, r8, r9, r10, r11, r12, _⟩ := cels13 hcel
  go_wp2_with fail
  refine (write_any E x w1 HE1.out H1.out).mono ?_
  clear r0 r1 r2 r3 r4 r5 r6 r7 r8 r9 r10 r11 r12
  rintro e w2 ⟨hb2, hJ⟩
  have hbw2 := hbw1.trans (hb2.mono hbw1.size)
  have hcel2 := hcel.below hb2 hcel.lt
  obtain ⟨r0, r1, r2, r3, r4, r5, r6, r7, r8, r9, r10, r11, r12, _⟩ := cels13 hcel2
  rcases hJ with ⟨hr, rfl⟩ | ⟨hr, hl, rfl⟩ | ⟨hr, hl, A, n, c, rfl, hown⟩
  · have HR := Lib.hid hr
    clear hr
    go_wp2_with fail
    refine (as_msg x w2).mono ?_
    rintro e w3 ⟨rfl, hb3⟩
    have hbw3 := hbw2.trans (hb3.mono hbw2.size)
    clear r0 r1 r2 r3 r4 r5 r6 r7 r8 r9 r10 r11 r12
    go_wp2_with fail
    refine (refRight_msg x w3 (H0.out.below hbw3)).mono ?_
    rw [HR.out]
    rintro e w4 ⟨rfl, hb4⟩
    have hbw4 := hbw3.trans (hb4.mono hbw3.size)
    go_wp2_with fail
    refine (knows_yes E _ (HE.out.below hbw4)).mono ?_
    rintro e w5 ⟨rfl, hb5⟩
    go_wp2
    go_ret
    exact ⟨rfl, hbw4.trans (hb5.mono hbw4.size)⟩
  · have HR := Lib.hid hr
    obtain ⟨hh, hc, hrl, _⟩ := (rightM_iff x.mm).1 hr
    have HBY := Lib.hid (fun W (hW : x.ok W) => refBytes_any x W hW hh hc (fit_right hrl))
    have HBL := Lib.hid (bytes_big hl)
    clear hr hh hc hrl hl
    go_wp2_with fail
    refine (as_msg x w2).mono ?_
    rintro e w3 ⟨rfl, hb3⟩
    have hbw3 := hbw2.trans (hb3.mono hbw2.size)
    have hcel3 := hcel2.below hb3 hcel2.lt
    clear r0 r1 r2 r3 r4 r5 r6 r7 r8 r9 r10 r11 r12
    go_wp2_with fail
    refine (refRight_msg x w3 (H0.out.below hbw3)).mono ?_
    rw [HR.out]
    rintro e w4 ⟨rfl, hb4⟩
    have hbw4 := hbw3.trans (hb4.mono hbw3.size)
    have hcel4 := hcel3.below hb4 hcel3.lt
    obtain ⟨r0, r1, r2, r3, r4, r5, r6, r7, r8, r9, r10, r11, r12, _⟩ := cels13 hcel4
    go_wp2_with fail
    refine (as_msg x w4).mono ?_
    rintro e w5 ⟨rfl, hb5⟩
    have hbw5 := hbw4.trans (hb5.mono hbw4.size)
    clear r0 r1 r2 r3 r4 r5 r6 r7 r8 r9 r10 r11 r12
    go_wp2_with fail
    refine (HBY.out w5 (H0.out.below hbw5)).mono ?_
    rintro e w6 ⟨A6, n6, c6, rfl, hown6, hb6⟩
    have hbw6 := hbw5.trans (hb6.mono hbw5.size)
    have hbs6 := hown6.bs
    have hn6 : (1500 : Int) < (n6 : Int) := by have e1 := HBL.out; rw [hbs6.len] at e1; omega
    have hmx := hbs6.max
    have hcp := hbs6.cap
    clear hown6 hbs6
    go_wp2_with fail
    refine (knows_yes E _ (HE.out.below hbw6)).mono ?_
    rintro e w7 ⟨rfl, hb7⟩
    go_wp2
    go_ret
    exact ⟨rfl, hbw6.trans (hb7.mono hbw6.size)⟩
  · have HR := Lib.hid hr
    obtain ⟨hh, hc, hrl, _⟩ := (rightM_iff x.mm).1 hr
    have HBY := Lib.hid (fun W (hW : x.ok W) => refBytes_any x W hW hh hc (fit_right hrl))
    have HBL := Lib.hid (bytes_small hl)
    have hbs2 := hown.bs
    have hmx2 := hbs2.max
    have hcp2 := hbs2.cap
    clear hr hh hc hrl hl hown
    go_wp2_with fail
    refine (as_msg x w2).mono ?_
    rintro e w3 ⟨rfl, hb3⟩
    have hbw3 := hbw2.trans (hb3.mono hbw2.size)
    have hcel3 := hcel2.below hb3 hcel2.lt
    clear r0 r1 r2 r3 r4 r5 r6 r7 r8 r9 r10 r11 r12
    go_wp2_with fail
    refine (refRight_msg x w3 (H0.out.below hbw3)).mono ?_
    rw [HR.out]
    rintro e w4 ⟨rfl, hb4⟩
    have hbw4 := hbw3.trans (hb4.mono hbw3.size)
    have hcel4 := hcel3.below hb4 hcel3.lt
    obtain ⟨r0, r1, r2, r3, r4, r5, r6, r7, r8, r9, r10, r11, r12, _⟩ := cels13 hcel4
    go_wp2_with fail
    refine (as_msg x w4).mono ?_
    rintro e w5 ⟨rfl, hb5⟩
    have hbw5 := hbw4.trans (hb5.mono hbw4.size)
    clear r0 r1 r2 r3 r4 r5 r6 r7 r8 r9 r10 r11 r12
    go_wp2_with fail
    refine (HBY.out w5 (H0.out.below hbw5)).mono ?_
    rintro e w6 ⟨A6, n6, c6, rfl, hown6, hb6⟩
    have hbw6 := hbw5.trans (hb6.mono hbw5.size)
    have hbs6 := hown6.bs
    have hn6 : ¬ (1500 : Int) < (n6 : Int) := by have e1 := HBL.out; rw [hbs6.len] at e1; omega
    have hmx := hbs6.max
    have hcp := hbs6.cap
    have hcv1 := byP.str ((((hbs2.below hb3).below hb4).below hb5).below hb6)
    have hcv2 := byP.str hbs6
    clear hown6 hbs6 hbs2
    generalize bytesM x.mm = y at hcv1 hcv2
    go_wp2_with fail
    refine (knows_yes E _ (HE.out.below hbw6)).mono ?_
    rintro e w7 ⟨rfl, hb7⟩
    go_wp2
    go_ret
    exact ⟨rfl, hbw6.trans (hb7.mono hbw6.size)⟩
end Go.Proofs.YtibcpdimdjipjaaDoor.Mw
