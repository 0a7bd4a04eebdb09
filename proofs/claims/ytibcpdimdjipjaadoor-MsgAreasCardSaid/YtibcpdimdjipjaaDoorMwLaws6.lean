/- The statement MsgAreas of boarderlaw04, walked: true, and nothing that was there has turned. Condition: what msg's package-level variables hold (En.ok). -/
import Derived.Test.YtibcpdimdjipjaaDoorMwRef6
import Derived.Test.YtibcpdimdjipjaaDoorMwCopy
import Derived.Test.YtibcpdimdjipjaaDoorMwKnows
import Derived.Test.YtibcpdimdjipjaaDoorMwRef1
import Derived.Test.YtibcpdimdjipjaaDoorTlRef4
set_option maxRecDepth 8000
namespace Go.Proofs.YtibcpdimdjipjaaDoor.Mw
open Go.RowKit Tl Ms Co By

theorem fit_snoc {l : List O} (h : rightL l = true) : FitL (l ++ [(52, [3])]) := by
  refine ⟨by have := right_len h; simp; omega, fun o ho => ?_⟩
  rcases List.mem_append.1 ho with ho | ho
  · exact right_fit h ho
  · simp only [List.mem_singleton] at ho
    subst ho
    exact ⟨by decide, by decide, by decide⟩
theorem write_pos (l : List O) : 0 < (writeL l).length := by
  unfold writeL
  simp
/-- A message with other options. -/
@[reducible] def withO (x : Mv) (B : Option Addr) (m d : Nat) (ps : List Po) : Mv := ⟨x.op, x.htype, x.hlen, x.hops, x.xid, x.secs, x.flags, x.ci, x.yi, x.si, x.gi, x.A, x.n, x.c, x.ch, B, m, d, ps⟩
theorem with_cells {w : World} {g : Nat} {t : TypeId} (x : Mv) (h : Cel w g t x.cells) (B : Option Addr) (m d : Nat) (ps : List Po) : Cel (w.setCell ⟨g, 12, none⟩ (.slice B m d)) g t (withO x B m d ps).cells := by
  have h2 := Cel.set h 12 (.slice B m d)
  exact h2
theorem lit52 (w8 : World) : RdO ((w8.alloc (.cells #[.int .u8 3] 5)).alloc (.cells #[.int .i64 52, .slice (some ⟨w8.heap.size, 0, none⟩) 1 1] 45)) (some ⟨w8.heap.size + 1, 0, none⟩) 1 1 [⟨52, some ⟨w8.heap.size, 0, none⟩, 1, [3]⟩] ∧ Below w8.heap.size w8 ((w8.alloc (.cells #[.int .u8 3] 5)).alloc (.cells #[.int .i64 52, .slice (some ⟨w8.heap.size, 0, none⟩) 1 1] 45)) := by
  have h1 := (OwnC.lit1 45 (w8.alloc (.cells #[.int .u8 3] 5)) ⟨52, some ⟨w8.heap.size, 0, none⟩, 1, [3]⟩).rdc
  rw [show (w8.alloc (.cells #[.int .u8 3] 5)).heap.size = w8.heap.size + 1 by simp] at h1
  refine ⟨⟨h1, fun p hp => ?_⟩, ((Below.refl _ _).alloc (Nat.le_refl _) _).alloc (by simp) _⟩
  simp only [List.mem_singleton] at hp
  subst hp
  exact (Own.lit1 5 w8 3).bs.alloc _
theorem lit0O (e : Nat) (w : World) : OwnC e w.heap.size (w.alloc (.cells #[] e)) (some ⟨w.heap.size, 0, none⟩) 0 0 [] := World.ownsRow_lit w #[] 0 (Nat.le_refl _) (by unfold maxLen; omega) rfl
theorem areas_read {m : M} (h : RightM m) (h60 : m.os.length < 60) {file name : List O} (hf : GoodO file) (hn : GoodO name) {nx ny : Nat} (ex : (writeL file).length = nx) (ey : (writeL name).length = ny) (hx : nx ≤ 128) (hy : ny ≤ 64) {Y : M} (hY : Y = { m with os := m.os ++ [(52, [3])] }) (hle : (bytesM Y).length ≤ 1500)
    {R : List O × Int} (hR : R = if (joinL m.os file).2 ≠ 0 then ([], (joinL m.os file).2) else joinL (joinL m.os file).1 name) :
    readM (((bytesM Y).take 108 ++ (writeL file ++ (bytesM Y).drop (108 + nx))).take 44 ++ (writeL name ++ ((bytesM Y).take 108 ++ (writeL file ++ (bytesM Y).drop (108 + nx))).drop (44 + ny))) = if R.2 ≠ 0 then (zeroM, R.2) else ({ m with os := R.1 }, 0) := by
  subst ex
  subst ey
  have hc : Y.ch.length = 16 := by rw [hY]; exact h.2.1
  obtain ⟨p, hp, he⟩ := laid_rooms Y hc file name hx hy
  rw [he, hY]
  rw [hp, hY] at hle
  exact read_areas h h60 hf hn _ _ rfl rfl (by rw [List.length_append, List.length_replicate]; omega) (by rw [List.length_append, List.length_replicate]; omega) p hle hR
theorem own_far {e B n c : Nat} {w : World} {A : Option Addr} {l : List UInt8} (h : Own e B w A n c l) {g : Nat} (hg : g < B) (j : Nat) (v : Value) : Own e B (w.setCell ⟨g, j, none⟩ v) A n c l := by
  refine World.ownsRow.kept h (grown_set w g j v) ?_
  by_cases k : (Value.slice A n c).ownBlock = none
  · exact .inl k
  · refine .inr fun k2 => ?_
    have := (World.ownsRow.lt h g k2).1
    omega
theorem ownC_far {e B n c : Nat} {w : World} {A : Option Addr} {ps : List Po} (h : OwnC e B w A n c ps) {g : Nat} (hg : g < B) (j : Nat) (v : Value) : OwnC e B (w.setCell ⟨g, j, none⟩ v) A n c ps := by
  refine World.ownsRow.kept h (grown_set w g j v) ?_
  by_cases k : (Value.slice A n c).ownBlock = none
  · exact .inl k
  · refine .inr fun k2 => ?_
    have := (World.ownsRow.lt h g k2).1
    omega
set_option maxHeartbeats 16000000 in
theorem msgAreas_walk (E : En) (x : Mv) (A1 : Option Addr) (n1 c1 : Nat) (ps1 : List Po) (A2 : Option Addr) (n2 c2 : Nat) (ps2 : List Po) (w : World) (hE : E.ok w) (h : x.ok w) (hf : RdO w A1 n1 c1 ps1) (hn : RdO w A2 n2 c2 ps2) :
    Calls Tryd.prog 5 #[x.v, .slice A1 n1 c1, .slice A2 n2 c2] w (isTrue w) := by
  have hb0 : Below w.heap.size w (w.alloc (.cells x.cells 25)) := (Below.refl _ _).alloc (Nat.le_refl _) _
  have HE := Lib.hid hE
  have H0 := Lib.hid h
  have HFI := Lib.hid hf
  have HNA := Lib.hid hn
  have hxm := h.os.max
  have hxc := h.os.cap
  clear hE h hf hn
  go_enter Tryd.func5, Tryd.ntmps5
  go_wp2_with fail
  refine (great_msg x _ (H0.out.below hb0)).mono ?_
  rintro e w1 ⟨rfl, hb1⟩
  have hcel := box_at (x := x) (by simp) hb1
  have hbw1 := hb0.trans (hb1.mono hb0.size)
  clear hb0 hb1
  cases q1 : greatM x.mm
  rotate_left
  · go_wp2_with fail
    refine (knows_yes E _ (HE.out.below hbw1)).mono ?_
    rintro e wk ⟨rfl, hbk⟩
    go_wp2
    go_ret
    exact ⟨rfl, hbw1.trans (hbk.mono hbw1.size)⟩
  clear q1
  go_wp2_with fail
  refine (Tw.great_any A1 n1 c1 ps1 _ (HFI.out.below hbw1)).mono ?_
  rintro e w' ⟨rfl, rfl⟩
  cases q1 : Tw.greatL (osP ps1)
  rotate_left
  · go_wp2_with fail
    refine (knows_yes E _ (HE.out.below hbw1)).mono ?_
    rintro e wk ⟨rfl, hbk⟩
    go_wp2
    go_ret
    exact ⟨rfl, hbw1.trans (hbk.mono hbw1.size)⟩
  clear q1
  go_wp2_with fail
  refine (Tw.great_any A2 n2 c2 ps2 _ (HNA.out.below hbw1)).mono ?_
  rintro e w' ⟨rfl, rfl⟩
  cases q1 : Tw.greatL (osP ps2)
  rotate_left
  · go_wp2_with fail
    refine (knows_yes E _ (HE.out.below hbw1)).mono ?_
    rintro e wk ⟨rfl, hbk⟩
    go_wp2
    go_ret
    exact ⟨rfl, hbw1.trans (hbk.mono hbw1.size)⟩
  clear q1
  obtain ⟨r0, r1, r2, r3, r4, r5, r6, r7, r8, r9, r10, r11, r12, _⟩ := cels13 hcel
  go_wp2_with fail
  refine (as_msg x w1).mono ?_
  rintro e w2 ⟨rfl, hb2⟩
  have hbw2 := hbw1.trans (hb2.mono hbw1.size)
  have hcel2 := hcel.below hb2 hcel.lt
  clear r0 r1 r2 r3 r4 r5 r6 r7 r8 r9 r10 r11 r12
  obtain ⟨rt, HR⟩ : ∃ r, Hid (rightM x.mm = r) := ⟨_, rfl⟩
  go_wp2_with fail
  refine (refRight_msg x w2 (H0.out.below hbw2)).mono ?_
  rw [HR.out]
  rintro e w3 ⟨rfl, hb3⟩
  have hbw3 := hbw2.trans (hb3.mono hbw2.size)
  have hcel3 := hcel2.below hb3 hcel2.lt
  clear hcel hcel2 hb2 hb3 hbw1 hbw2
  cases rt
  · go_wp2_with fail
    refine (knows_yes E _ (HE.out.below hbw3)).mono ?_
    rintro e wk ⟨rfl, hbk⟩
    go_wp2
    go_ret
    exact ⟨rfl, hbw3.trans (hbk.mono hbw3.size)⟩
  obtain ⟨r1t, HR1⟩ : ∃ r, Hid (rightL (osP ps1) = r) := ⟨_, rfl⟩
  go_wp2_with fail
  refine (Tw.refRight_any A1 n1 c1 ps1 _ (HFI.out.below hbw3)).mono ?_
  rw [HR1.out]
  rintro e w' ⟨rfl, rfl⟩
  cases r1t
  · go_wp2_with fail
    refine (knows_yes E _ (HE.out.below hbw3)).mono ?_
    rintro e wk ⟨rfl, hbk⟩
    go_wp2
    go_ret
    exact ⟨rfl, hbw3.trans (hbk.mono hbw3.size)⟩
  obtain ⟨r2t, HR2⟩ : ∃ r, Hid (rightL (osP ps2) = r) := ⟨_, rfl⟩
  go_wp2_with fail
  refine (Tw.refRight_any A2 n2 c2 ps2 _ (HNA.out.below hbw3)).mono ?_
  rw [HR2.out]
  rintro e w' ⟨rfl, rfl⟩
  cases r2t
  · go_wp2_with fail
    refine (knows_yes E _ (HE.out.below hbw3)).mono ?_
    rintro e wk ⟨rfl, hbk⟩
    go_wp2
    go_ret
    exact ⟨rfl, hbw3.trans (hbk.mono hbw3.size)⟩
  obtain ⟨k1, HK1⟩ : ∃ k, Hid (hasL (osP ps1) 52 = k) := ⟨_, rfl⟩
  go_wp2_with fail
  refine (Tw.has_any A1 n1 c1 ps1 52 _ (HFI.out.below hbw3)).mono ?_
  rw [HK1.out]
  rintro e w' ⟨rfl, rfl⟩
  by_cases hz1 : (0 : Int) < (k1 : Int)
  · go_wp2_with fail
    refine (knows_yes E _ (HE.out.below hbw3)).mono ?_
    rintro e wk ⟨rfl, hbk⟩
    go_wp2
    go_ret
    exact ⟨rfl, hbw3.trans (hbk.mono hbw3.size)⟩
  obtain rfl : k1 = 0 := by omega
  clear hz1
  obtain ⟨k2, HK2⟩ : ∃ k, Hid (hasL (osP ps2) 52 = k) := ⟨_, rfl⟩
  go_wp2_with fail
  refine (Tw.has_any A2 n2 c2 ps2 52 _ (HNA.out.below hbw3)).mono ?_
  rw [HK2.out]
  rintro e w' ⟨rfl, rfl⟩
  by_cases hz2 : (0 : Int) < (k2 : Int)
  · go_wp2_with fail
    refine (knows_yes E _ (HE.out.below hbw3)).mono ?_
    rintro e wk ⟨rfl, hbk⟩
    go_wp2
    go_ret
    exact ⟨rfl, hbw3.trans (hbk.mono hbw3.size)⟩
  obtain rfl : k2 = 0 := by omega
  clear hz2
  have HG1 : Hid (GoodO (osP ps1)) := ⟨HR1.out, HK1.out⟩
  have HG2 : Hid (GoodO (osP ps2)) := ⟨HR2.out, HK2.out⟩
  have HRM := Lib.hid ((rightM_iff x.mm).1 HR.out)
  clear HR
  go_wp2_with fail
  refine (Tw.refWrite_any A1 n1 c1 ps1 _ (HFI.out.below hbw3) HR1.out).mono ?_
  rintro e w4 ⟨X, nx, cx, rfl, hX, hb4⟩
  have hbw4 := hbw3.trans (hb4.mono hbw3.size)
  have hcel4 := hcel3.below hb4 hcel3.lt
  go_wp2_with fail
  refine (Tw.refWrite_any A2 n2 c2 ps2 _ (HNA.out.below hbw4) HR2.out).mono ?_
  rintro e w5 ⟨Y, ny, cy, rfl, hY, hb5⟩
  have hbw5 := hbw4.trans (hb5.mono hbw4.size)
  have hcel5 := hcel4.below hb5 hcel4.lt
  have HX := Lib.hid (hX.bs.below hb5)
  have HY := Lib.hid hY.bs
  have hxmx := hX.bs.max
  have hxcp := hX.bs.cap
  have hymx := hY.bs.max
  have hycp := hY.bs.cap
  clear hX hY hcel3 hcel4 hb4 hb5 hbw3 hbw4 HR1 HR2 HK1 HK2
  -- with := m
  have hgl : w.heap.size < w5.heap.size := hcel5.lt
  have hb6 : Below w5.heap.size w5 (w5.alloc (.cells x.cells 25)) := (Below.refl _ _).alloc (Nat.le_refl _) _
  have hcW6 := Cel.born w5 25 x.cells
  have hcel6 := hcel5.below hb6 hcel5.lt
  have hbw6 := hbw5.trans (hb6.mono hbw5.size)
  have hb7 : Below (w5.alloc (.cells x.cells 25)).heap.size (w5.alloc (.cells x.cells 25)) ((w5.alloc (.cells x.cells 25)).alloc (.cells #[] 45)) := (Below.refl _ _).alloc (Nat.le_refl _) _
  have hsz6 : (w5.alloc (.cells x.cells 25)).heap.size = w5.heap.size + 1 := by simp
  have hcel7 := hcel6.below hb7 hcel6.lt
  have hcW7 := hcW6.below hb7 hcW6.lt
  have hbw7 := hbw6.trans (hb7.mono hbw6.size)
  have hv7 := hb6.trans (hb7.mono hb6.size)
  have hlit0 := lit0O 45 (w5.alloc (.cells x.cells 25))
  rw [hsz6] at hlit0
  have r12a : ((w5.alloc (.cells x.cells 25)).alloc (.cells #[] 45)).cell? ⟨w.heap.size, 12, none⟩ = some (.slice x.B x.m x.d) := by rw [hcel7.cell]; rfl
  have hsz7 : w5.heap.size + 1 ≤ ((w5.alloc (.cells x.cells 25)).alloc (.cells #[] 45)).heap.size := by simp
  have hm60 : x.m ≤ 60 := by
    have e1 := right_len HRM.out.2.2.1
    have e2 := H0.out.os.len
    have e3 : x.mm.os.length = x.ps.length := os_len x.ps
    omega
  have hrdx := Lib.hid (H0.out.os.below hbw7).1
  obtain ⟨r0, r1, r2, r3, r4, r5, r6, r7, r8, r9, r10, r11, r12, _⟩ := cels13 hcel5
  go_wp2_with (first
    | (at_builtin
       refine wpList_appO Tw.opP rfl (.tmp 56) (.tmp 58) rfl rfl hlit0 rfl hrdx.out (by omega) hsz7 ?_
       intro A8 c8 w8 hown8 hb8 _
       simp only [Nat.zero_add, List.nil_append] at hown8
       have hcel8 := hcel7.below hb8 (by omega)
       have hcW8 := hcW7.below hb8 (by omega)
       have hbw8 := hbw7.trans (hb8.mono (by have := hbw5.size; omega))
       have hv8 := hv7.trans (hb8.mono (Nat.le_succ _))
       have hL := Lib.hid (lit52 w8)
       have hsz8 : w5.heap.size + 1 ≤ w8.heap.size := Nat.le_trans hsz7 hb8.size)
    | (at_builtin
       refine wpList_appO Tw.opP rfl (.tmp 59) (.tmp 62) rfl rfl (hown8.below hL.out.2) rfl hL.out.1.1 (by omega) (Nat.le_trans hsz8 hL.out.2.size) ?_
       intro A9 c9 w9 hown9 hb9 hg9
       have hcel9 := (hcel8.below hL.out.2 hcel8.lt).below hb9 (by omega)
       have hcW9 := (hcW8.below hL.out.2 hcW8.lt).below hb9 (by omega)
       have hbw9 := (hbw8.trans (hL.out.2.mono hbw8.size)).trans (hb9.mono (by have := hbw5.size; omega))
       have hv9 := (hv8.trans (hL.out.2.mono hv8.size)).trans (hb9.mono (Nat.le_succ _))
       have s12 : w9.cell? ⟨w5.heap.size, 12, none⟩ = some (.slice x.B x.m x.d) := (by rw [hcW9.cell]; rfl)
       have fz : w9.frozen? ⟨w5.heap.size, 12, none⟩ = false := Cel.frozen hcW9 12
       have hcY : Cel (w9.setCell ⟨w5.heap.size, 12, none⟩ (.slice A9 (x.m + 1) c9)) w5.heap.size 25 (withO x A9 (x.m + 1) c9 (x.ps ++ [⟨52, some ⟨w8.heap.size, 0, none⟩, 1, [3]⟩])).cells := with_cells x hcW9 _ _ _ _
       obtain ⟨t0, t1, t2, t3, t4, t5, t6, t7, t8, t9, t10, t11, t12, _⟩ := cels13 hcY))
  have hgw8 : w.heap.size < w5.heap.size + 1 := by omega
  have hbS : Below w5.heap.size w9 (w9.setCell ⟨w5.heap.size, 12, none⟩ (.slice A9 (x.m + 1) c9)) := (Below.refl _ w9).setCell (show w5.heap.size ≤ w5.heap.size from Nat.le_refl _) _
  have hO3 : Own 5 (w5.heap.size + 1) w9 (some ⟨w8.heap.size, 0, none⟩) 1 1 [3] := by
    have k1 : Own 5 w8.heap.size ((w8.alloc (.cells #[.int .u8 3] 5)).alloc (.cells #[.int .i64 52, .slice (some ⟨w8.heap.size, 0, none⟩) 1 1] 45)) (some ⟨w8.heap.size, 0, none⟩) 1 1 [3] := (Own.lit1 5 w8 3).below ((Below.refl _ _).alloc (Nat.le_refl _) _)
    have k2 : OwnC 45 (w5.heap.size + 1) ((w8.alloc (.cells #[.int .u8 3] 5)).alloc (.cells #[.int .i64 52, .slice (some ⟨w8.heap.size, 0, none⟩) 1 1] 45)) A8 x.m c8 x.ps := hown8.below hL.out.2
    have k3 : Own 5 w8.heap.size w9 (some ⟨w8.heap.size, 0, none⟩) 1 1 [3] := World.ownsRow.kept k1 hg9 (rows_apart2 (by decide) k1 k2)
    exact k3.mono hsz8
  have hbw10 := hbw9.trans (hbS.mono hbw5.size)
  have hv10 := hv9.trans hbS
  have hcel10 := hcel9.below hbS hgl
  have HOK : Hid ((withO x A9 (x.m + 1) c9 (x.ps ++ [⟨52, some ⟨w8.heap.size, 0, none⟩, 1, [3]⟩])).ok (w9.setCell ⟨w5.heap.size, 12, none⟩ (.slice A9 (x.m + 1) c9))) := ⟨H0.out.ch.below hbw10, ⟨(ownC_far hown9 (Nat.lt_succ_self _) 12 _).rdc, fun p hp => by
    rcases List.mem_append.1 hp with hp | hp
    · exact (H0.out.os.2 p hp).below hbw10
    · simp only [List.mem_singleton] at hp
      subst hp
      exact (own_far hO3 (Nat.lt_succ_self _) 12 _).bs⟩⟩
  have HMM : Hid ((withO x A9 (x.m + 1) c9 (x.ps ++ [⟨52, some ⟨w8.heap.size, 0, none⟩, 1, [3]⟩])).mm = { x.mm with os := x.mm.os ++ [(52, [3])] }) := by
    show M.mk _ _ _ _ _ _ _ _ _ _ _ _ (osP (x.ps ++ [⟨52, some ⟨w8.heap.size, 0, none⟩, 1, [3]⟩])) = _
    rw [os_app]
    rfl
  have HFT : Hid (FitL (osP (x.ps ++ [⟨52, some ⟨w8.heap.size, 0, none⟩, 1, [3]⟩]))) := by
    show FitL (osP (x.ps ++ [⟨52, some ⟨w8.heap.size, 0, none⟩, 1, [3]⟩]))
    rw [os_app]
    exact fit_snoc HRM.out.2.2.1
  clear hO3 hg9 hown8 hown9 hL hcW9 hcY t0 t1 t2 t3 t4 t5 t6 t7 t8 t9 t10 t11 t12 s12 fz hb9 hb8 hcel9 hcel8 hcW8 hcel7 hcW7 hcel6 hcW6 hlit0 hrdx r12a hb7 hb6 hbS hbw9 hbw8 hbw7 hbw6 hv9 hv8 hv7 hsz6 hsz7 hsz8 r0 r1 r2 r3 r4 r5 r6 r7 r8 r9 r10 r11 r12
  generalize w9.setCell ⟨w5.heap.size, 12, none⟩ (.slice A9 (x.m + 1) c9) = w10 at *
  generalize (x.ps ++ [⟨52, some ⟨w8.heap.size, 0, none⟩, 1, [3]⟩]) = qs at *
  refine (as_msg (withO x A9 (x.m + 1) c9 qs) w10).mono ?_
  rintro e w11 ⟨rfl, hb11⟩
  have hbw11 := hbw10.trans (hb11.mono hbw10.size)
  have hv11 := hv10.trans (hb11.mono hv10.size)
  have hcel11 := hcel10.below hb11 hcel10.lt
  go_wp2_with fail
  refine (refBytes_any (withO x A9 (x.m + 1) c9 qs) w11 (HOK.out.below hb11) HRM.out.1 HRM.out.2.1 HFT.out).mono ?_
  rintro e w12 ⟨Ab, nb, cb, rfl, hown12, hb12⟩
  have hbw12 := hbw11.trans (hb12.mono hbw11.size)
  have hv12 := hv11.trans (hb12.mono hv11.size)
  have hcel12 := hcel11.below hb12 hcel11.lt
  have hbmx := hown12.bs.max
  have hbcp := hown12.bs.cap
  have HBL := Lib.hid hown12.bs.len
  have hb300 : 300 ≤ nb := by rw [← HBL.out]; exact bytes_ge _
  have r12 : w12.cell? ⟨w.heap.size, 12, none⟩ = some (.slice x.B x.m x.d) := by rw [hcel12.cell]; rfl
  clear hcel10 hcel11 hb11 hbw10 hv10 HOK HFT
  by_cases g1 : (128 : Int) < (nx : Int)
  · go_wp2_with fail
    refine (knows_yes E _ (HE.out.below hbw12)).mono ?_
    rintro e wk ⟨rfl, hbk⟩
    go_wp2
    go_ret
    exact ⟨rfl, hbw12.trans (hbk.mono hbw12.size)⟩
  by_cases g2 : (64 : Int) < (ny : Int)
  · go_wp2_with fail
    refine (knows_yes E _ (HE.out.below hbw12)).mono ?_
    rintro e wk ⟨rfl, hbk⟩
    go_wp2
    go_ret
    exact ⟨rfl, hbw12.trans (hbk.mono hbw12.size)⟩
  by_cases g3 : (1500 : Int) < (nb : Int)
  · go_wp2_with fail
    refine (knows_yes E _ (HE.out.below hbw12)).mono ?_
    rintro e wk ⟨rfl, hbk⟩
    go_wp2
    go_ret
    exact ⟨rfl, hbw12.trans (hbk.mono hbw12.size)⟩
  by_cases g4 : (60 : Int) ≤ (x.m : Int)
  · go_wp2_with fail
    refine (knows_yes E _ (HE.out.below hbw12)).mono ?_
    rintro e wk ⟨rfl, hbk⟩
    go_wp2
    go_ret
    exact ⟨rfl, hbw12.trans (hbk.mono hbw12.size)⟩
  obtain ⟨gb, rfl, hgb, _⟩ := hown12.head (by omega)
  have sl1 := fun W => byP.cut_own gb nb cb 108 108 rfl (by omega) (by omega) W
  have sl2 := fun W => byP.cut_own gb nb cb 44 44 rfl (by omega) (by omega) W
  have hnx0 : 0 < nx := by rw [← HX.out.len]; exact write_pos _
  have hny0 : 0 < ny := by rw [← HY.out.len]; exact write_pos _
  have hX12 := Lib.hid (HX.out.below hv12)
  have h511 : w5.heap.size ≤ w11.heap.size := hv11.size
  have hw11 : w.heap.size ≤ w11.heap.size := hbw11.size
  have hg11 : w.heap.size < w11.heap.size := by omega
  have hc108 : 108 + nx ≤ nb := by omega
  have hc44 : 44 + ny ≤ nb := by omega
  obtain ⟨R, HRR⟩ : ∃ R, Hid (R = if (joinL (osP x.ps) (osP ps1)).2 ≠ 0 then ([], (joinL (osP x.ps) (osP ps1)).2) else joinL (joinL (osP x.ps) (osP ps1)).1 (osP ps2)) := ⟨_, rfl⟩
  have HRD := Lib.hid (areas_read HRM.out (show x.mm.os.length < 60 by have e2 := H0.out.os.len; have e3 : x.mm.os.length = x.ps.length := os_len x.ps; omega) HG1.out HG2.out HX.out.len HY.out.len (by omega) (by omega) HMM.out (by rw [HBL.out]; omega) (show R = _ from HRR.out))
  obtain ⟨J1, HJ1⟩ : ∃ J1, Hid (joinL (osP x.ps) (osP ps1) = J1) := ⟨_, rfl⟩
  rw [HJ1.out] at HRR
  obtain ⟨l1, e1⟩ := J1
  simp only at HRR
  go_wp2_with (first
    | (refine wpList_cp byP rfl (.tmp 89) (.tmp 90) rfl hown12 108 hX12.out rfl rfl hnx0 hc108 ?_
       intro w13 hown13 hb13 _
       have hv13 := hv12.trans (hb13.mono h511)
       have hbw13 := hbw12.trans (hb13.mono hw11)
       have hcel13 := hcel12.below hb13 hg11
       have hY13 := Lib.hid (HY.out.below hv13))
    | (refine wpList_cp byP rfl (.tmp 93) (.tmp 94) rfl hown13 44 hY13.out rfl rfl hny0 hc44 ?_
       intro w14 hown14 hb14 _
       have hbw14 := hbw13.trans (hb14.mono hw11)
       have hcel14 := hcel13.below hb14 hg11
       have r12b : w14.cell? ⟨w.heap.size, 12, none⟩ = some (.slice x.B x.m x.d) := (by rw [hcel14.cell]; rfl)))
  clear g1 g2 g3 g4
  refine (Tw.refJoin_any x.B x.m x.d x.ps A1 n1 c1 ps1 w14 (H0.out.os.below hbw14) (HFI.out.below hbw14)).mono ?_
  rw [HJ1.out]
  rintro e w15 ⟨J, nj, cj, qj, rfl, hqj, hrj, hb15⟩
  have hbw15 := hbw14.trans (hb15.mono hbw14.size)
  have hcel15 := hcel14.below hb15 hcel14.lt
  have hown15 := hown14.below hb15
  have HQJ : Hid (osP qj = l1) := hqj
  clear sl1 sl2 hown12 hown13 hown14 hb12 hb13 hb14 hb15 hv12 hv13 hv11 hcel12 hcel13 hcel14 r12 r12b hX12 hY13 hbw11 hbw12 hbw13 hbw14 hqj
  by_cases he1 : e1 = 0
  rotate_left
  · have hne1 : (e1 == 0) = false := by simpa using he1
    have hne2 : (e1 != 0) = true := by simpa using he1
    have HR2 : Hid (R = ([], e1)) := by show R = _; rw [HRR.out, if_pos he1]
    rw [HR2.out] at HRD
    simp only [ne_eq, he1, not_false_eq_true] at HRD
    have HL1 : Hid (l1 = []) := by
      have := joinL_bad (l := osP x.ps) (m := osP ps1) (by rw [HJ1.out]; exact he1)
      rw [HJ1.out] at this
      exact this
    clear he1
    go_wp2_with fail
    refine (read_any E (some ⟨gb, 0, none⟩) nb cb _ _ (HE.out.below hbw15) hown15.bs).mono ?_
    rw [HRD.out]
    rintro e w17 ⟨z, rfl, hz, hzm, hb17⟩
    have hb18 : Below w17.heap.size w17 (w17.alloc (.cells z.cells 25)) := (Below.refl _ _).alloc (Nat.le_refl _) _
    have hb1518 := hb17.trans (hb18.mono hb17.size)
    have hbw18 := hbw15.trans (hb1518.mono hbw15.size)
    have hcel18 := hcel15.below hb1518 hcel15.lt
    have hcZ := Cel.born w17 25 z.cells
    have HZ := Lib.hid (hz.below hb18)
    have HJ := Lib.hid (hrj.below hb1518)
    have HSA : Hid (Tw.sameL (osP z.ps) (osP qj) = true) := decide_eq_true ((congrArg M.os hzm).trans (HQJ.out.trans HL1.out).symm)
    clear hown15 hz hrj hcel15 hb1518 hb18 hb17 hzm
    go_wp2_with fail
    generalize w17.alloc (.cells z.cells 25) = w18 at *
    generalize w17.heap.size = gz at *
    refine (Tw.same_any z.B z.m z.d z.ps J nj cj qj w18 HZ.out.os HJ.out).mono ?_
    rw [HSA.out]
    rintro e w19 ⟨rfl, hb19⟩
    have hbw19 := hbw18.trans (hb19.mono hbw18.size)
    clear hcZ hcel18
    go_wp2_with fail
    refine (knows_yes E _ (HE.out.below hbw19)).mono ?_
    rintro e wk ⟨rfl, hbk⟩
    go_wp2
    go_ret
    exact ⟨rfl, hbw19.trans (hbk.mono hbw19.size)⟩
  subst he1
  have HR2 : Hid (R = joinL l1 (osP ps2)) := by show R = _; rw [HRR.out]; rfl
  obtain ⟨J2, HJ2⟩ : ∃ J2, Hid (joinL l1 (osP ps2) = J2) := ⟨_, rfl⟩
  rw [HR2.out, HJ2.out] at HRD
  obtain ⟨l2, e2⟩ := J2
  simp only at HRD
  have HJ2' : Hid (joinL (osP qj) (osP ps2) = (l2, e2)) := by show joinL (osP qj) (osP ps2) = _; rw [HQJ.out]; exact HJ2.out
  go_wp2_with fail
  refine (Tw.refJoin_any J nj cj qj A2 n2 c2 ps2 w15 hrj (HNA.out.below hbw15)).mono ?_
  rw [HJ2'.out]
  clear hrj HQJ
  rintro e w16 ⟨J, nj, cj, qj, rfl, hqj, hrj, hb16⟩
  have hbw16 := hbw15.trans (hb16.mono hbw15.size)
  have hcel16 := hcel15.below hb16 hcel15.lt
  have hown16 := hown15.below hb16
  have HQJ : Hid (osP qj = l2) := hqj
  clear hqj hown15 hcel15 hb16 hbw15
  by_cases he2 : e2 = 0
  rotate_left
  · have hne2 : (e2 != 0) = true := by simpa using he2
    have HL2 : Hid (l2 = []) := by
      have := joinL_bad (l := l1) (m := osP ps2) (by rw [HJ2.out]; exact he2)
      rw [HJ2.out] at this
      exact this
    simp only [ne_eq, he2, not_false_eq_true, if_true] at HRD
    clear he2
    go_wp2_with fail
    refine (read_any E (some ⟨gb, 0, none⟩) nb cb _ _ (HE.out.below hbw16) hown16.bs).mono ?_
    rw [HRD.out]
    rintro e w17 ⟨z, rfl, hz, hzm, hb17⟩
    have hb18 : Below w17.heap.size w17 (w17.alloc (.cells z.cells 25)) := (Below.refl _ _).alloc (Nat.le_refl _) _
    have hb1618 := hb17.trans (hb18.mono hb17.size)
    have hbw18 := hbw16.trans (hb1618.mono hbw16.size)
    have hcel18 := hcel16.below hb1618 hcel16.lt
    have hcZ := Cel.born w17 25 z.cells
    have HZ := Lib.hid (hz.below hb18)
    have HJ := Lib.hid (hrj.below hb1618)
    have HSA : Hid (Tw.sameL (osP z.ps) (osP qj) = true) := decide_eq_true ((congrArg M.os hzm).trans (HQJ.out.trans HL2.out).symm)
    clear hown16 hz hrj hcel16 hb1618 hb18 hb17 hzm
    go_wp2_with fail
    generalize w17.alloc (.cells z.cells 25) = w18 at *
    generalize w17.heap.size = gz at *
    refine (Tw.same_any z.B z.m z.d z.ps J nj cj qj w18 HZ.out.os HJ.out).mono ?_
    rw [HSA.out]
    rintro e w19 ⟨rfl, hb19⟩
    have hbw19 := hbw18.trans (hb19.mono hbw18.size)
    clear hcZ hcel18
    go_wp2_with fail
    refine (knows_yes E _ (HE.out.below hbw19)).mono ?_
    rintro e wk ⟨rfl, hbk⟩
    go_wp2
    go_ret
    exact ⟨rfl, hbw19.trans (hbk.mono hbw19.size)⟩
  subst he2
  simp only [ne_eq, not_true_eq_false, if_false] at HRD
  go_wp2_with fail
  refine (read_any E (some ⟨gb, 0, none⟩) nb cb _ _ (HE.out.below hbw16) hown16.bs).mono ?_
  rw [HRD.out]
  rintro e w17 ⟨z, rfl, hz, hzm, hb17⟩
  have hb18 : Below w17.heap.size w17 (w17.alloc (.cells z.cells 25)) := (Below.refl _ _).alloc (Nat.le_refl _) _
  have hb1618 := hb17.trans (hb18.mono hb17.size)
  have hbw18 := hbw16.trans (hb1618.mono hbw16.size)
  have hcel18 := hcel16.below hb1618 hcel16.lt
  have hcZ := Cel.born w17 25 z.cells
  have HZ := Lib.hid (hz.below hb18)
  have HJ := Lib.hid (hrj.below hb1618)
  have HSA : Hid (Tw.sameL (osP z.ps) (osP qj) = true) := decide_eq_true ((congrArg M.os hzm).trans HQJ.out.symm)
  have hzx := Lib.hid (show z.xid = x.xid from congrArg M.xid hzm)
  clear hown16 hz hrj hcel16 hb1618 hb18 hb17 hzm
  go_wp2_with fail
  generalize w17.alloc (.cells z.cells 25) = w18 at *
  generalize w17.heap.size = gz at *
  refine (Tw.same_any z.B z.m z.d z.ps J nj cj qj w18 HZ.out.os HJ.out).mono ?_
  rw [HSA.out]
  rintro e w19 ⟨rfl, hb19⟩
  have hbw19 := hbw18.trans (hb19.mono hbw18.size)
  have kz : w19.cell? ⟨gz, 4, none⟩ = some (.int .i64 x.xid) := by rw [(hcZ.below hb19 hcZ.lt).cell, ← hzx.out]; rfl
  have kx : w19.cell? ⟨w.heap.size, 4, none⟩ = some (.int .i64 x.xid) := by rw [(hcel18.below hb19 hcel18.lt).cell]; rfl
  clear hzx hcZ hcel18
  go_wp2_with fail
  refine (knows_yes E _ (HE.out.below hbw19)).mono ?_
  rintro e wk ⟨rfl, hbk⟩
  go_wp2
  go_ret
  exact ⟨rfl, hbw19.trans (hbk.mono hbw19.size)⟩
end Go.Proofs.YtibcpdimdjipjaaDoor.Mw
