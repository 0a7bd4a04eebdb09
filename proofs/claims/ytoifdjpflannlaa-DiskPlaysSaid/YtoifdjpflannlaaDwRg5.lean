/- Words for a call of the document's that has its disk in a block and the answer's behind it; what its SyncDir, Remove and Rename come to. For disks whose names fit. -/
import Derived.Test.YtoifdjpflannlaaDwRg4
import Derived.Test.YtoifdjpflannlaaDwActs2
set_option maxRecDepth 8000
namespace Go.Proofs.Ytoifdjpflannlaa.Dw
open Go.RowKit By Dk

/-- A call that has its disk at w's end, and the answer's disk behind it. -/
structure Sr (w w1 : World) (cs : Array Value) : Prop where
  b : Below w.heap.size w w1
  s : w.heap.size + 2 ≤ w1.heap.size
  c0 : Cel w1 w.heap.size 32 cs
  c1 : Cel w1 (w.heap.size + 1) 32 #[.slice none 0 0, .slice none 0 0, .slice none 0 0]
theorem Sr.start (x : Dv) (w : World) : Sr w ((w.alloc (.cells x.cs 32)).alloc (.cells #[.slice none 0 0, .slice none 0 0, .slice none 0 0] 32)) x.cs := by
  refine ⟨((Below.refl _ _).alloc (Nat.le_refl _) _).alloc (by simp) _, by simp, (Cel.born w _ _).below ((Below.refl _ _).alloc (Nat.le_refl _) _) (by simp), ?_⟩
  have := Cel.born (w.alloc (.cells x.cs 32)) 32 #[.slice none 0 0, .slice none 0 0, .slice none 0 0]
  simpa using this
theorem Sr.below {w w1 w2 : World} {cs : Array Value} (h : Sr w w1 cs) {B : Nat} (hb : Below B w1 w2) (hB : w.heap.size + 2 ≤ B) : Sr w w2 cs := ⟨h.b.trans (hb.mono (by omega)), Nat.le_trans h.s hb.size, h.c0.below hb (by omega), h.c1.below hb (by omega)⟩
theorem Sr.put {w w1 : World} {a b c : Value} (h : Sr w w1 #[a, b, c]) (a' b' c' : Value) : Sr w (((w1.setCell ⟨w.heap.size, 0, none⟩ a').setCell ⟨w.heap.size, 1, none⟩ b').setCell ⟨w.heap.size, 2, none⟩ c') #[a', b', c'] :=
  ⟨below_put3 h.b (Nat.le_refl _) _ _ _, by simpa using h.s, cel_put3 h.c0, cel_far (cel_far (cel_far h.c1 (by omega) _ _) (by omega) _ _) (by omega) _ _⟩
theorem Sr.put1 {w w1 : World} {cs : Array Value} (h : Sr w w1 cs) (j : Nat) (v : Value) : Sr w (w1.setCell ⟨w.heap.size, j, none⟩ v) (cs.setIfInBounds j v) :=
  ⟨h.b.setCell (p := ⟨w.heap.size, j, none⟩) (Nat.le_refl _) v, by simpa using h.s, cel_put h.c0 j v, cel_far h.c1 (by omega) _ _⟩
theorem Sr.out {w w1 : World} {cs : Array Value} (h : Sr w w1 cs) (a b c : Value) : Below w.heap.size w (((w1.setCell ⟨w.heap.size + 1, 0, none⟩ a).setCell ⟨w.heap.size + 1, 1, none⟩ b).setCell ⟨w.heap.size + 1, 2, none⟩ c) := below_put3 h.b (by omega) _ _ _
/-- A disk that reads anywhere reads behind the answer, too. -/
theorem Sr.rd {w w1 : World} {cs : Array Value} (h : Sr w w1 cs) {B : Nat} {z : Dv} (hz : RdD B w1 z) (hB : B ≤ w1.heap.size) (a b c : Value) :
    RdD (((w1.setCell ⟨w.heap.size + 1, 0, none⟩ a).setCell ⟨w.heap.size + 1, 1, none⟩ b).setCell ⟨w.heap.size + 1, 2, none⟩ c).heap.size (((w1.setCell ⟨w.heap.size + 1, 0, none⟩ a).setCell ⟨w.heap.size + 1, 1, none⟩ b).setCell ⟨w.heap.size + 1, 2, none⟩ c) z :=
  (rdd_away hz h.c1 sl3 (cell_put3 _ _ _ _ _)).mono (by simpa using hB)
theorem ret_rdisk2 {fn : Func} {p u : Tmp} (hres : fn.results = #[.cell p 32, .tmp u]) (tmps : Array Value) (w : World) (g : Nat) (cs : Array Value) (hp : tmps.getD p undef = .pointer (some ⟨g, 0, none⟩)) (hc : Cel w g 32 cs) (hs : cs.size = 3) :
    (results fn tmps).run Try.prog w = .ok (.tuple #[.agg cs, tmps.getD u undef]) w := by
  rw [results_cell_tmp hres, hp]
  have := run_loadVar_row (P := Try.prog) w g 32 32 cs (0, 0) _ hc Try.underlying32 rfl (by rw [hs]; kernel_rfl)
  simp [asAddr, this]
theorem fiV_none : fiV none = -1 := rfl
theorem fiV_some (f : Int) : fiV (some f) = f := rfl
set_option maxHeartbeats 8000000 in
theorem refSyncDir_any (x : Dv) (w : World) (h : RdD w.heap.size w x) (hsm : Sm x.d) :
    Calls Try.prog 38 #[x.v] w (DR w (fun v => v) (syncDirK x.d)) := by
  obtain ⟨w1, hw1⟩ : ∃ w1, w1 = (w.alloc (.cells x.cs 32)).alloc (.cells #[.slice none 0 0, .slice none 0 0, .slice none 0 0] 32) := ⟨_, rfl⟩
  have S1 : Sr w w1 x.cs := by rw [hw1]; exact Sr.start x w
  have HG := Lib.hid (refGood_any w.heap.size x w1 (h.below S1.b) S1.b.size hsm)
  have HS1 := Lib.hid S1
  clear h S1 hsm
  go_enter Try.func38, Try.ntmps38
  go_wp2_with fail
  rw [← hw1]
  clear hw1
  refine HG.out.mono ?_
  rintro e w2 ⟨y, rfl, hy, hry, hb2⟩
  have S2 := HS1.out.below hb2 HS1.out.s
  obtain ⟨q0, q1, q2⟩ := ref_cel3 S2.c0
  obtain ⟨f0, f1, f2⟩ := cel_frs S2.c0
  obtain ⟨w3, hw3⟩ : ∃ w3, w3 = (((w2.setCell ⟨w.heap.size, 0, none⟩ (.slice y.fA y.fn y.fc)).setCell ⟨w.heap.size, 1, none⟩ (.slice y.nA y.nn y.nc)).setCell ⟨w.heap.size, 2, none⟩ (.slice y.kA y.kn y.kc)) := ⟨_, rfl⟩
  have S3 : Sr w w3 y.cs := by rw [hw3]; exact S2.put _ _ _
  have hr3 : RdD w.heap.size w3 y := by rw [hw3]; exact hry.below (below_put3 (Below.refl _ _) (Nat.le_refl _) _ _ _)
  have HS3 := Lib.hid S3
  have HR3 := Lib.hid hr3
  have HRD : Hid (RightD y.d) := by show RightD _; rw [hy]; exact good_right _
  have HY := Lib.hid hy
  obtain ⟨zl, zn, zk, zs, zb, zc⟩ := loose_facts HRD.out.2.1 hr3 (by have := HRD.out.1; omega)
  have h20 : y.fn ≤ 20 := by have := HRD.out.1; omega
  have HZB := Lib.hid zb
  have HZC := Lib.hid zc
  have HZS := Lib.hid zs
  have HZL := Lib.hid zl
  have hyfc := hr3.f.cap
  have hyfm := hr3.f.max
  clear hry hb2 S2 S3 hr3 hy zb zc zs zl HG HS1
  have hs2 := HS3.out.s
  obtain ⟨w8, hw8⟩ : ∃ w8, w8 = w3.setCell ⟨w.heap.size, 2, none⟩ (.slice y.nA y.nn y.nc) := ⟨_, rfl⟩
  have HS8 : Hid (Sr w w8 #[.slice y.fA y.fn y.fc, .slice y.nA y.nn y.nc, .slice y.nA y.nn y.nc]) := by show Sr _ _ _; rw [hw8]; exact HS3.out.put1 2 _
  have hr8 : RdD w8.heap.size w8 ⟨y.fA, y.fn, y.fc, y.xs, y.nA, y.nn, y.nc, y.now, y.nA, y.nn, y.nc, y.now⟩ := by
    have h1 : RdD w.heap.size w3 ⟨y.fA, y.fn, y.fc, y.xs, y.nA, y.nn, y.nc, y.now, y.nA, y.nn, y.nc, y.now⟩ := ⟨HR3.out.f, HR3.out.n, HR3.out.n⟩
    exact (h1.below (by rw [hw8]; exact (Below.refl _ _).setCell (p := ⟨w.heap.size, 2, none⟩) (Nat.le_refl _) _)).mono HS8.out.b.size
  have hL8 : Loose (⟨y.fA, y.fn, y.fc, y.xs, y.nA, y.nn, y.nc, y.now, y.nA, y.nn, y.nc, y.now⟩ : Dv).d := ⟨HRD.out.2.1.1, HRD.out.2.1.1, HRD.out.2.1.2.2⟩
  have H : Hid (syncDirK x.d = orderedD (⟨y.fA, y.fn, y.fc, y.xs, y.nA, y.nn, y.nc, y.now, y.nA, y.nn, y.nc, y.now⟩ : Dv).d) := by show _ = _; unfold syncDirK syncDirG; rw [← HY.out]; rfl
  have hlen8 : y.now.length + y.now.length ≤ 1000 := by have := HR3.out.n.len; omega
  obtain ⟨p0, p1, p2⟩ := ref_cel3 HS3.out.c0
  obtain ⟨g0, g1, g2⟩ := cel_frs HS3.out.c0
  rw [hw3] at hw8 p0 p1 p2 g0 g1 g2
  clear hw3
  have hcall := refOrdered_any ⟨y.fA, y.fn, y.fc, y.xs, y.nA, y.nn, y.nc, y.now, y.nA, y.nn, y.nc, y.now⟩ w8 hr8 (came_all hL8 hr8) (hlen8)
  have HCALL := Lib.hid hcall
  have hs8 := HS8.out.s
  obtain ⟨r0, r1, r2⟩ := ref_cel3 HS8.out.c0
  rw [hw8] at r0 r1 r2
  clear hcall hL8 hr8
  go_wp2_with fail
  rw [← hw8]
  clear hw8 r0 r1 r2 p0 p1 p2 g0 g1 g2 q0 q1 q2 f0 f1 f2
  refine HCALL.out.mono ?_
  rintro e w9 ⟨z, rfl, hz, hrz, hb9⟩
  have S9 := HS8.out.below hb9 hs8
  obtain ⟨t0, t1, t2⟩ := ref_cel3 S9.c1
  obtain ⟨g0, g1, g2⟩ := cel_frs S9.c1
  have HS9 := Lib.hid S9
  have HRZ := Lib.hid hrz
  have HZ := Lib.hid hz
  clear S9 hrz hz hb9
  go_wp2
  (try simp only [Exit.inBlock, Exit.then])
  refine bodyPost_ret (ret_rdisk rfl _ _ (w.heap.size + 1) z.cs rfl (cel_put3 HS9.out.c1) rfl) rfl ?_
  exact ⟨z, rfl, by rw [H.out]; exact HZ.out, HS9.out.rd HRZ.out (Nat.le_refl _) _ _ _, HS9.out.out _ _ _⟩
set_option maxHeartbeats 8000000 in
theorem refRemove_any (x : Dv) (t : N) (w : World) (h : RdD w.heap.size w x) (hsm : Sm x.d) :
    Calls Try.prog 37 #[x.v, .string (ba t)] w (DE w (removeK x.d t)) := by
  obtain ⟨w1, hw1⟩ : ∃ w1, w1 = (w.alloc (.cells x.cs 32)).alloc (.cells #[.slice none 0 0, .slice none 0 0, .slice none 0 0] 32) := ⟨_, rfl⟩
  have S1 : Sr w w1 x.cs := by rw [hw1]; exact Sr.start x w
  have HG := Lib.hid (refGood_any w.heap.size x w1 (h.below S1.b) S1.b.size hsm)
  have HS1 := Lib.hid S1
  clear h S1 hsm
  go_enter Try.func37, Try.ntmps37
  go_wp2_with fail
  rw [← hw1]
  clear hw1
  refine HG.out.mono ?_
  rintro e w2 ⟨y, rfl, hy, hry, hb2⟩
  have S2 := HS1.out.below hb2 HS1.out.s
  obtain ⟨q0, q1, q2⟩ := ref_cel3 S2.c0
  obtain ⟨f0, f1, f2⟩ := cel_frs S2.c0
  obtain ⟨w3, hw3⟩ : ∃ w3, w3 = (((w2.setCell ⟨w.heap.size, 0, none⟩ (.slice y.fA y.fn y.fc)).setCell ⟨w.heap.size, 1, none⟩ (.slice y.nA y.nn y.nc)).setCell ⟨w.heap.size, 2, none⟩ (.slice y.kA y.kn y.kc)) := ⟨_, rfl⟩
  have S3 : Sr w w3 y.cs := by rw [hw3]; exact S2.put _ _ _
  have hr3 : RdD w.heap.size w3 y := by rw [hw3]; exact hry.below (below_put3 (Below.refl _ _) (Nat.le_refl _) _ _ _)
  have HS3 := Lib.hid S3
  have HR3 := Lib.hid hr3
  have HRD : Hid (RightD y.d) := by show RightD _; rw [hy]; exact good_right _
  have HY := Lib.hid hy
  obtain ⟨zl, zn, zk, zs, zb, zc⟩ := loose_facts HRD.out.2.1 hr3 (by have := HRD.out.1; omega)
  have h20 : y.fn ≤ 20 := by have := HRD.out.1; omega
  have HZB := Lib.hid zb
  have HZC := Lib.hid zc
  have HZS := Lib.hid zs
  have HZL := Lib.hid zl
  have hyfc := hr3.f.cap
  have hyfm := hr3.f.max
  clear hry hb2 S2 S3 hr3 hy zb zc zs zl HG HS1
  have HFO := Lib.hid (refFind_any w.heap.size y.nA y.nn y.nc y.now t w3 HR3.out.n)
  go_wp2_with fail
  rw [← hw3]
  clear hw3 q0 q1 q2 f0 f1 f2
  refine HFO.out.mono ?_
  rintro e w4 ⟨rfl, rfl⟩
  obtain ⟨p0, p1, p2⟩ := ref_cel3 HS3.out.c0
  clear HFO
  cases hf : findE y.now t with
  | none =>
    have H : Hid (removeK x.d t = (y.d, 5)) := by
      show _ = _
      unfold removeK removeG
      rw [← HY.out, show findE y.d.now t = none from hf]
    rw [fiV_none]
    obtain ⟨t0, t1, t2⟩ := ref_cel3 HS3.out.c1
    obtain ⟨g0, g1, g2⟩ := cel_frs HS3.out.c1
    go_wp2
    (try simp only [Exit.inBlock, Exit.then])
    refine bodyPost_ret (ret_rdisk2 rfl _ _ (w.heap.size + 1) y.cs rfl (cel_put3 HS3.out.c1) rfl) rfl ?_
    exact ⟨y, by rw [H.out]; rfl, by rw [H.out], HS3.out.rd HR3.out HS3.out.b.size _ _ _, HS3.out.out _ _ _⟩
  | some f =>
    obtain ⟨g0, g1⟩ := find_range HRD.out (show findE y.d.now t = some f from hf)
    obtain ⟨k, rfl⟩ := Int.eq_ofNat_of_zero_le g0
    have hkl : k < y.fn := by have := HZL.out; omega
    rw [fiV_some]
    have HWO := Lib.hid (refWithout_any y.nA y.nn y.nc y.now t w3 (HR3.out.n.mono HS3.out.b.size) (by omega))
    have H : Hid (removeK x.d t = (orderedD (⟨fsOf y.xs, withoutE y.now t, y.kept⟩ : D), 0)) := by
      show _ = _
      unfold removeK removeG
      rw [← HY.out, show findE y.d.now t = some (k : Int) from hf]
      rfl
    have hNM : Named (withoutE y.now t) y.d.fs.length := named_without HRD.out.2.1.1
    have HNM := Lib.hid hNM
    clear hf hNM
    go_wp2_with fail
    refine HWO.out.mono ?_
    rintro e w7 ⟨A7, n7, c7, rfl, hown7, hb7⟩
    have hb37 : Below w.heap.size w3 w7 := hb7.mono HS3.out.b.size
    have S7 := HS3.out.below hb7 HS3.out.s
    obtain ⟨w8, hw8⟩ : ∃ w8, w8 = w7.setCell ⟨w.heap.size, 1, none⟩ (.slice A7 n7 c7) := ⟨_, rfl⟩
    have HS8 : Hid (Sr w w8 #[.slice y.fA y.fn y.fc, .slice A7 n7 c7, .slice y.kA y.kn y.kc]) := by show Sr _ _ _; rw [hw8]; exact S7.put1 1 _
    have hb38 : Below w.heap.size w3 w8 := by rw [hw8]; exact hb37.setCell (p := ⟨w.heap.size, 1, none⟩) (Nat.le_refl _) _
    have hr8 : RdD w8.heap.size w8 ⟨y.fA, y.fn, y.fc, y.xs, A7, n7, c7, withoutE y.now t, y.kA, y.kn, y.kc, y.kept⟩ := by
      refine ⟨(HR3.out.f.below hb38).mono HS8.out.b.size, ?_, (HR3.out.k.below hb38).mono HS8.out.b.size⟩
      rw [show w8.heap.size = w7.heap.size by rw [hw8]; simp, hw8]
      exact rdg_away (fun _ => ⟨0, _, rfl, rfl⟩) hown7.rd S7.c0 sl3 (cell_put1 _ _ _ _)
    obtain ⟨p0, p1, p2⟩ := ref_cel3 S7.c0
    obtain ⟨g0, g1, g2⟩ := cel_frs S7.c0
    have hL8 : Loose (⟨y.fA, y.fn, y.fc, y.xs, A7, n7, c7, withoutE y.now t, y.kA, y.kn, y.kc, y.kept⟩ : Dv).d := loose_now HRD.out HNM.out
    have hlen8 : (withoutE y.now t).length + y.kept.length ≤ 1000 := by
      have h1 := named_len HNM.out
      have h2 := HR3.out.k.len
      have h3 := HRD.out.1
      omega
    clear S7 hown7 hb7 hb37 hb38
    have hcall := refOrdered_any ⟨y.fA, y.fn, y.fc, y.xs, A7, n7, c7, withoutE y.now t, y.kA, y.kn, y.kc, y.kept⟩ w8 hr8 (came_all hL8 hr8) (hlen8)
    have HCALL := Lib.hid hcall
    have hs8 := HS8.out.s
    obtain ⟨r0, r1, r2⟩ := ref_cel3 HS8.out.c0
    rw [hw8] at r0 r1 r2
    clear hcall hL8 hr8
    go_wp2_with fail
    rw [← hw8]
    clear hw8 r0 r1 r2 p0 p1 p2 g0 g1 g2
    refine HCALL.out.mono ?_
    rintro e w9 ⟨z, rfl, hz, hrz, hb9⟩
    have S9 := HS8.out.below hb9 hs8
    obtain ⟨t0, t1, t2⟩ := ref_cel3 S9.c1
    obtain ⟨g0, g1, g2⟩ := cel_frs S9.c1
    have HS9 := Lib.hid S9
    have HRZ := Lib.hid hrz
    have HZ := Lib.hid hz
    clear S9 hrz hz hb9
    go_wp2
    (try simp only [Exit.inBlock, Exit.then])
    refine bodyPost_ret (ret_rdisk2 rfl _ _ (w.heap.size + 1) z.cs rfl (cel_put3 HS9.out.c1) rfl) rfl ?_
    exact ⟨z, by rw [H.out]; rfl, by rw [H.out]; exact HZ.out, HS9.out.rd HRZ.out (Nat.le_refl _) _ _ _, HS9.out.out _ _ _⟩
set_option maxHeartbeats 8000000 in
theorem refRename_any (x : Dv) (t u : N) (w : World) (h : RdD w.heap.size w x) (hsm : Sm x.d) (hu : u.length ≤ 9223372036854775807) :
    Calls Try.prog 36 #[x.v, .string (ba t), .string (ba u)] w (DE w (renameK x.d t u)) := by
  obtain ⟨w1, hw1⟩ : ∃ w1, w1 = (w.alloc (.cells x.cs 32)).alloc (.cells #[.slice none 0 0, .slice none 0 0, .slice none 0 0] 32) := ⟨_, rfl⟩
  have S1 : Sr w w1 x.cs := by rw [hw1]; exact Sr.start x w
  have HG := Lib.hid (refGood_any w.heap.size x w1 (h.below S1.b) S1.b.size hsm)
  have HS1 := Lib.hid S1
  have HFA := Lib.hid (fun W => refFair_any u W hu)
  clear h S1 hsm
  go_enter Try.func36, Try.ntmps36
  go_wp2_with fail
  rw [← hw1]
  clear hw1
  refine HG.out.mono ?_
  rintro e w2 ⟨y, rfl, hy, hry, hb2⟩
  have S2 := HS1.out.below hb2 HS1.out.s
  obtain ⟨q0, q1, q2⟩ := ref_cel3 S2.c0
  obtain ⟨f0, f1, f2⟩ := cel_frs S2.c0
  obtain ⟨w3, hw3⟩ : ∃ w3, w3 = (((w2.setCell ⟨w.heap.size, 0, none⟩ (.slice y.fA y.fn y.fc)).setCell ⟨w.heap.size, 1, none⟩ (.slice y.nA y.nn y.nc)).setCell ⟨w.heap.size, 2, none⟩ (.slice y.kA y.kn y.kc)) := ⟨_, rfl⟩
  have S3 : Sr w w3 y.cs := by rw [hw3]; exact S2.put _ _ _
  have hr3 : RdD w.heap.size w3 y := by rw [hw3]; exact hry.below (below_put3 (Below.refl _ _) (Nat.le_refl _) _ _ _)
  have HS3 := Lib.hid S3
  have HR3 := Lib.hid hr3
  have HRD : Hid (RightD y.d) := by show RightD _; rw [hy]; exact good_right _
  have HY := Lib.hid hy
  obtain ⟨zl, zn, zk, zs, zb, zc⟩ := loose_facts HRD.out.2.1 hr3 (by have := HRD.out.1; omega)
  have h20 : y.fn ≤ 20 := by have := HRD.out.1; omega
  have HZB := Lib.hid zb
  have HZC := Lib.hid zc
  have HZS := Lib.hid zs
  have HZL := Lib.hid zl
  have hyfc := hr3.f.cap
  have hyfm := hr3.f.max
  clear hry hb2 S2 S3 hr3 hy zb zc zs zl HG HS1
  have HFO := Lib.hid (refFind_any w.heap.size y.nA y.nn y.nc y.now t w3 HR3.out.n)
  go_wp2_with fail
  rw [← hw3]
  clear hw3 q0 q1 q2 f0 f1 f2
  refine HFO.out.mono ?_
  rintro e w4 ⟨rfl, rfl⟩
  obtain ⟨p0, p1, p2⟩ := ref_cel3 HS3.out.c0
  clear HFO
  cases hf : findE y.now t with
  | none =>
    have H : Hid (renameK x.d t u = (y.d, 5)) := by
      show _ = _
      unfold renameK renameG
      rw [← HY.out, show findE y.d.now t = none from hf]
    rw [fiV_none]
    obtain ⟨t0, t1, t2⟩ := ref_cel3 HS3.out.c1
    obtain ⟨g0, g1, g2⟩ := cel_frs HS3.out.c1
    go_wp2
    (try simp only [Exit.inBlock, Exit.then])
    refine bodyPost_ret (ret_rdisk2 rfl _ _ (w.heap.size + 1) y.cs rfl (cel_put3 HS3.out.c1) rfl) rfl ?_
    exact ⟨y, by rw [H.out]; rfl, by rw [H.out], HS3.out.rd HR3.out HS3.out.b.size _ _ _, HS3.out.out _ _ _⟩
  | some f =>
    obtain ⟨g0, g1⟩ := find_range HRD.out (show findE y.d.now t = some f from hf)
    obtain ⟨k, rfl⟩ := Int.eq_ofNat_of_zero_le g0
    have hkl : k < y.fn := by have := HZL.out; omega
    rw [fiV_some]
    by_cases hfu : FairN u
    rotate_left
    · have H : Hid (renameK x.d t u = (y.d, 1)) := by
        show _ = _
        unfold renameK renameG
        rw [← HY.out, show findE y.d.now t = some (k : Int) from hf]
        exact if_neg hfu
      have hfa := HFA.out w3
      rw [decide_eq_false hfu] at hfa
      have HFB := Lib.hid hfa
      clear hfa hf hfu HFA g0 g1
      go_wp2_with fail
      refine HFB.out.mono ?_
      rintro e w4 ⟨rfl, rfl⟩
      obtain ⟨t0, t1, t2⟩ := ref_cel3 HS3.out.c1
      obtain ⟨g0, g1, g2⟩ := cel_frs HS3.out.c1
      go_wp2
      (try simp only [Exit.inBlock, Exit.then])
      refine bodyPost_ret (ret_rdisk2 rfl _ _ (w.heap.size + 1) y.cs rfl (cel_put3 HS3.out.c1) rfl) rfl ?_
      exact ⟨y, by rw [H.out]; rfl, by rw [H.out], HS3.out.rd HR3.out HS3.out.b.size _ _ _, HS3.out.out _ _ _⟩
    have hfa := HFA.out w3
    rw [decide_eq_true hfu] at hfa
    have HFB := Lib.hid hfa
    have HW1 := Lib.hid (refWithout_any y.nA y.nn y.nc y.now t w3 (HR3.out.n.mono HS3.out.b.size) (by omega))
    have H : Hid (renameK x.d t u = (orderedD (⟨fsOf y.xs, withE (withoutE (withoutE y.now t) u) u (k : Int), y.kept⟩ : D), 0)) := by
      show _ = _
      unfold renameK renameG
      rw [← HY.out, show findE y.d.now t = some (k : Int) from hf]
      exact if_pos hfu
    have HNM : Hid (Named (withE (withoutE (withoutE y.now t) u) u (k : Int)) y.d.fs.length) := moved_named HRD.out (show findE y.d.now t = some (k : Int) from hf) hfu
    clear hfa hf hfu HFA g0 g1
    go_wp2_with fail
    refine HFB.out.mono ?_
    rintro e w4 ⟨rfl, rfl⟩
    go_wp2_with fail
    refine HW1.out.mono ?_
    rintro e w5 ⟨A5, n5, c5, rfl, hown5, hb5⟩
    have hl5 : n5 ≤ 1000 := by
      have h1 := hown5.len
      have h2 : (withoutE y.now t).length ≤ y.now.length := List.length_filter_le _ _
      have h3 := HR3.out.n.len
      omega
    have HW2 := Lib.hid (refWithout_any A5 n5 c5 (withoutE y.now t) u w5 hown5.rd hl5)
    have HL5 := Lib.hid hown5.len
    have HB5 := Lib.hid hb5
    clear hown5 hb5
    go_wp2_with fail
    refine HW2.out.mono ?_
    rintro e w6 ⟨A6, n6, c6, rfl, hown6, hb6⟩
    have hl6 : n6 ≤ 1000 := by
      have h1 := hown6.len
      have h2 : (withoutE (withoutE y.now t) u).length ≤ (withoutE y.now t).length := List.length_filter_le _ _
      have h3 := HL5.out
      omega
    have HW3 := Lib.hid (refWith_any A6 n6 c6 (withoutE (withoutE y.now t) u) u (k : Int) w6 hown6.rd hl6)
    have HB6 := Lib.hid (HB5.out.trans (hb6.mono HB5.out.size))
    clear hown6 hb6
    go_wp2_with fail
    refine HW3.out.mono ?_
    rintro e w7 ⟨A7, n7, c7, rfl, hown7, hb7'⟩
    have hb7 := HB6.out.trans (hb7'.mono HB6.out.size)
    have hb37 : Below w.heap.size w3 w7 := hb7.mono HS3.out.b.size
    have S7 := HS3.out.below hb7 HS3.out.s
    obtain ⟨w8, hw8⟩ : ∃ w8, w8 = w7.setCell ⟨w.heap.size, 1, none⟩ (.slice A7 n7 c7) := ⟨_, rfl⟩
    have HS8 : Hid (Sr w w8 #[.slice y.fA y.fn y.fc, .slice A7 n7 c7, .slice y.kA y.kn y.kc]) := by show Sr _ _ _; rw [hw8]; exact S7.put1 1 _
    have hb38 : Below w.heap.size w3 w8 := by rw [hw8]; exact hb37.setCell (p := ⟨w.heap.size, 1, none⟩) (Nat.le_refl _) _
    have hr8 : RdD w8.heap.size w8 ⟨y.fA, y.fn, y.fc, y.xs, A7, n7, c7, withE (withoutE (withoutE y.now t) u) u (k : Int), y.kA, y.kn, y.kc, y.kept⟩ := by
      refine ⟨(HR3.out.f.below hb38).mono HS8.out.b.size, ?_, (HR3.out.k.below hb38).mono HS8.out.b.size⟩
      rw [show w8.heap.size = w7.heap.size by rw [hw8]; simp, hw8]
      exact rdg_away (fun _ => ⟨0, _, rfl, rfl⟩) hown7.rd S7.c0 sl3 (cell_put1 _ _ _ _)
    clear p0 p1 p2
    obtain ⟨p0, p1, p2⟩ := ref_cel3 S7.c0
    obtain ⟨g0, g1, g2⟩ := cel_frs S7.c0
    have hL8 : Loose (⟨y.fA, y.fn, y.fc, y.xs, A7, n7, c7, withE (withoutE (withoutE y.now t) u) u (k : Int), y.kA, y.kn, y.kc, y.kept⟩ : Dv).d := loose_now HRD.out HNM.out
    have hlen8 : (withE (withoutE (withoutE y.now t) u) u (k : Int)).length + y.kept.length ≤ 1000 := by
      have h1 := named_len HNM.out
      have h2 := HR3.out.k.len
      have h3 := HRD.out.1
      omega
    clear S7 hown7 hb7 hb7' hb37 hb38
    have hcall := refOrdered_any ⟨y.fA, y.fn, y.fc, y.xs, A7, n7, c7, withE (withoutE (withoutE y.now t) u) u (k : Int), y.kA, y.kn, y.kc, y.kept⟩ w8 hr8 (came_all hL8 hr8) (hlen8)
    have HCALL := Lib.hid hcall
    have hs8 := HS8.out.s
    obtain ⟨r0, r1, r2⟩ := ref_cel3 HS8.out.c0
    rw [hw8] at r0 r1 r2
    clear hcall hL8 hr8
    go_wp2_with fail
    rw [← hw8]
    clear hw8 r0 r1 r2 p0 p1 p2 g0 g1 g2
    refine HCALL.out.mono ?_
    rintro e w9 ⟨z, rfl, hz, hrz, hb9⟩
    have S9 := HS8.out.below hb9 hs8
    obtain ⟨t0, t1, t2⟩ := ref_cel3 S9.c1
    obtain ⟨g0, g1, g2⟩ := cel_frs S9.c1
    have HS9 := Lib.hid S9
    have HRZ := Lib.hid hrz
    have HZ := Lib.hid hz
    clear S9 hrz hz hb9
    go_wp2
    (try simp only [Exit.inBlock, Exit.then])
    refine bodyPost_ret (ret_rdisk2 rfl _ _ (w.heap.size + 1) z.cs rfl (cel_put3 HS9.out.c1) rfl) rfl ?_
    exact ⟨z, by rw [H.out]; rfl, by rw [H.out]; exact HZ.out, HS9.out.rd HRZ.out (Nat.le_refl _) _ _ _, HS9.out.out _ _ _⟩
end Go.Proofs.Ytoifdjpflannlaa.Dw
