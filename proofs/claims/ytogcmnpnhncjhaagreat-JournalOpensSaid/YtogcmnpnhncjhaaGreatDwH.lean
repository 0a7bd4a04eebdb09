/- Words for a call of the document's that has its disk in a block and the answer's behind it; what its SyncDir, Remove and Rename come to. For disks whose names fit. -/
import Derived.Test.YtogcmnpnhncjhaaGreatDwG
import Derived.Test.YtogcmnpnhncjhaaGreatDwC
import Derived.Deep.RegionWith
section
set_option maxRecDepth 8000
namespace Go.Proofs.YtogcmnpnhncjhaaGreat.Dw
open Go.RowKit By Dk

/-- A call that has its disk at w's end, and the answer's disk behind it. -/
structure Sr (w w1 : World) (cs : Array Value) : Prop where
  b : Below w.heap.size w w1
  s : w.heap.size + 2 ≤ w1.heap.size
  c0 : Cel w1 w.heap.size 34 cs
  c1 : Cel w1 (w.heap.size + 1) 34 #[.slice none 0 0, .slice none 0 0, .slice none 0 0]
theorem Sr.start (x : Dv) (w : World) : Sr w ((w.alloc (.cells x.cs 34)).alloc (.cells #[.slice none 0 0, .slice none 0 0, .slice none 0 0] 34)) x.cs := by
  refine ⟨((Below.refl _ _).alloc (Nat.le_refl _) _).alloc (by simp) _, by simp, (Cel.born w _ _).below ((Below.refl _ _).alloc (Nat.le_refl _) _) (by simp), ?_⟩
  have := Cel.born (w.alloc (.cells x.cs 34)) 34 #[.slice none 0 0, .slice none 0 0, .slice none 0 0]
  simpa using this
theorem Sr.below {w w1 w2 : World} {cs : Array Value} (h : Sr w w1 cs) {B : Nat} (hb : Below B w1 w2) (hB : w.heap.size + 2 ≤ B) : Sr w w2 cs := ⟨h.b.trans (hb.mono (by omega)), Nat.le_trans h.s hb.size, h.c0.below hb (by omega), h.c1.below hb (by omega)⟩
theorem Sr.put {w w1 : World} {a b c : Value} (h : Sr w w1 #[a, b, c]) (a' b' c' : Value) : Sr w (((w1.setCell ⟨w.heap.size, 0, none⟩ a').setCell ⟨w.heap.size, 1, none⟩ b').setCell ⟨w.heap.size, 2, none⟩ c') #[a', b', c'] :=
  ⟨below_put3 h.b (Nat.le_refl _) _ _ _, by simpa using h.s, cel_put3 h.c0, cel_far (cel_far (cel_far h.c1 (by omega) _ _) (by omega) _ _) (by omega) _ _⟩
theorem Sr.put1 {w w1 : World} {cs : Array Value} (h : Sr w w1 cs) (j : Nat) (v : Value) : Sr w (w1.setCell ⟨w.heap.size, j, none⟩ v) (cs.setIfInBounds j v) :=
  ⟨h.b.setCell (p := ⟨w.heap.size, j, none⟩) (Nat.le_refl _) v, by simpa using h.s, cel_put h.c0 j v, cel_far h.c1 (by omega) _ _⟩
theorem Sr.out {w w1 : World} {cs : Array Value} (h : Sr w w1 cs) (a b c : Value) : Below w.heap.size w (((w1.setCell ⟨w.heap.size + 1, 0, none⟩ a).setCell ⟨w.heap.size + 1, 1, none⟩ b).setCell ⟨w.heap.size + 1, 2, none⟩ c) := below_put3 h.b (by omega) _ _ _
/-- A disk that reads anywhere reads behind the answer, too. -/
theorem Sr.rd {w w1 : World} {cs : Array Value} (h : Sr w w1 cs) {B : Nat} {z : Dv} (hz : RdD B w1 z) (hB : B ≤ w1.heap.size) (a b c : Value) :
    RdD (((w1.setCell ⟨w.heap.size + 1, 0, none⟩ a).setCell ⟨w.heap.size + 1, 1, none⟩ b).setCell ⟨w.heap.size + 1, 2, none⟩ c).heap.size (((w1.setCell ⟨w.heap.size + 1, 0, none⟩ a).setCell ⟨w.heap.size + 1, 1, none⟩ b).setCell ⟨w.heap.size + 1, 2, none⟩ c) z :=
  (rdd_away hz h.c1 sl3 (cell_put3 _ _ _ _ _)).mono (by simpa using hB)
theorem ret_rdisk2 {fn : Func} {p u : Tmp} (hres : fn.results = #[.cell p 34, .tmp u]) (tmps : Array Value) (w : World) (g : Nat) (cs : Array Value) (hp : tmps.getD p undef = .pointer (some ⟨g, 0, none⟩)) (hc : Cel w g 34 cs) (hs : cs.size = 3) :
    (results fn tmps).run Tryz.prog w = .ok (.tuple #[.agg cs, tmps.getD u undef]) w := by
  rw [results_cell_tmp hres, hp]
  have := run_loadVar_row (P := Tryz.prog) w g 34 34 cs (0, 0) _ hc Tryz.underlying34 rfl (by rw [hs]; kernel_rfl)
  simp [asAddr, this]
theorem fiV_none : fiV none = -1 := rfl
theorem fiV_some (f : Int) : fiV (some f) = f := rfl
set_option maxHeartbeats 8000000 in
theorem refSyncDir_any (x : Dv) (w : World) (h : RdD w.heap.size w x) (hsm : Sm x.d) :
    Calls Tryz.prog 23 #[x.v] w (DR w (fun v => v) (syncDirK x.d)) := by
  obtain ⟨w1, hw1⟩ : ∃ w1, w1 = (w.alloc (.cells x.cs 34)).alloc (.cells #[.slice none 0 0, .slice none 0 0, .slice none 0 0] 34) := ⟨_, rfl⟩
  have S1 : Sr w w1 x.cs := by rw [hw1]; exact Sr.start x w
  have HG := Lib.hid (refGood_any w.heap.size x w1 (h.below S1.b) S1.b.size hsm)
  have HS1 := Lib.hid S1
  clear h S1 hsm
  go_enter Tryz.func23, Tryz.ntmps23
  go_wp2_with fail
  rw [← hw1]
  clear hw1
  refine HG.out.mono ?_
  rintro e w2 ⟨y, rfl, hy, hry, hb2⟩
  have S2 := HS1.out.below hb2 HS1.out.s
  obtain ⟨q0, q1, q2⟩ := ref_cel3 S2.c0
  obtain ⟨f0, f1, f2⟩ := cel_frs S2.c0
  obtain ⟨w3, hw3⟩ : ∃ w3, w3 = (((w2.setCell ⟨w.heap.size, 0, none⟩ (.slice y.fA y.fn y.fc)).setCell ⟨w.heap.size, 1, none⟩ (.slice y.nA y.nn y.nc)).setCell ⟨w.heap.size, 2, none⟩ (.slice y.kA y.kn y.kc)) := ⟨_, rfl⟩
  have S3 : Sr w w3 y.cs := by rw [hw3]; exact S2.put _ _ _
  have hr3 : RdD w.heap.size w3 y := by rw [hw3]; exact hry.below (below_put3 (Below.refl _ _) (Nat.le_refl _) _ _ _)
  have HS3 := Lib.hid S3
  have HR3 := Lib.hid hr3
  have HRD : Hid (RightD y.d) := by show RightD _; rw [hy]; exact good_right _
  have HY := Lib.hid hy
  obtain ⟨zl, zn, zk, zs, zb, zc⟩ := loose_facts HRD.out.2.1 hr3 (by have := HRD.out.1; omega)
  have h20 : y.fn ≤ 20 := by have := HRD.out.1; omega
  have HZB := Lib.hid zb
  have HZC := Lib.hid zc
  have HZS := Lib.hid zs
  have HZL := Lib.hid zl
  have hyfc := hr3.f.cap
  have hyfm := hr3.f.max
  clear hry hb2 S2 S3 hr3 hy zb zc zs zl HG HS1
  have hs2 := HS3.out.s
  obtain ⟨w8, hw8⟩ : ∃ w8, w8 = w3.setCell ⟨w.heap.size, 2, none⟩ (.slice y.nA y.nn y.nc) := ⟨_, rfl⟩
  have HS8 : Hid (Sr w w8 #[.slice y.fA y.fn y.fc, .slice y.nA y.nn y.nc, .slice y.nA y.nn y.nc]) := by show Sr _ _ _; rw [hw8]; exact HS3.out.put1 2 _
  have hr8 : RdD w8.heap.size w8 ⟨y.fA, y.fn, y.fc, y.xs, y.nA, y.nn, y.nc, y.now, y.nA, y.nn, y.nc, y.now⟩ := by
    have h1 : RdD w.heap.size w3 ⟨y.fA, y.fn, y.fc, y.xs, y.nA, y.nn, y.nc, y.now, y.nA, y.nn, y.nc, y.now⟩ := ⟨HR3.out.f, HR3.out.n, HR3.out.n⟩
    exact (h1.below (by rw [hw8]; exact (Below.refl _ _).setCell (p := ⟨w.heap.size, 2, none⟩) (Nat.le_refl _) _)).mono HS8.out.b.size
  have hL8 : Loose (⟨y.fA, y.fn, y.fc, y.xs, y.nA, y.nn, y.nc, y.now, y.nA, y.nn, y.nc, y.now⟩ : Dv).d := ⟨HRD.out.2.1.1, HRD.out.2.1.1, HRD.out.2.1.2.2⟩
  have H : Hid (syncDirK x.d = orderedD (⟨y.fA, y.fn, y.fc, y.xs, y.nA, y.nn, y.nc, y.now, y.nA, y.nn, y.nc, y.now⟩ : Dv).d) := by show _ = _; unfold syncDirK syncDirG; rw [← HY.out]; rfl
  have hlen8 : y.now.length + y.now.length ≤ 1000 := by have := HR3.out.n.len; omega
  obtain ⟨p0, p1, p2⟩ := ref_cel3 HS3.out.c0
  obtain ⟨g0, g1, g2⟩ := cel_frs HS3.out.c0
  rw [hw3] at hw8 p0 p1 p2 g0 g1 g2
  clear hw3
  have hcall := refOrdered_any ⟨y.fA, y.fn, y.fc, y.xs, y.nA, y.nn, y.nc, y.now, y.nA, y.nn, y.nc, y.now⟩ w8 hr8 (came_all hL8 hr8) (hlen8)
  have HCALL := Lib.hid hcall
  have hs8 := HS8.out.s
  obtain ⟨r0, r1, r2⟩ := ref_cel3 HS8.out.c0
  rw [hw8] at r0 r1 r2
  clear hcall hL8 hr8
  go_wp2_with fail
  rw [← hw8]
  clear hw8 r0 r1 r2 p0 p1 p2 g0 g1 g2 q0 q1 q2 f0 f1 f2
  refine HCALL.out.mono ?_
  rintro e w9 ⟨z, rfl, hz, hrz, hb9⟩
  have S9 := HS8.out.below hb9 hs8
  obtain ⟨t0, t1, t2⟩ := ref_cel3 S9.c1
  obtain ⟨g0, g1, g2⟩ := cel_frs S9.c1
  have HS9 := Lib.hid S9
  have HRZ := Lib.hid hrz
  have HZ := Lib.hid hz
  clear S9 hrz hz hb9
  go_wp2
  (try simp only [Exit.inBlock, Exit.then])
  refine bodyPost_ret (ret_rdisk rfl _ _ (w.heap.size + 1) z.cs rfl (cel_put3 HS9.out.c1) rfl) rfl ?_
  exact ⟨z, rfl, by rw [H.out]; exact HZ.out, HS9.out.rd HRZ.out (Nat.le_refl _) _ _ _, HS9.out.out _ _ _⟩
set_option maxHeartbeats 8000000 in
theorem refRemove_any (x : Dv) (t : N) (w : World) (h : RdD w.heap.size w x) (hsm : Sm x.d) :
    Calls Tryz.prog 22 #[x.v, .string (ba t)] w (DE w (removeK x.d t)) := by
  obtain ⟨w1, hw1⟩ : ∃ w1, w1 = (w.alloc (.cells x.cs 34)).alloc (.cells #[.slice none 0 0, .slice none 0 0, .slice none 0 0] 34) := ⟨_, rfl⟩
  have S1 : Sr w w1 x.cs := by rw [hw1]; exact Sr.start x w
  have HG := Lib.hid (refGood_any w.heap.size x w1 (h.below S1.b) S1.b.size hsm)
  have HS1 := Lib.hid S1
  clear h S1 hsm
  go_enter Tryz.func22, Tryz.ntmps22
  go_wp2_with fail
  rw [← hw1]
  clear hw1
  refine HG.out.mono ?_
  rintro e w2 ⟨y, rfl, hy, hry, hb2⟩
  have S2 := HS1.out.below hb2 HS1.out.s
  obtain ⟨q0, q1, q2⟩ := ref_cel3 S2.c0
  obtain ⟨f0, f1, f2⟩ := cel_frs S2.c0
  obtain ⟨w3, hw3⟩ : ∃ w3, w3 = (((w2.setCell ⟨w.heap.size, 0, none⟩ (.slice y.fA y.fn y.fc)).setCell ⟨w.heap.size, 1, none⟩ (.slice y.nA y.nn y.nc)).setCell ⟨w.heap.size, 2, none⟩ (.slice y.kA y.kn y.kc)) := ⟨_, rfl⟩
  have S3 : Sr w w3 y.cs := by rw [hw3]; exact S2.put _ _ _
  have hr3 : RdD w.heap.size w3 y := by rw [hw3]; exact hry.below (below_put3 (Below.refl _ _) (Nat.le_refl _) _ _ _)
  have HS3 := Lib.hid S3
  have HR3 := Lib.hid hr3
  have HRD : Hid (RightD y.d) := by show RightD _; rw [hy]; exact good_right _
  have HY := Lib.hid hy
  obtain ⟨zl, zn, zk, zs, zb, zc⟩ := loose_facts HRD.out.2.1 hr3 (by have := HRD.out.1; omega)
  have h20 : y.fn ≤ 20 := by have := HRD.out.1; omega
  have HZB := Lib.hid zb
  have HZC := Lib.hid zc
  have HZS := Lib.hid zs
  have HZL := Lib.hid zl
  have hyfc := hr3.f.cap
  have hyfm := hr3.f.max
  clear hry hb2 S2 S3 hr3 hy zb zc zs zl HG HS1
  have HFO := Lib.hid (refFind_any w.heap.size y.nA y.nn y.nc y.now t w3 HR3.out.n)
  go_wp2_with fail
  rw [← hw3]
  clear hw3 q0 q1 q2 f0 f1 f2
  refine HFO.out.mono ?_
  rintro e w4 ⟨rfl, rfl⟩
  obtain ⟨p0, p1, p2⟩ := ref_cel3 HS3.out.c0
  clear HFO
  cases hf : findE y.now t with
  | none =>
    have H : Hid (removeK x.d t = (y.d, 5)) := by
      show _ = _
      unfold removeK removeG
      rw [← HY.out, show findE y.d.now t = none from hf]
    rw [fiV_none]
    obtain ⟨t0, t1, t2⟩ := ref_cel3 HS3.out.c1
    obtain ⟨g0, g1, g2⟩ := cel_frs HS3.out.c1
    go_wp2
    (try simp only [Exit.inBlock, Exit.then])
    refine bodyPost_ret (ret_rdisk2 rfl _ _ (w.heap.size + 1) y.cs rfl (cel_put3 HS3.out.c1) rfl) rfl ?_
    exact ⟨y, by rw [H.out]; rfl, by rw [H.out], HS3.out.rd HR3.out HS3.out.b.size _ _ _, HS3.out.out _ _ _⟩
  | some f =>
    obtain ⟨g0, g1⟩ := find_range HRD.out (show findE y.d.now t = some f from hf)
    obtain ⟨k, rfl⟩ := Int.eq_ofNat_of_zero_le g0
    have hkl : k < y.fn := by have := HZL.out; omega
    rw [fiV_some]
    have HWO := Lib.hid (refWithout_any y.nA y.nn y.nc y.now t w3 (HR3.out.n.mono HS3.out.b.size) (by omega))
    have H : Hid (removeK x.d t = (orderedD (⟨fsOf y.xs, withoutE y.now t, y.kept⟩ : D), 0)) := by
      show _ = _
      unfold removeK removeG
      rw [← HY.out, show findE y.d.now t = some (k : Int) from hf]
      rfl
    have hNM : Named (withoutE y.now t) y.d.fs.length := named_without HRD.out.2.1.1
    have HNM := Lib.hid hNM
    clear hf hNM
    go_wp2_with fail
    refine HWO.out.mono ?_
    rintro e w7 ⟨A7, n7, c7, rfl, hown7, hb7⟩
    have hb37 : Below w.heap.size w3 w7 := hb7.mono HS3.out.b.size
    have S7 := HS3.out.below hb7 HS3.out.s
    obtain ⟨w8, hw8⟩ : ∃ w8, w8 = w7.setCell ⟨w.heap.size, 1, none⟩ (.slice A7 n7 c7) := ⟨_, rfl⟩
    have HS8 : Hid (Sr w w8 #[.slice y.fA y.fn y.fc, .slice A7 n7 c7, .slice y.kA y.kn y.kc]) := by show Sr _ _ _; rw [hw8]; exact S7.put1 1 _
    have hb38 : Below w.heap.size w3 w8 := by rw [hw8]; exact hb37.setCell (p := ⟨w.heap.size, 1, none⟩) (Nat.le_refl _) _
    have hr8 : RdD w8.heap.size w8 ⟨y.fA, y.fn, y.fc, y.xs, A7, n7, c7, withoutE y.now t, y.kA, y.kn, y.kc, y.kept⟩ := by
      refine ⟨(HR3.out.f.below hb38).mono HS8.out.b.size, ?_, (HR3.out.k.below hb38).mono HS8.out.b.size⟩
      rw [show w8.heap.size = w7.heap.size by rw [hw8]; simp, hw8]
      exact rdg_away (fun _ => ⟨0, _, rfl, rfl⟩) hown7.rd S7.c0 sl3 (cell_put1 _ _ _ _)
    obtain ⟨p0, p1, p2⟩ := ref_cel3 S7.c0
    obtain ⟨g0, g1, g2⟩ := cel_frs S7.c0
    have hL8 : Loose (⟨y.fA, y.fn, y.fc, y.xs, A7, n7, c7, withoutE y.now t, y.kA, y.kn, y.kc, y.kept⟩ : Dv).d := loose_now HRD.out HNM.out
    have hlen8 : (withoutE y.now t).length + y.kept.length ≤ 1000 := by
      have h1 := named_len HNM.out
      have h2 := HR3.out.k.len
      have h3 := HRD.out.1
      omega
    clear S7 hown7 hb7 hb37 hb38
    have hcall := refOrdered_any ⟨y.fA, y.fn, y.fc, y.xs, A7, n7, c7, withoutE y.now t, y.kA, y.kn, y.kc, y.kept⟩ w8 hr8 (came_all hL8 hr8) (hlen8)
    have HCALL := Lib.hid hcall
    have hs8 := HS8.out.s
    obtain ⟨r0, r1, r2⟩ := ref_cel3 HS8.out.c0
    rw [hw8] at r0 r1 r2
    clear hcall hL8 hr8
    go_wp2_with fail
    rw [← hw8]
    clear hw8 r0 r1 r2 p0 p1 p2 g0 g1 g2
    refine HCALL.out.mono ?_
    rintro e w9 ⟨z, rfl, hz, hrz, hb9⟩
    have S9 := HS8.out.below hb9 hs8
    obtain ⟨t0, t1, t2⟩ := ref_cel3 S9.c1
    obtain ⟨g0, g1, g2⟩ := cel_frs S9.c1
    have HS9 := Lib.hid S9
    have HRZ := Lib.hid hrz
    have HZ := Lib.hid hz
    clear S9 hrz hz hb9
    go_wp2
    (try simp only [Exit.inBlock, Exit.then])
    refine bodyPost_ret (ret_rdisk2 rfl _ _ (w.heap.size + 1) z.cs rfl (cel_put3 HS9.out.c1) rfl) rfl ?_
    exact ⟨z, by rw [H.out]; rfl, by rw [H.out]; exact HZ.out, HS9.out.rd HRZ.out (Nat.le_refl _) _ _ _, HS9.out.out _ _ _⟩
end Go.Proofs.YtogcmnpnhncjhaaGreat.Dw
end
/- What the document's Sync and Cut come to. For disks whose names fit. -/
section
set_option maxRecDepth 8000
namespace Go.Proofs.YtogcmnpnhncjhaaGreat.Dw
open Go.RowKit By Dk

set_option maxHeartbeats 8000000 in
theorem refSync_any (x : Dv) (t : N) (w : World) (h : RdD w.heap.size w x) (hsm : Sm x.d) :
    Calls Tryz.prog 21 #[x.v, .string (ba t)] w (DE w (syncK x.d t)) := by
  obtain ⟨w1, hw1⟩ : ∃ w1, w1 = (w.alloc (.cells x.cs 34)).alloc (.cells #[.slice none 0 0, .slice none 0 0, .slice none 0 0] 34) := ⟨_, rfl⟩
  have S1 : Sr w w1 x.cs := by rw [hw1]; exact Sr.start x w
  have HG := Lib.hid (refGood_any w.heap.size x w1 (h.below S1.b) S1.b.size hsm)
  have HS1 := Lib.hid S1
  clear h S1 hsm
  go_enter Tryz.func21, Tryz.ntmps21
  go_wp2_with fail
  rw [← hw1]
  clear hw1
  refine HG.out.mono ?_
  rintro e w2 ⟨y, rfl, hy, hry, hb2⟩
  have S2 := HS1.out.below hb2 HS1.out.s
  obtain ⟨q0, q1, q2⟩ := ref_cel3 S2.c0
  obtain ⟨f0, f1, f2⟩ := cel_frs S2.c0
  obtain ⟨w3, hw3⟩ : ∃ w3, w3 = (((w2.setCell ⟨w.heap.size, 0, none⟩ (.slice y.fA y.fn y.fc)).setCell ⟨w.heap.size, 1, none⟩ (.slice y.nA y.nn y.nc)).setCell ⟨w.heap.size, 2, none⟩ (.slice y.kA y.kn y.kc)) := ⟨_, rfl⟩
  have S3 : Sr w w3 y.cs := by rw [hw3]; exact S2.put _ _ _
  have hr3 : RdD w.heap.size w3 y := by rw [hw3]; exact hry.below (below_put3 (Below.refl _ _) (Nat.le_refl _) _ _ _)
  have HS3 := Lib.hid S3
  have HR3 := Lib.hid hr3
  have HRD : Hid (RightD y.d) := by show RightD _; rw [hy]; exact good_right _
  have HY := Lib.hid hy
  obtain ⟨zl, zn, zk, zs, zb, zc⟩ := loose_facts HRD.out.2.1 hr3 (by have := HRD.out.1; omega)
  have h20 : y.fn ≤ 20 := by have := HRD.out.1; omega
  have HZB := Lib.hid zb
  have HZC := Lib.hid zc
  have HZS := Lib.hid zs
  have HZL := Lib.hid zl
  have hyfc := hr3.f.cap
  have hyfm := hr3.f.max
  clear hry hb2 S2 S3 hr3 hy zb zc zs zl HG HS1
  have HFO := Lib.hid (refFind_any w.heap.size y.nA y.nn y.nc y.now t w3 HR3.out.n)
  go_wp2_with fail
  rw [← hw3]
  clear hw3 q0 q1 q2 f0 f1 f2
  refine HFO.out.mono ?_
  rintro e w4 ⟨rfl, rfl⟩
  obtain ⟨p0, p1, p2⟩ := ref_cel3 HS3.out.c0
  clear HFO
  cases hf : findE y.now t with
  | none =>
    have H : Hid (syncK x.d t = (y.d, 5)) := by
      show _ = _
      unfold syncK syncG
      rw [← HY.out, show findE y.d.now t = none from hf]
    rw [fiV_none]
    obtain ⟨t0, t1, t2⟩ := ref_cel3 HS3.out.c1
    obtain ⟨g0, g1, g2⟩ := cel_frs HS3.out.c1
    go_wp2
    (try simp only [Exit.inBlock, Exit.then])
    refine bodyPost_ret (ret_rdisk2 rfl _ _ (w.heap.size + 1) y.cs rfl (cel_put3 HS3.out.c1) rfl) rfl ?_
    exact ⟨y, by rw [H.out]; rfl, by rw [H.out], HS3.out.rd HR3.out HS3.out.b.size _ _ _, HS3.out.out _ _ _⟩
  | some f =>
    obtain ⟨g0, g1⟩ := find_range HRD.out (show findE y.d.now t = some f from hf)
    obtain ⟨k, rfl⟩ := Int.eq_ofNat_of_zero_le g0
    have hkl : k < y.fn := by have := HZL.out; omega
    rw [fiV_some]
    obtain ⟨bo, o, v, eA, hbo, HE, hbs, d1, d2⟩ := atF HR3.out.f hkl
    have HV4 : Hid (fileAt y.d (k : Int) = v.f) := fileAt_get (by omega) (by simpa using HE.out)
    have hvl : v.l.length ≤ 20000 := HZB.out v (List.mem_of_getElem? HE.out)
    have eA2 := Lib.hid eA
    have hlen : (fileAt y.d (k : Int)).d.length = v.l.length := by rw [HV4.out]; rfl
    rw [eA] at p0
    have hk0 : (0 : Int) ≤ (k : Int) := by omega
    have hkz : (k : Int) < (y.fn : Int) := by omega
    have hs3 := HS3.out.s
    have hvc := hbs.bs.cap
    have hvm := hbs.bs.max
    have H : Hid (syncK x.d t = (setD y.d (k : Int) ⟨v.l, (v.l.length : Nat)⟩, 0)) := by
      show _ = _
      unfold syncK syncG
      rw [← HY.out, show findE y.d.now t = some (k : Int) from hf]
      simp only
      rw [HV4.out]
      rfl
    have hcall := refSet_any y k ⟨v.A, v.c, v.l, (v.l.length : Nat)⟩ w3.drew ((HR3.out.mono HS3.out.b.size).drew) (bsu_mono hbs HS3.out.b.size) hkl (by omega)
    rw [show y.v = .agg #[.slice (some ⟨bo, o, none⟩) y.fn y.fc, .slice y.nA y.nn y.nc, .slice y.kA y.kn y.kc] by rw [← eA]] at hcall
    have HCALL := Lib.hid hcall
    clear hcall HE hbs hf hlen d2 eA g0 g1
    go_wp2_with fail
    go_region_with ((go_at_call 41; refine HCALL.out.mono ?_; rintro e w9 ⟨z, rfl, hz, hrz, hb9⟩; have S9 := HS3.out.below (below_undrew hb9) hs3; obtain ⟨t0, t1, t2⟩ := ref_cel3 S9.c1; obtain ⟨g0, g1, g2⟩ := cel_frs S9.c1; have HS9 := Lib.hid S9; have HRZ := Lib.hid hrz; have HZ := Lib.hid hz; clear S9 hrz hz hb9))
    all_goals (
      go_wp2
      (try simp only [Exit.inBlock, Exit.then])
      refine bodyPost_ret (ret_rdisk2 rfl _ _ (w.heap.size + 1) z.cs rfl (cel_put3 HS9.out.c1) rfl) rfl ?_
      exact ⟨z, by rw [H.out]; rfl, by rw [H.out]; exact HZ.out, HS9.out.rd HRZ.out (Nat.le_refl _) _ _ _, HS9.out.out _ _ _⟩)
set_option maxHeartbeats 8000000 in
theorem refCut_any (x : Dv) (t : N) (n : Int) (w : World) (h : RdD w.heap.size w x) (hsm : Sm x.d) :
    Calls Tryz.prog 19 #[x.v, .string (ba t), .int .i64 n] w (DE w (cutK x.d t n)) := by
  obtain ⟨w1, hw1⟩ : ∃ w1, w1 = (w.alloc (.cells x.cs 34)).alloc (.cells #[.slice none 0 0, .slice none 0 0, .slice none 0 0] 34) := ⟨_, rfl⟩
  have S1 : Sr w w1 x.cs := by rw [hw1]; exact Sr.start x w
  have HG := Lib.hid (refGood_any w.heap.size x w1 (h.below S1.b) S1.b.size hsm)
  have HS1 := Lib.hid S1
  clear h S1 hsm
  go_enter Tryz.func19, Tryz.ntmps19
  go_wp2_with fail
  rw [← hw1]
  clear hw1
  refine HG.out.mono ?_
  rintro e w2 ⟨y, rfl, hy, hry, hb2⟩
  have S2 := HS1.out.below hb2 HS1.out.s
  obtain ⟨q0, q1, q2⟩ := ref_cel3 S2.c0
  obtain ⟨f0, f1, f2⟩ := cel_frs S2.c0
  obtain ⟨w3, hw3⟩ : ∃ w3, w3 = (((w2.setCell ⟨w.heap.size, 0, none⟩ (.slice y.fA y.fn y.fc)).setCell ⟨w.heap.size, 1, none⟩ (.slice y.nA y.nn y.nc)).setCell ⟨w.heap.size, 2, none⟩ (.slice y.kA y.kn y.kc)) := ⟨_, rfl⟩
  have S3 : Sr w w3 y.cs := by rw [hw3]; exact S2.put _ _ _
  have hr3 : RdD w.heap.size w3 y := by rw [hw3]; exact hry.below (below_put3 (Below.refl _ _) (Nat.le_refl _) _ _ _)
  have HS3 := Lib.hid S3
  have HR3 := Lib.hid hr3
  have HRD : Hid (RightD y.d) := by show RightD _; rw [hy]; exact good_right _
  have HY := Lib.hid hy
  obtain ⟨zl, zn, zk, zs, zb, zc⟩ := loose_facts HRD.out.2.1 hr3 (by have := HRD.out.1; omega)
  have h20 : y.fn ≤ 20 := by have := HRD.out.1; omega
  have HZB := Lib.hid zb
  have HZC := Lib.hid zc
  have HZS := Lib.hid zs
  have HZL := Lib.hid zl
  have hyfc := hr3.f.cap
  have hyfm := hr3.f.max
  clear hry hb2 S2 S3 hr3 hy zb zc zs zl HG HS1
  have HFO := Lib.hid (refFind_any w.heap.size y.nA y.nn y.nc y.now t w3 HR3.out.n)
  go_wp2_with fail
  rw [← hw3]
  clear hw3 q0 q1 q2 f0 f1 f2
  refine HFO.out.mono ?_
  rintro e w4 ⟨rfl, rfl⟩
  obtain ⟨p0, p1, p2⟩ := ref_cel3 HS3.out.c0
  clear HFO
  cases hf : findE y.now t with
  | none =>
    have H : Hid (cutK x.d t n = (y.d, 5)) := by
      show _ = _
      unfold cutK cutG
      rw [← HY.out, show findE y.d.now t = none from hf]
    rw [fiV_none]
    obtain ⟨t0, t1, t2⟩ := ref_cel3 HS3.out.c1
    obtain ⟨g0, g1, g2⟩ := cel_frs HS3.out.c1
    go_wp2
    (try simp only [Exit.inBlock, Exit.then])
    refine bodyPost_ret (ret_rdisk2 rfl _ _ (w.heap.size + 1) y.cs rfl (cel_put3 HS3.out.c1) rfl) rfl ?_
    exact ⟨y, by rw [H.out]; rfl, by rw [H.out], HS3.out.rd HR3.out HS3.out.b.size _ _ _, HS3.out.out _ _ _⟩
  | some f =>
    obtain ⟨g0, g1⟩ := find_range HRD.out (show findE y.d.now t = some f from hf)
    obtain ⟨k, rfl⟩ := Int.eq_ofNat_of_zero_le g0
    have hkl : k < y.fn := by have := HZL.out; omega
    rw [fiV_some]
    obtain ⟨bo, o, v, eA, hbo, HE, hbs, d1, d2⟩ := atF HR3.out.f hkl
    have HV4 : Hid (fileAt y.d (k : Int) = v.f) := fileAt_get (by omega) (by simpa using HE.out)
    have hvl : v.l.length ≤ 20000 := HZB.out v (List.mem_of_getElem? HE.out)
    have eA2 := Lib.hid eA
    have hlen : (fileAt y.d (k : Int)).d.length = v.l.length := by rw [HV4.out]; rfl
    rw [eA] at p0
    have hk0 : (0 : Int) ≤ (k : Int) := by omega
    have hkz : (k : Int) < (y.fn : Int) := by omega
    have hs3 := HS3.out.s
    have hvc := hbs.bs.cap
    have hvm := hbs.bs.max
    have HCM : Hid (cutK x.d t n = if n < 0 ∨ ((v.l.length : Nat) : Int) < n then (y.d, 1) else (setD y.d (k : Int) ⟨v.l.take n.toNat, n⟩, 0)) := by
      show _ = _
      unfold cutK cutG
      rw [← HY.out, show findE y.d.now t = some (k : Int) from hf]
      simp only
      rw [HV4.out]
      rfl
    by_cases hn0 : n < 0
    · have H : Hid (cutK x.d t n = (y.d, 1)) := by show _ = _; rw [HCM.out, if_pos (.inl hn0)]
      clear HCM HE hbs hf hlen eA g0 g1
      obtain ⟨t0, t1, t2⟩ := ref_cel3 HS3.out.c1
      obtain ⟨u0, u1, u2⟩ := cel_frs HS3.out.c1
      go_wp2
      (try simp only [Exit.inBlock, Exit.then])
      refine bodyPost_ret (ret_rdisk2 rfl _ _ (w.heap.size + 1) #[.slice (some ⟨bo, o, none⟩) y.fn y.fc, .slice y.nA y.nn y.nc, .slice y.kA y.kn y.kc] rfl (cel_put3 HS3.out.c1) rfl) rfl ?_
      exact ⟨y, by rw [H.out, eA2.out]; rfl, by rw [H.out], HS3.out.rd HR3.out HS3.out.b.size _ _ _, HS3.out.out _ _ _⟩
    by_cases hn1 : ((v.l.length : Nat) : Int) < n
    · have H : Hid (cutK x.d t n = (y.d, 1)) := by show _ = _; rw [HCM.out, if_pos (.inr hn1)]
      clear HCM HE hbs hf hlen eA g0 g1
      obtain ⟨t0, t1, t2⟩ := ref_cel3 HS3.out.c1
      obtain ⟨u0, u1, u2⟩ := cel_frs HS3.out.c1
      go_wp2
      (try simp only [Exit.inBlock, Exit.then])
      refine bodyPost_ret (ret_rdisk2 rfl _ _ (w.heap.size + 1) #[.slice (some ⟨bo, o, none⟩) y.fn y.fc, .slice y.nA y.nn y.nc, .slice y.kA y.kn y.kc] rfl (cel_put3 HS3.out.c1) rfl) rfl ?_
      exact ⟨y, by rw [H.out, eA2.out]; rfl, by rw [H.out], HS3.out.rd HR3.out HS3.out.b.size _ _ _, HS3.out.out _ _ _⟩
    obtain ⟨m, rfl⟩ := Int.eq_ofNat_of_zero_le (show 0 ≤ n by omega)
    have hml : m ≤ v.l.length := by omega
    obtain ⟨A2, hs2, hcut2⟩ := byP.cutU_h hbs m (m : Int) rfl hml
    have H : Hid (cutK x.d t (m : Int) = (setD y.d (k : Int) ⟨v.l.take m, (m : Nat)⟩, 0)) := by show _ = _; rw [HCM.out, if_neg (by omega)]; rfl
    have hll : (v.l.take m).length = m := by rw [List.length_take]; omega
    have hcall : Calls Tryz.prog 41 #[.agg #[.slice y.fA y.fn y.fc, .slice y.nA y.nn y.nc, .slice y.kA y.kn y.kc], .int .i64 (k : Int), .agg #[.slice A2 m v.c, .int .i64 (m : Nat)]] w3.drew (DR w3.drew (fun v => v) (setD y.d (k : Int) ⟨v.l.take m, (m : Nat)⟩)) := by
      have := refSet_any y k ⟨A2, v.c, v.l.take m, (m : Nat)⟩ w3.drew ((HR3.out.mono HS3.out.b.size).drew) (by show BsU _ _ A2 (v.l.take m).length v.c (v.l.take m); rw [hll]; exact bsu_mono hs2 HS3.out.b.size) hkl (by omega)
      rw [show (⟨A2, v.c, v.l.take m, (m : Nat)⟩ : Fv).l.length = m from hll] at this
      exact this
    rw [eA] at hcall
    have HCALL := Lib.hid hcall
    have hm0 : (0 : Int) ≤ (m : Int) := by omega
    clear hcall HE hbs hf hlen hll hs2 HCM eA g0 g1 d2
    go_wp2_with fail
    go_region_with ((go_at_call 41; refine HCALL.out.mono ?_; rintro e w9 ⟨z, rfl, hz, hrz, hb9⟩; have S9 := HS3.out.below (below_undrew hb9) hs3; obtain ⟨t0, t1, t2⟩ := ref_cel3 S9.c1; obtain ⟨g0, g1, g2⟩ := cel_frs S9.c1; have HS9 := Lib.hid S9; have HRZ := Lib.hid hrz; have HZ := Lib.hid hz; clear S9 hrz hz hb9))
    all_goals (
      go_wp2
      (try simp only [Exit.inBlock, Exit.then])
      refine bodyPost_ret (ret_rdisk2 rfl _ _ (w.heap.size + 1) z.cs rfl (cel_put3 HS9.out.c1) rfl) rfl ?_
      exact ⟨z, by rw [H.out]; rfl, by rw [H.out]; exact HZ.out, HS9.out.rd HRZ.out (Nat.le_refl _) _ _ _, HS9.out.out _ _ _⟩)
end Go.Proofs.YtogcmnpnhncjhaaGreat.Dw
end
