/- What the document's Sync and Cut come to. For disks whose names fit. -/
import Derived.Test.YtoifdjpflannlaaDwRg5
import Derived.Test.YtoifdjpflannlaaDwRg2
import Derived.Deep.RegionWith
set_option maxRecDepth 8000
namespace Go.Proofs.Ytoifdjpflannlaa.Dw
open Go.RowKit By Dk

set_option maxHeartbeats 8000000 in
theorem refSync_any (x : Dv) (t : N) (w : World) (h : RdD w.heap.size w x) (hsm : Sm x.d) :
    Calls Try.prog 34 #[x.v, .string (ba t)] w (DE w (syncK x.d t)) := by
  obtain ⟨w1, hw1⟩ : ∃ w1, w1 = (w.alloc (.cells x.cs 32)).alloc (.cells #[.slice none 0 0, .slice none 0 0, .slice none 0 0] 32) := ⟨_, rfl⟩
  have S1 : Sr w w1 x.cs := by rw [hw1]; exact Sr.start x w
  have HG := Lib.hid (refGood_any w.heap.size x w1 (h.below S1.b) S1.b.size hsm)
  have HS1 := Lib.hid S1
  clear h S1 hsm
  go_enter Try.func34, Try.ntmps34
  go_wp2_with fail
  rw [← hw1]
  clear hw1
  refine HG.out.mono ?_
  rintro e w2 ⟨y, rfl, hy, hry, hb2⟩
  have S2 := HS1.out.below hb2 HS1.out.s
  obtain ⟨q0, q1, q2⟩ := ref_cel3 S2.c0
  obtain ⟨f0, f1, f2⟩ := cel_frs S2.c0
  obtain ⟨w3, hw3⟩ : ∃ w3, w3 = (((w2.setCell ⟨w.heap.size, 0, none⟩ (.slice y.fA y.fn y.fc)).setCell ⟨w.heap.size, 1, none⟩ (.slice y.nA y.nn y.nc)).setCell ⟨w.heap.size, 2, none⟩ (.slice y.kA y.kn y.kc)) := ⟨_, rfl⟩
  have S3 : Sr w w3 y.cs := by rw [hw3]; exact S2.put _ _ _
  have hr3 : RdD w.heap.size w3 y := by rw [hw3]; exact hry.below (below_put3 (Below.refl _ _) (Nat.le_refl _) _ _ _)
  have HS3 := Lib.hid S3
  have HR3 := Lib.hid hr3
  have HRD : Hid (RightD y.d) := by show RightD _; rw [hy]; exact good_right _
  have HY := Lib.hid hy
  obtain ⟨zl, zn, zk, zs, zb, zc⟩ := loose_facts HRD.out.2.1 hr3 (by have := HRD.out.1; omega)
  have h20 : y.fn ≤ 20 := by have := HRD.out.1; omega
  have HZB := Lib.hid zb
  have HZC := Lib.hid zc
  have HZS := Lib.hid zs
  have HZL := Lib.hid zl
  have hyfc := hr3.f.cap
  have hyfm := hr3.f.max
  clear hry hb2 S2 S3 hr3 hy zb zc zs zl HG HS1
  have HFO := Lib.hid (refFind_any w.heap.size y.nA y.nn y.nc y.now t w3 HR3.out.n)
  go_wp2_with fail
  rw [← hw3]
  clear hw3 q0 q1 q2 f0 f1 f2
  refine HFO.out.mono ?_
  rintro e w4 ⟨rfl, rfl⟩
  obtain ⟨p0, p1, p2⟩ := ref_cel3 HS3.out.c0
  clear HFO
  cases hf : findE y.now t with
  | none =>
    have H : Hid (syncK x.d t = (y.d, 5)) := by
      show _ = _
      unfold syncK syncG
      rw [← HY.out, show findE y.d.now t = none from hf]
    rw [fiV_none]
    obtain ⟨t0, t1, t2⟩ := ref_cel3 HS3.out.c1
    obtain ⟨g0, g1, g2⟩ := cel_frs HS3.out.c1
    go_wp2
    (try simp only [Exit.inBlock, Exit.then])
    refine bodyPost_ret (ret_rdisk2 rfl _ _ (w.heap.size + 1) y.cs rfl (cel_put3 HS3.out.c1) rfl) rfl ?_
    exact ⟨y, by rw [H.out]; rfl, by rw [H.out], HS3.out.rd HR3.out HS3.out.b.size _ _ _, HS3.out.out _ _ _⟩
  | some f =>
    obtain ⟨g0, g1⟩ := find_range HRD.out (show findE y.d.now t = some f from hf)
    obtain ⟨k, rfl⟩ := Int.eq_ofNat_of_zero_le g0
    have hkl : k < y.fn := by have := HZL.out; omega
    rw [fiV_some]
    obtain ⟨bo, o, v, eA, hbo, HE, hbs, d1, d2⟩ := atF HR3.out.f hkl
    have HV4 : Hid (fileAt y.d (k : Int) = v.f) := fileAt_get (by omega) (by simpa using HE.out)
    have hvl : v.l.length ≤ 20000 := HZB.out v (List.mem_of_getElem? HE.out)
    have eA2 := Lib.hid eA
    have hlen : (fileAt y.d (k : Int)).d.length = v.l.length := by rw [HV4.out]; rfl
    rw [eA] at p0
    have hk0 : (0 : Int) ≤ (k : Int) := by omega
    have hkz : (k : Int) < (y.fn : Int) := by omega
    have hs3 := HS3.out.s
    have hvc := hbs.bs.cap
    have hvm := hbs.bs.max
    have H : Hid (syncK x.d t = (setD y.d (k : Int) ⟨v.l, (v.l.length : Nat)⟩, 0)) := by
      show _ = _
      unfold syncK syncG
      rw [← HY.out, show findE y.d.now t = some (k : Int) from hf]
      simp only
      rw [HV4.out]
      rfl
    have hcall := refSet_any y k ⟨v.A, v.c, v.l, (v.l.length : Nat)⟩ w3.drew ((HR3.out.mono HS3.out.b.size).drew) (bsu_mono hbs HS3.out.b.size) hkl (by omega)
    rw [show y.v = .agg #[.slice (some ⟨bo, o, none⟩) y.fn y.fc, .slice y.nA y.nn y.nc, .slice y.kA y.kn y.kc] by rw [← eA]] at hcall
    have HCALL := Lib.hid hcall
    clear hcall HE hbs hf hlen d2 eA g0 g1
    go_wp2_with fail
    go_region_with ((go_at_call 71; refine HCALL.out.mono ?_; rintro e w9 ⟨z, rfl, hz, hrz, hb9⟩; have S9 := HS3.out.below (below_undrew hb9) hs3; obtain ⟨t0, t1, t2⟩ := ref_cel3 S9.c1; obtain ⟨g0, g1, g2⟩ := cel_frs S9.c1; have HS9 := Lib.hid S9; have HRZ := Lib.hid hrz; have HZ := Lib.hid hz; clear S9 hrz hz hb9))
    all_goals (
      go_wp2
      (try simp only [Exit.inBlock, Exit.then])
      refine bodyPost_ret (ret_rdisk2 rfl _ _ (w.heap.size + 1) z.cs rfl (cel_put3 HS9.out.c1) rfl) rfl ?_
      exact ⟨z, by rw [H.out]; rfl, by rw [H.out]; exact HZ.out, HS9.out.rd HRZ.out (Nat.le_refl _) _ _ _, HS9.out.out _ _ _⟩)
set_option maxHeartbeats 8000000 in
theorem refCut_any (x : Dv) (t : N) (n : Int) (w : World) (h : RdD w.heap.size w x) (hsm : Sm x.d) :
    Calls Try.prog 35 #[x.v, .string (ba t), .int .i64 n] w (DE w (cutK x.d t n)) := by
  obtain ⟨w1, hw1⟩ : ∃ w1, w1 = (w.alloc (.cells x.cs 32)).alloc (.cells #[.slice none 0 0, .slice none 0 0, .slice none 0 0] 32) := ⟨_, rfl⟩
  have S1 : Sr w w1 x.cs := by rw [hw1]; exact Sr.start x w
  have HG := Lib.hid (refGood_any w.heap.size x w1 (h.below S1.b) S1.b.size hsm)
  have HS1 := Lib.hid S1
  clear h S1 hsm
  go_enter Try.func35, Try.ntmps35
  go_wp2_with fail
  rw [← hw1]
  clear hw1
  refine HG.out.mono ?_
  rintro e w2 ⟨y, rfl, hy, hry, hb2⟩
  have S2 := HS1.out.below hb2 HS1.out.s
  obtain ⟨q0, q1, q2⟩ := ref_cel3 S2.c0
  obtain ⟨f0, f1, f2⟩ := cel_frs S2.c0
  obtain ⟨w3, hw3⟩ : ∃ w3, w3 = (((w2.setCell ⟨w.heap.size, 0, none⟩ (.slice y.fA y.fn y.fc)).setCell ⟨w.heap.size, 1, none⟩ (.slice y.nA y.nn y.nc)).setCell ⟨w.heap.size, 2, none⟩ (.slice y.kA y.kn y.kc)) := ⟨_, rfl⟩
  have S3 : Sr w w3 y.cs := by rw [hw3]; exact S2.put _ _ _
  have hr3 : RdD w.heap.size w3 y := by rw [hw3]; exact hry.below (below_put3 (Below.refl _ _) (Nat.le_refl _) _ _ _)
  have HS3 := Lib.hid S3
  have HR3 := Lib.hid hr3
  have HRD : Hid (RightD y.d) := by show RightD _; rw [hy]; exact good_right _
  have HY := Lib.hid hy
  obtain ⟨zl, zn, zk, zs, zb, zc⟩ := loose_facts HRD.out.2.1 hr3 (by have := HRD.out.1; omega)
  have h20 : y.fn ≤ 20 := by have := HRD.out.1; omega
  have HZB := Lib.hid zb
  have HZC := Lib.hid zc
  have HZS := Lib.hid zs
  have HZL := Lib.hid zl
  have hyfc := hr3.f.cap
  have hyfm := hr3.f.max
  clear hry hb2 S2 S3 hr3 hy zb zc zs zl HG HS1
  have HFO := Lib.hid (refFind_any w.heap.size y.nA y.nn y.nc y.now t w3 HR3.out.n)
  go_wp2_with fail
  rw [← hw3]
  clear hw3 q0 q1 q2 f0 f1 f2
  refine HFO.out.mono ?_
  rintro e w4 ⟨rfl, rfl⟩
  obtain ⟨p0, p1, p2⟩ := ref_cel3 HS3.out.c0
  clear HFO
  cases hf : findE y.now t with
  | none =>
    have H : Hid (cutK x.d t n = (y.d, 5)) := by
      show _ = _
      unfold cutK cutG
      rw [← HY.out, show findE y.d.now t = none from hf]
    rw [fiV_none]
    obtain ⟨t0, t1, t2⟩ := ref_cel3 HS3.out.c1
    obtain ⟨g0, g1, g2⟩ := cel_frs HS3.out.c1
    go_wp2
    (try simp only [Exit.inBlock, Exit.then])
    refine bodyPost_ret (ret_rdisk2 rfl _ _ (w.heap.size + 1) y.cs rfl (cel_put3 HS3.out.c1) rfl) rfl ?_
    exact ⟨y, by rw [H.out]; rfl, by rw [H.out], HS3.out.rd HR3.out HS3.out.b.size _ _ _, HS3.out.out _ _ _⟩
  | some f =>
    obtain ⟨g0, g1⟩ := find_range HRD.out (show findE y.d.now t = some f from hf)
    obtain ⟨k, rfl⟩ := Int.eq_ofNat_of_zero_le g0
    have hkl : k < y.fn := by have := HZL.out; omega
    rw [fiV_some]
    obtain ⟨bo, o, v, eA, hbo, HE, hbs, d1, d2⟩ := atF HR3.out.f hkl
    have HV4 : Hid (fileAt y.d (k : Int) = v.f) := fileAt_get (by omega) (by simpa using HE.out)
    have hvl : v.l.length ≤ 20000 := HZB.out v (List.mem_of_getElem? HE.out)
    have eA2 := Lib.hid eA
    have hlen : (fileAt y.d (k : Int)).d.length = v.l.length := by rw [HV4.out]; rfl
    rw [eA] at p0
    have hk0 : (0 : Int) ≤ (k : Int) := by omega
    have hkz : (k : Int) < (y.fn : Int) := by omega
    have hs3 := HS3.out.s
    have hvc := hbs.bs.cap
    have hvm := hbs.bs.max
    have HCM : Hid (cutK x.d t n = if n < 0 ∨ ((v.l.length : Nat) : Int) < n then (y.d, 1) else (setD y.d (k : Int) ⟨v.l.take n.toNat, n⟩, 0)) := by
      show _ = _
      unfold cutK cutG
      rw [← HY.out, show findE y.d.now t = some (k : Int) from hf]
      simp only
      rw [HV4.out]
      rfl
    by_cases hn0 : n < 0
    · have H : Hid (cutK x.d t n = (y.d, 1)) := by show _ = _; rw [HCM.out, if_pos (.inl hn0)]
      clear HCM HE hbs hf hlen eA g0 g1
      obtain ⟨t0, t1, t2⟩ := ref_cel3 HS3.out.c1
      obtain ⟨u0, u1, u2⟩ := cel_frs HS3.out.c1
      go_wp2
      (try simp only [Exit.inBlock, Exit.then])
      refine bodyPost_ret (ret_rdisk2 rfl _ _ (w.heap.size + 1) #[.slice (some ⟨bo, o, none⟩) y.fn y.fc, .slice y.nA y.nn y.nc, .slice y.kA y.kn y.kc] rfl (cel_put3 HS3.out.c1) rfl) rfl ?_
      exact ⟨y, by rw [H.out, eA2.out]; rfl, by rw [H.out], HS3.out.rd HR3.out HS3.out.b.size _ _ _, HS3.out.out _ _ _⟩
    by_cases hn1 : ((v.l.length : Nat) : Int) < n
    · have H : Hid (cutK x.d t n = (y.d, 1)) := by show _ = _; rw [HCM.out, if_pos (.inr hn1)]
      clear HCM HE hbs hf hlen eA g0 g1
      obtain ⟨t0, t1, t2⟩ := ref_cel3 HS3.out.c1
      obtain ⟨u0, u1, u2⟩ := cel_frs HS3.out.c1
      go_wp2
      (try simp only [Exit.inBlock, Exit.then])
      refine bodyPost_ret (ret_rdisk2 rfl _ _ (w.heap.size + 1) #[.slice (some ⟨bo, o, none⟩) y.fn y.fc, .slice y.nA y.nn y.nc, .slice y.kA y.kn y.kc] rfl (cel_put3 HS3.out.c1) rfl) rfl ?_
      exact ⟨y, by rw [H.out, eA2.out]; rfl, by rw [H.out], HS3.out.rd HR3.out HS3.out.b.size _ _ _, HS3.out.out _ _ _⟩
    obtain ⟨m, rfl⟩ := Int.eq_ofNat_of_zero_le (show 0 ≤ n by omega)
    have hml : m ≤ v.l.length := by omega
    obtain ⟨A2, hs2, hcut2⟩ := byP.cutU_h hbs m (m : Int) rfl hml
    have H : Hid (cutK x.d t (m : Int) = (setD y.d (k : Int) ⟨v.l.take m, (m : Nat)⟩, 0)) := by show _ = _; rw [HCM.out, if_neg (by omega)]; rfl
    have hll : (v.l.take m).length = m := by rw [List.length_take]; omega
    have hcall : Calls Try.prog 71 #[.agg #[.slice y.fA y.fn y.fc, .slice y.nA y.nn y.nc, .slice y.kA y.kn y.kc], .int .i64 (k : Int), .agg #[.slice A2 m v.c, .int .i64 (m : Nat)]] w3.drew (DR w3.drew (fun v => v) (setD y.d (k : Int) ⟨v.l.take m, (m : Nat)⟩)) := by
      have := refSet_any y k ⟨A2, v.c, v.l.take m, (m : Nat)⟩ w3.drew ((HR3.out.mono HS3.out.b.size).drew) (by show BsU _ _ A2 (v.l.take m).length v.c (v.l.take m); rw [hll]; exact bsu_mono hs2 HS3.out.b.size) hkl (by omega)
      rw [show (⟨A2, v.c, v.l.take m, (m : Nat)⟩ : Fv).l.length = m from hll] at this
      exact this
    rw [eA] at hcall
    have HCALL := Lib.hid hcall
    have hm0 : (0 : Int) ≤ (m : Int) := by omega
    clear hcall HE hbs hf hlen hll hs2 HCM eA g0 g1 d2
    go_wp2_with fail
    go_region_with ((go_at_call 71; refine HCALL.out.mono ?_; rintro e w9 ⟨z, rfl, hz, hrz, hb9⟩; have S9 := HS3.out.below (below_undrew hb9) hs3; obtain ⟨t0, t1, t2⟩ := ref_cel3 S9.c1; obtain ⟨g0, g1, g2⟩ := cel_frs S9.c1; have HS9 := Lib.hid S9; have HRZ := Lib.hid hrz; have HZ := Lib.hid hz; clear S9 hrz hz hb9))
    all_goals (
      go_wp2
      (try simp only [Exit.inBlock, Exit.then])
      refine bodyPost_ret (ret_rdisk2 rfl _ _ (w.heap.size + 1) z.cs rfl (cel_put3 HS9.out.c1) rfl) rfl ?_
      exact ⟨z, by rw [H.out]; rfl, by rw [H.out]; exact HZ.out, HS9.out.rd HRZ.out (Nat.le_refl _) _ _ _, HS9.out.out _ _ _⟩)
end Go.Proofs.Ytoifdjpflannlaa.Dw
