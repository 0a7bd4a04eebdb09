/- What disk.Remove, Rename and SyncDir come to. For all disks whose names fit. -/
import Derived.Test.YtoifdjpflannlaaDwActs
set_option maxRecDepth 8000
namespace Go.Proofs.Ytoifdjpflannlaa.Dw
open Go.RowKit By Dk

theorem came_all {z : Dv} {U : Nat} {w : World} (h : Loose z.d) (hr : RdD U w z) : ∀ f ∈ cameD z.d, 0 ≤ f ∧ f < (z.fn : Int) := fun f hf => by
  have e : z.d.fs.length = z.fn := by show (fsOf z.xs).length = _; rw [fs_len, hr.f.len]
  have := came_range h hf
  rw [e] at this
  exact this
theorem remove_math {d : D} {t : N} {f : Int} (hf : findE d.now t = some f) : removeG d t = (orderedD { d with now := withoutNs d.now [t] }, 0) := by
  unfold removeG
  rw [hf, without_one]
theorem rename_math {d : D} {t u : N} {f : Int} (hf : findE d.now t = some f) (hu : FairN u) : renameG d t u = (orderedD { d with now := withE (withoutNs d.now [t, u]) u f }, 0) := by
  unfold renameG
  rw [hf, without_two]
  simp only [if_pos hu]
  rfl
theorem withE_len : ∀ (l : List E) (t : N) (f : Int), (withE l t f).length = l.length + 1
  | [], _, _ => rfl
  | e :: l, t, f => by
    rw [withE]
    split
    · rfl
    · rw [List.length_cons, withE_len l t f, List.length_cons]
set_option maxHeartbeats 4000000 in
theorem remove_any (x : Dv) (t : N) (w : World) (h : RdD w.heap.size w x) (hsm : Sm x.d) :
    Calls Try.prog 32 #[x.v, .string (ba t)] w (DE w (removeK x.d t)) := by
  obtain ⟨w1, hw1⟩ : ∃ w1, w1 = (w.alloc (.cells x.cs 25)).alloc (.cells #[.slice none 0 0, .slice none 0 0, .slice none 0 0] 25) := ⟨_, rfl⟩
  have S1 : St w w1 x.cs := by rw [hw1]; exact St.start x w
  have HV := Lib.hid (valid_any w.heap.size x w1 (h.below S1.b) S1.b.size hsm)
  have HS1 := Lib.hid S1
  clear h S1 hsm
  go_enter Try.func32, Try.ntmps32
  go_wp2_with fail
  rw [← hw1]
  clear hw1
  refine HV.out.mono ?_
  rintro e w2 ⟨y, rfl, hy, hry, hb2⟩
  have S2 := HS1.out.below hb2 HS1.out.s
  obtain ⟨q0, q1, q2⟩ := cel3 S2.c0
  obtain ⟨f0, f1, f2⟩ := cel_frs S2.c0
  obtain ⟨S3, hr3⟩ := HS1.out.valid hb2 hry
  obtain ⟨w3, hw3⟩ : ∃ w3, w3 = (((w2.setCell ⟨w.heap.size, 0, none⟩ (.slice y.fA y.fn y.fc)).setCell ⟨w.heap.size, 1, none⟩ (.slice y.nA y.nn y.nc)).setCell ⟨w.heap.size, 2, none⟩ (.slice y.kA y.kn y.kc)) := ⟨_, rfl⟩
  rw [← hw3] at S3 hr3
  have HS3 := Lib.hid S3
  have HR3 := Lib.hid hr3
  have HRD : Hid (RightD y.d) := by show RightD _; rw [hy]; exact good_right _
  have HY := Lib.hid hy
  have HFO := Lib.hid (fileOf_any y t w3 (hr3.n.mono S3.b.size))
  obtain ⟨zl, zn, zk, zs, zb, zc⟩ := loose_facts HRD.out.2.1 hr3 (by have := HRD.out.1; omega)
  have h20 : y.fn ≤ 20 := by have := HRD.out.1; omega
  have HZB := Lib.hid zb
  have HZC := Lib.hid zc
  have HZS := Lib.hid zs
  have HZL := Lib.hid zl
  clear hry hb2 S2 S3 hr3 hy zb zc zs zl
  go_wp2_with fail
  rw [← hw3]
  clear hw3 q0 q1 q2 f0 f1 f2
  refine HFO.out.mono ?_
  rintro e w4 ⟨rfl, hb4⟩
  have HS4 := Lib.hid (HS3.out.below hb4 HS3.out.s)
  have HR4 := Lib.hid (HR3.out.below (hb4.mono HS3.out.b.size))
  obtain ⟨p0, p1, p2⟩ := cel3 HS4.out.c0
  clear hb4
  cases hf : findE y.now t with
  | none =>
    have H : Hid (removeK x.d t = (y.d, 5)) := by
      show _ = _
      unfold removeK removeG
      rw [← HY.out, show findE y.d.now t = none from hf]
    obtain ⟨t0, t1, t2⟩ := cel3 HS4.out.c1
    obtain ⟨g0, g1, g2⟩ := cel_frs HS4.out.c1
    clear hf
    rw [foV_none]
    go_wp2
    (try simp only [Exit.inBlock, Exit.then])
    refine bodyPost_ret (ret_disk2 rfl _ _ (w.heap.size + 1) y.cs rfl (cel_put3 HS4.out.c1) rfl) rfl ?_
    exact ⟨y, by rw [H.out]; rfl, by rw [H.out], HS4.out.rd HR4.out (by omega) _ _ _, HS4.out.out _ _ _⟩
  | some f =>
    have H : Hid (removeK x.d t = (orderedD { y.d with now := withoutNs y.now [t] }, 0)) := by
      show _ = _
      unfold removeK
      rw [← HY.out, remove_math (show findE y.d.now t = some f from hf)]
      rfl
    have hlit := rd_strs w4 9 [t] (by simp)
    obtain ⟨w5, hw5⟩ : ∃ w5, w5 = w4.alloc (.cells #[.string (ba t)] 9) := ⟨_, rfl⟩
    rw [show (strV [t]).toArray = #[.string (ba t)] from rfl, ← hw5] at hlit
    have hal : Below w4.heap.size w4 w5 := by rw [hw5]; exact alloc_more _ _
    have hs4 := HS4.out.s
    have hr5 := HR4.out.n.below (hal.mono (by omega))
    have hnl := HR4.out.n.len
    have HNL := Lib.hid hnl
    have HWO := Lib.hid (without_any y.nA y.nn y.nc y.now (some ⟨w4.heap.size, 0, none⟩) 1 1 [t] w5 (hr5.mono (by have := hal.size; omega)) (by omega) hlit)
    have HS5 := Lib.hid (HS4.out.below hal hs4)
    have HB45 := Lib.hid (hal.mono (show w.heap.size ≤ w4.heap.size by omega))
    have hs45 := hal.size
    have HNA := Lib.hid (named_without (n := t) HRD.out.2.1.1)
    have hy0 := HR4.out.n.cap
    have hy1 := HR4.out.n.max
    clear hlit hal hr5 hf hnl
    rw [foV_some]
    go_wp2_with fail
    rw [← hw5]
    clear hw5
    refine HWO.out.mono ?_
    rintro e w7 ⟨A7, n7, c7, rfl, hown7, hb7⟩
    have HS7 := Lib.hid (HS5.out.below hb7 (by omega))
    obtain ⟨r0, r1, r2⟩ := cel3 HS7.out.c0
    have f1 := cel_fr HS7.out.c0 1
    obtain ⟨w8, hw8⟩ : ∃ w8, w8 = w7.setCell ⟨w.heap.size, 1, none⟩ (.slice A7 n7 c7) := ⟨_, rfl⟩
    have HS8 : Hid (St w w8 #[.slice y.fA y.fn y.fc, .slice A7 n7 c7, .slice y.kA y.kn y.kc]) := by show St _ _ _; rw [hw8]; exact HS7.out.put1 1 _
    have hown8 : OwnE 68 w5.heap.size w8 A7 n7 c7 (withoutNs y.now [t]) := by rw [hw8]; exact hown7.away HS7.out.c0 (by decide) (grown_set _ _ _ _)
    have hb48 : Below w.heap.size w4 w8 := by rw [hw8]; exact (HB45.out.trans (hb7.mono (by omega))).setCell (p := ⟨w.heap.size, 1, none⟩) (Nat.le_refl _) _
    have hr8 : RdD w8.heap.size w8 ⟨y.fA, y.fn, y.fc, y.xs, A7, n7, c7, withoutNs y.now [t], y.kA, y.kn, y.kc, y.kept⟩ := ⟨(HR4.out.f.below hb48).mono HS8.out.b.size, hown8.rd, (HR4.out.k.below hb48).mono HS8.out.b.size⟩
    have hL8 : Loose (⟨y.fA, y.fn, y.fc, y.xs, A7, n7, c7, withoutNs y.now [t], y.kA, y.kn, y.kc, y.kept⟩ : Dv).d := by
      have := loose_now HRD.out HNA.out
      rw [← without_one] at this
      exact this
    have hnew : (withoutNs y.now [t]).length ≤ y.nn := by have := dropE_len y.now (namedQ [t]); rw [HNL.out] at this; exact this
    clear hown7 hb7 hb48 hown8
    have hcall := normalize_any ⟨y.fA, y.fn, y.fc, y.xs, A7, n7, c7, withoutNs y.now [t], y.kA, y.kn, y.kc, y.kept⟩ w8 hr8 (came_all hL8 hr8) (by show List.length (withoutNs y.now [t]) + y.kept.length ≤ _; have := HR4.out.k.len; omega) (fun u hu => by have := HZB.out u hu; omega)
    have HCALL8 := Lib.hid hcall
    have hs8 := HS8.out.s
    clear hcall hL8 hr8
    go_wp2_with fail
    rw [← hw8]
    clear hw8
    refine HCALL8.out.mono ?_
    rintro e w9 ⟨z2, rfl, hz2, hoz, hb9⟩
    have S9 := HS8.out.below hb9 hs8
    obtain ⟨t0, t1, t2⟩ := cel3 S9.c1
    obtain ⟨g0, g1, g2⟩ := cel_frs S9.c1
    have HS9 := Lib.hid S9
    have HOZ := Lib.hid hoz
    have HZ2 := Lib.hid hz2
    clear S9 hoz hz2 hb9
    go_wp2
    (try simp only [Exit.inBlock, Exit.then])
    refine bodyPost_ret (ret_disk2 rfl _ _ (w.heap.size + 1) z2.cs rfl (cel_put3 HS9.out.c1) rfl) rfl ?_
    exact ⟨z2, by rw [H.out]; rfl, by rw [H.out]; exact HZ2.out, HS9.out.own HOZ.out _ _ _, HS9.out.out _ _ _⟩
set_option maxHeartbeats 4000000 in
theorem rename_any (x : Dv) (t u : N) (w : World) (h : RdD w.heap.size w x) (hsm : Sm x.d) (hu : u.length ≤ 9223372036854775807) :
    Calls Try.prog 31 #[x.v, .string (ba t), .string (ba u)] w (DE w (renameK x.d t u)) := by
  obtain ⟨w1, hw1⟩ : ∃ w1, w1 = (w.alloc (.cells x.cs 25)).alloc (.cells #[.slice none 0 0, .slice none 0 0, .slice none 0 0] 25) := ⟨_, rfl⟩
  have S1 : St w w1 x.cs := by rw [hw1]; exact St.start x w
  have HV := Lib.hid (valid_any w.heap.size x w1 (h.below S1.b) S1.b.size hsm)
  have HS1 := Lib.hid S1
  clear h S1 hsm
  go_enter Try.func31, Try.ntmps31
  go_wp2_with fail
  rw [← hw1]
  clear hw1
  refine HV.out.mono ?_
  rintro e w2 ⟨y, rfl, hy, hry, hb2⟩
  have S2 := HS1.out.below hb2 HS1.out.s
  obtain ⟨q0, q1, q2⟩ := cel3 S2.c0
  obtain ⟨f0, f1, f2⟩ := cel_frs S2.c0
  obtain ⟨S3, hr3⟩ := HS1.out.valid hb2 hry
  obtain ⟨w3, hw3⟩ : ∃ w3, w3 = (((w2.setCell ⟨w.heap.size, 0, none⟩ (.slice y.fA y.fn y.fc)).setCell ⟨w.heap.size, 1, none⟩ (.slice y.nA y.nn y.nc)).setCell ⟨w.heap.size, 2, none⟩ (.slice y.kA y.kn y.kc)) := ⟨_, rfl⟩
  rw [← hw3] at S3 hr3
  have HS3 := Lib.hid S3
  have HR3 := Lib.hid hr3
  have HRD : Hid (RightD y.d) := by show RightD _; rw [hy]; exact good_right _
  have HY := Lib.hid hy
  have HFO := Lib.hid (fileOf_any y t w3 (hr3.n.mono S3.b.size))
  obtain ⟨zl, zn, zk, zs, zb, zc⟩ := loose_facts HRD.out.2.1 hr3 (by have := HRD.out.1; omega)
  have h20 : y.fn ≤ 20 := by have := HRD.out.1; omega
  have HZB := Lib.hid zb
  have HZC := Lib.hid zc
  have HZS := Lib.hid zs
  have HZL := Lib.hid zl
  clear hry hb2 S2 S3 hr3 hy zb zc zs zl
  go_wp2_with fail
  rw [← hw3]
  clear hw3 q0 q1 q2 f0 f1 f2
  refine HFO.out.mono ?_
  rintro e w4 ⟨rfl, hb4⟩
  have HS4 := Lib.hid (HS3.out.below hb4 HS3.out.s)
  have HR4 := Lib.hid (HR3.out.below (hb4.mono HS3.out.b.size))
  obtain ⟨p0, p1, p2⟩ := cel3 HS4.out.c0
  clear hb4
  cases hf : findE y.now t with
  | none =>
    have H : Hid (renameK x.d t u = (y.d, 5)) := by
      show _ = _
      unfold renameK renameG
      rw [← HY.out, show findE y.d.now t = none from hf]
    obtain ⟨t0, t1, t2⟩ := cel3 HS4.out.c1
    obtain ⟨g0, g1, g2⟩ := cel_frs HS4.out.c1
    clear hf
    rw [foV_none]
    go_wp2
    (try simp only [Exit.inBlock, Exit.then])
    refine bodyPost_ret (ret_disk2 rfl _ _ (w.heap.size + 1) y.cs rfl (cel_put3 HS4.out.c1) rfl) rfl ?_
    exact ⟨y, by rw [H.out]; rfl, by rw [H.out], HS4.out.rd HR4.out (by omega) _ _ _, HS4.out.out _ _ _⟩
  | some f =>
    have HRN := rightName_any u w4 hu
    by_cases hfair : FairN u
    rotate_left
    · have H : Hid (renameK x.d t u = (y.d, 1)) := by
        show _ = _
        unfold renameK renameG
        rw [← HY.out, show findE y.d.now t = some f from hf]
        simp only [if_neg hfair]
      obtain ⟨t0, t1, t2⟩ := cel3 HS4.out.c1
      obtain ⟨g0, g1, g2⟩ := cel_frs HS4.out.c1
      have hd : decide (FairN u) = false := decide_eq_false hfair
      rw [hd] at HRN
      clear hd hfair hf
      rw [foV_some]
      go_wp2_with fail
      refine HRN.mono ?_
      rintro e w5 ⟨rfl, rfl⟩
      go_wp2
      (try simp only [Exit.inBlock, Exit.then])
      refine bodyPost_ret (ret_disk2 rfl _ _ (w.heap.size + 1) y.cs rfl (cel_put3 HS4.out.c1) rfl) rfl ?_
      exact ⟨y, by rw [H.out]; rfl, by rw [H.out], HS4.out.rd HR4.out (by omega) _ _ _, HS4.out.out _ _ _⟩
    have H : Hid (renameK x.d t u = (orderedD { y.d with now := withE (withoutNs y.now [t, u]) u f }, 0)) := by
      show _ = _
      unfold renameK
      rw [← HY.out, rename_math (show findE y.d.now t = some f from hf) hfair]
      rfl
    have hd : decide (FairN u) = true := decide_eq_true hfair
    rw [hd] at HRN
    have hlit := rd_strs w4 9 [t, u] (by simp)
    obtain ⟨w5, hw5⟩ : ∃ w5, w5 = w4.alloc (.cells #[.string (ba t), .string (ba u)] 9) := ⟨_, rfl⟩
    rw [show (strV [t, u]).toArray = #[.string (ba t), .string (ba u)] from rfl, ← hw5] at hlit
    have hal : Below w4.heap.size w4 w5 := by rw [hw5]; exact alloc_more _ _
    have hs4 := HS4.out.s
    have hr5 := HR4.out.n.below (hal.mono (by omega))
    have hnl := HR4.out.n.len
    have HNL := Lib.hid hnl
    have HWO := Lib.hid (without_any y.nA y.nn y.nc y.now (some ⟨w4.heap.size, 0, none⟩) 2 2 [t, u] w5 (hr5.mono (by have := hal.size; omega)) (by omega) hlit)
    have HS5 := Lib.hid (HS4.out.below hal hs4)
    have HB45 := Lib.hid (hal.mono (show w.heap.size ≤ w4.heap.size by omega))
    have hs45 := hal.size
    have HNA : Hid (Named (withE (withoutNs y.now [t, u]) u f) y.d.fs.length) := by
      show Named _ _
      have := moved_named HRD.out (show findE y.d.now t = some f from hf) hfair
      unfold moved at this
      rw [← without_two] at this
      exact this
    have hy0 := HR4.out.n.cap
    have hy1 := HR4.out.n.max
    have hnew : (withoutNs y.now [t, u]).length ≤ y.nn := by have := dropE_len y.now (namedQ [t, u]); rw [HNL.out] at this; exact this
    clear hlit hal hr5 hf hnl hd hfair
    rw [foV_some]
    go_wp2_with fail
    refine HRN.mono ?_
    rintro e w5' ⟨rfl, rfl⟩
    go_wp2_with fail
    rw [← hw5]
    clear hw5
    refine HWO.out.mono ?_
    rintro e w6 ⟨A6, n6, c6, rfl, hown6, hb6⟩
    have hn6 : n6 ≤ 21 := by have := hown6.2; omega
    have HIN := Lib.hid (inserted_any A6 n6 c6 (withoutNs y.now [t, u]) u f w6 hown6.rd (by omega))
    have hs6 := hb6.size
    have HB46 := Lib.hid (HB45.out.trans (hb6.mono (show w.heap.size ≤ w5.heap.size by omega)))
    have HS6 := Lib.hid (HS5.out.below hb6 (by omega))
    clear hown6 hb6
    go_wp2_with fail
    refine HIN.out.mono ?_
    rintro e w7 ⟨A7, c7, rfl, hown7, hb7⟩
    have HS7 := Lib.hid (HS6.out.below hb7 (by omega))
    obtain ⟨r0, r1, r2⟩ := cel3 HS7.out.c0
    have f1 := cel_fr HS7.out.c0 1
    obtain ⟨w8, hw8⟩ : ∃ w8, w8 = w7.setCell ⟨w.heap.size, 1, none⟩ (.slice A7 (n6 + 1) c7) := ⟨_, rfl⟩
    have HS8 : Hid (St w w8 #[.slice y.fA y.fn y.fc, .slice A7 (n6 + 1) c7, .slice y.kA y.kn y.kc]) := by show St _ _ _; rw [hw8]; exact HS7.out.put1 1 _
    have hown8 : OwnE 68 w6.heap.size w8 A7 (n6 + 1) c7 (withE (withoutNs y.now [t, u]) u f) := by rw [hw8]; exact hown7.away HS7.out.c0 (by decide) (grown_set _ _ _ _)
    have hb48 : Below w.heap.size w4 w8 := by rw [hw8]; exact (HB46.out.trans (hb7.mono (by omega))).setCell (p := ⟨w.heap.size, 1, none⟩) (Nat.le_refl _) _
    have hr8 : RdD w8.heap.size w8 ⟨y.fA, y.fn, y.fc, y.xs, A7, n6 + 1, c7, withE (withoutNs y.now [t, u]) u f, y.kA, y.kn, y.kc, y.kept⟩ := ⟨(HR4.out.f.below hb48).mono HS8.out.b.size, hown8.rd, (HR4.out.k.below hb48).mono HS8.out.b.size⟩
    have hL8 : Loose (⟨y.fA, y.fn, y.fc, y.xs, A7, n6 + 1, c7, withE (withoutNs y.now [t, u]) u f, y.kA, y.kn, y.kc, y.kept⟩ : Dv).d := loose_now HRD.out HNA.out
    have hnew2 : (withE (withoutNs y.now [t, u]) u f).length ≤ y.nn + 1 := by rw [withE_len]; omega
    clear hown7 hb7 hb48 hown8
    have hcall := normalize_any ⟨y.fA, y.fn, y.fc, y.xs, A7, n6 + 1, c7, withE (withoutNs y.now [t, u]) u f, y.kA, y.kn, y.kc, y.kept⟩ w8 hr8 (came_all hL8 hr8) (by show List.length (withE (withoutNs y.now [t, u]) u f) + y.kept.length ≤ _; have := HR4.out.k.len; omega) (fun u hu => by have := HZB.out u hu; omega)
    have HCALL8 := Lib.hid hcall
    have hs8 := HS8.out.s
    clear hcall hL8 hr8
    go_wp2_with fail
    rw [← hw8]
    clear hw8
    refine HCALL8.out.mono ?_
    rintro e w9 ⟨z2, rfl, hz2, hoz, hb9⟩
    have S9 := HS8.out.below hb9 hs8
    obtain ⟨t0, t1, t2⟩ := cel3 S9.c1
    obtain ⟨g0, g1, g2⟩ := cel_frs S9.c1
    have HS9 := Lib.hid S9
    have HOZ := Lib.hid hoz
    have HZ2 := Lib.hid hz2
    clear S9 hoz hz2 hb9
    go_wp2
    (try simp only [Exit.inBlock, Exit.then])
    refine bodyPost_ret (ret_disk2 rfl _ _ (w.heap.size + 1) z2.cs rfl (cel_put3 HS9.out.c1) rfl) rfl ?_
    exact ⟨z2, by rw [H.out]; rfl, by rw [H.out]; exact HZ2.out, HS9.out.own HOZ.out _ _ _, HS9.out.out _ _ _⟩
set_option maxHeartbeats 4000000 in
theorem syncDir_any (x : Dv) (w : World) (h : RdD w.heap.size w x) (hsm : Sm x.d) :
    Calls Try.prog 26 #[x.v] w (DR w (fun v => v) (syncDirK x.d)) := by
  obtain ⟨w1, hw1⟩ : ∃ w1, w1 = (w.alloc (.cells x.cs 25)).alloc (.cells #[.slice none 0 0, .slice none 0 0, .slice none 0 0] 25) := ⟨_, rfl⟩
  have S1 : St w w1 x.cs := by rw [hw1]; exact St.start x w
  have HV := Lib.hid (valid_any w.heap.size x w1 (h.below S1.b) S1.b.size hsm)
  have HS1 := Lib.hid S1
  clear h S1 hsm
  go_enter Try.func26, Try.ntmps26
  go_wp2_with fail
  rw [← hw1]
  clear hw1
  refine HV.out.mono ?_
  rintro e w2 ⟨y, rfl, hy, hry, hb2⟩
  have S2 := HS1.out.below hb2 HS1.out.s
  obtain ⟨q0, q1, q2⟩ := cel3 S2.c0
  obtain ⟨f0, f1, f2⟩ := cel_frs S2.c0
  obtain ⟨S3, hr3⟩ := HS1.out.valid hb2 hry
  obtain ⟨w3, hw3⟩ : ∃ w3, w3 = (((w2.setCell ⟨w.heap.size, 0, none⟩ (.slice y.fA y.fn y.fc)).setCell ⟨w.heap.size, 1, none⟩ (.slice y.nA y.nn y.nc)).setCell ⟨w.heap.size, 2, none⟩ (.slice y.kA y.kn y.kc)) := ⟨_, rfl⟩
  rw [← hw3] at S3 hr3
  have HS3 := Lib.hid S3
  have HR3 := Lib.hid hr3
  have HRD : Hid (RightD y.d) := by show RightD _; rw [hy]; exact good_right _
  have HY := Lib.hid hy
  have H : Hid (syncDirK x.d = orderedD { y.d with kept := y.now }) := by
    show syncDirG (goodD x.d) = _
    rw [← hy]
    rfl
  obtain ⟨w4, hw4⟩ : ∃ w4, w4 = w3.setCell ⟨w.heap.size, 2, none⟩ (.slice y.nA y.nn y.nc) := ⟨_, rfl⟩
  have S4 : St w w4 #[.slice y.fA y.fn y.fc, .slice y.nA y.nn y.nc, .slice y.nA y.nn y.nc] := by rw [hw4]; exact S3.put1 2 _
  have hr4 := hr3.below (show Below w.heap.size w3 w4 by rw [hw4]; exact (Below.refl _ _).setCell (p := ⟨w.heap.size, 2, none⟩) (Nat.le_refl _) _)
  have hr5 : RdD w4.heap.size w4 ⟨y.fA, y.fn, y.fc, y.xs, y.nA, y.nn, y.nc, y.now, y.nA, y.nn, y.nc, y.now⟩ := ⟨hr4.f.mono S4.b.size, hr4.n.mono S4.b.size, hr4.n.mono S4.b.size⟩
  have hL : Loose (⟨y.fA, y.fn, y.fc, y.xs, y.nA, y.nn, y.nc, y.now, y.nA, y.nn, y.nc, y.now⟩ : Dv).d := ⟨HRD.out.2.1.1, HRD.out.2.1.1, HRD.out.2.1.2.2⟩
  obtain ⟨zl, zn, zk, zs, zb, zc⟩ := loose_facts hL hr5 (by have := HRD.out.1; exact Nat.le_trans this (by omega))
  have HNO := Lib.hid (normalize_any ⟨y.fA, y.fn, y.fc, y.xs, y.nA, y.nn, y.nc, y.now, y.nA, y.nn, y.nc, y.now⟩ w4 hr5 zc zs (fun u hu => by have := zb u hu; omega))
  have HS4 := Lib.hid S4
  have z2 := (cel3 S3.c0).2.2
  have fz2 := cel_fr S3.c0 2
  rw [hw3] at hw4 z2 fz2
  clear hry hb2 S2 S3 hr3 hy S4 hr4 hr5 hL zl zn zk zs zb zc hw3
  go_wp2_with fail
  rw [← hw4]
  clear hw4 z2 fz2 q0 q1 q2 f0 f1 f2
  refine HNO.out.mono ?_
  rintro e w9 ⟨z2, rfl, hz2, hoz, hb9⟩
  have S9 := HS4.out.below hb9 HS4.out.s
  obtain ⟨t0, t1, t2⟩ := cel3 S9.c1
  obtain ⟨g0, g1, g2⟩ := cel_frs S9.c1
  have HS9 := Lib.hid S9
  have HOZ := Lib.hid hoz
  have HZ2 := Lib.hid hz2
  clear S9 hoz hz2 hb9
  go_wp2
  (try simp only [Exit.inBlock, Exit.then])
  refine bodyPost_ret (ret_disk rfl _ _ (w.heap.size + 1) z2.cs rfl (cel_put3 HS9.out.c1) rfl) rfl ?_
  exact ⟨z2, rfl, by rw [H.out]; exact HZ2.out, HS9.out.own HOZ.out _ _ _, HS9.out.out _ _ _⟩
end Go.Proofs.Ytoifdjpflannlaa.Dw
