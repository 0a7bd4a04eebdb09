/- What disk.Sync, Cut, Rename, Remove and SyncDir come to. For all disks whose names fit. -/
import Derived.Test.YtoifdjpflannlaaDwApp
set_option maxRecDepth 8000
namespace Go.Proofs.Ytoifdjpflannlaa.Dw
open Go.RowKit By Dk

/-! ### Mathematics -/
theorem sync_math {d : D} (hr : RightD d) {t : N} {f : Int} (hf : findE d.now t = some f) : syncG d t = (orderedD (setD d f ⟨(fileAt d f).d, ((fileAt d f).d.length : Nat)⟩), 0) := by
  have hok := file_ok hr hf
  rw [ordered_id (set_right (f := f) (x := ⟨(fileAt d f).d, ((fileAt d f).d.length : Nat)⟩) hr ⟨hok.1, by show (0 : Int) ≤ ((_ : Nat) : Int); omega, Int.le_refl _⟩)]
  unfold syncG
  rw [hf]
theorem cut_math {d : D} (hr : RightD d) {t : N} {f n : Int} (hf : findE d.now t = some f) (hn : ¬ (n < 0 ∨ (((fileAt d f).d.length : Nat) : Int) < n)) : cutG d t n = (orderedD (setD d f ⟨(fileAt d f).d.take n.toNat, n⟩), 0) := by
  have hok := file_ok hr hf
  rw [ordered_id (set_right (f := f) (x := ⟨(fileAt d f).d.take n.toNat, n⟩) hr ⟨?_, ?_, ?_⟩)]
  · unfold cutG
    rw [hf]
    simp only [if_neg hn]
  · show (List.take _ _).length ≤ _
    rw [List.length_take]
    have := hok.1
    omega
  · show 0 ≤ n
    omega
  · show n ≤ (((List.take _ _).length : Nat) : Int)
    rw [List.length_take]
    omega
theorem cut_bad {d : D} {t : N} {f n : Int} (hf : findE d.now t = some f) (hn : n < 0 ∨ (((fileAt d f).d.length : Nat) : Int) < n) : cutG d t n = (d, 1) := by
  unfold cutG
  rw [hf]
  simp only [if_pos hn]
theorem rd_strs (w : World) (e : TypeId) (ns : List N) (h : ns.length ≤ 1000) : Rd (w.alloc (.cells (strV ns).toArray e)) (some ⟨w.heap.size, 0, none⟩) ns.length ns.length (strV ns) :=
  ⟨strV_len ns, Nat.le_refl _, by unfold maxLen; omega, fun _ => ⟨w.heap.size, 0, rfl, fun i hi => by rw [(Cel.born w e _).cell, Nat.zero_add, List.getElem?_toArray, List.getElem?_eq_getElem hi]⟩⟩
theorem dropE_len (l : List E) (q : E → Bool) : (dropE l q).length ≤ l.length := List.length_filter_le _ _
theorem loose_now {d : D} (hr : RightD d) {l : List E} (hl : Named l d.fs.length) : Loose { d with now := l } := ⟨hl, hr.2.1.2.1, hr.2.1.2.2⟩

set_option maxHeartbeats 4000000 in
theorem sync_any (x : Dv) (t : N) (w : World) (h : RdD w.heap.size w x) (hsm : Sm x.d) :
    Calls Try.prog 24 #[x.v, .string (ba t)] w (DE w (syncK x.d t)) := by
  obtain ⟨w1, hw1⟩ : ∃ w1, w1 = (w.alloc (.cells x.cs 25)).alloc (.cells #[.slice none 0 0, .slice none 0 0, .slice none 0 0] 25) := ⟨_, rfl⟩
  have S1 : St w w1 x.cs := by rw [hw1]; exact St.start x w
  have HV := Lib.hid (valid_any w.heap.size x w1 (h.below S1.b) S1.b.size hsm)
  have HS1 := Lib.hid S1
  clear h S1 hsm
  go_enter Try.func24, Try.ntmps24
  go_wp2_with fail
  rw [← hw1]
  clear hw1
  refine HV.out.mono ?_
  rintro e w2 ⟨y, rfl, hy, hry, hb2⟩
  have S2 := HS1.out.below hb2 HS1.out.s
  obtain ⟨q0, q1, q2⟩ := cel3 S2.c0
  obtain ⟨f0, f1, f2⟩ := cel_frs S2.c0
  obtain ⟨S3, hr3⟩ := HS1.out.valid hb2 hry
  obtain ⟨w3, hw3⟩ : ∃ w3, w3 = (((w2.setCell ⟨w.heap.size, 0, none⟩ (.slice y.fA y.fn y.fc)).setCell ⟨w.heap.size, 1, none⟩ (.slice y.nA y.nn y.nc)).setCell ⟨w.heap.size, 2, none⟩ (.slice y.kA y.kn y.kc)) := ⟨_, rfl⟩
  rw [← hw3] at S3 hr3
  have HS3 := Lib.hid S3
  have HR3 := Lib.hid hr3
  have HRD : Hid (RightD y.d) := by show RightD _; rw [hy]; exact good_right _
  have HY := Lib.hid hy
  have HFO := Lib.hid (fileOf_any y t w3 (hr3.n.mono S3.b.size))
  obtain ⟨zl, zn, zk, zs, zb, zc⟩ := loose_facts HRD.out.2.1 hr3 (by have := HRD.out.1; omega)
  have h20 : y.fn ≤ 20 := by have := HRD.out.1; omega
  have HZB := Lib.hid zb
  have HZC := Lib.hid zc
  have HZS := Lib.hid zs
  have HZL := Lib.hid zl
  clear hry hb2 S2 S3 hr3 hy zb zc zs zl
  go_wp2_with fail
  rw [← hw3]
  clear hw3 q0 q1 q2 f0 f1 f2
  refine HFO.out.mono ?_
  rintro e w4 ⟨rfl, hb4⟩
  have HS4 := Lib.hid (HS3.out.below hb4 HS3.out.s)
  have HR4 := Lib.hid (HR3.out.below (hb4.mono HS3.out.b.size))
  obtain ⟨p0, p1, p2⟩ := cel3 HS4.out.c0
  clear hb4
  cases hf : findE y.now t with
  | none =>
    have H : Hid (syncK x.d t = (y.d, 5)) := by
      show _ = _
      unfold syncK syncG
      rw [← HY.out, show findE y.d.now t = none from hf]
    obtain ⟨t0, t1, t2⟩ := cel3 HS4.out.c1
    obtain ⟨g0, g1, g2⟩ := cel_frs HS4.out.c1
    clear hf
    rw [foV_none]
    go_wp2
    (try simp only [Exit.inBlock, Exit.then])
    refine bodyPost_ret (ret_disk2 rfl _ _ (w.heap.size + 1) y.cs rfl (cel_put3 HS4.out.c1) rfl) rfl ?_
    exact ⟨y, by rw [H.out]; rfl, by rw [H.out], HS4.out.rd HR4.out (by omega) _ _ _, HS4.out.out _ _ _⟩
  | some f =>
    obtain ⟨f0, f1⟩ := find_range HRD.out (show findE y.d.now t = some f from hf)
    obtain ⟨k, rfl⟩ := Int.eq_ofNat_of_zero_le f0
    have hkl : k < y.fn := by have := HZL.out; omega
    obtain ⟨bo, o, v, eA, hbo, HE, hbs, d1, d2⟩ := atF HR4.out.f hkl
    have HV4 : Hid (fileAt y.d (k : Int) = v.f) := fileAt_get (by omega) (by simpa using HE.out)
    have hvl : v.l.length ≤ 20000 := HZB.out v (List.mem_of_getElem? HE.out)
    have yfc := HR4.out.f.cap
    have yfm := HR4.out.f.max
    have p0' := p0
    rw [eA] at p0'
    have hk0 : (0 : Int) ≤ (k : Int) := by omega
    have hs4 := HS4.out.s
    have H : Hid (syncK x.d t = (orderedD (setD y.d (k : Int) ⟨v.l, (v.l.length : Nat)⟩), 0)) := by
      show _ = _
      unfold syncK
      rw [← HY.out, sync_math HRD.out (show findE y.d.now t = some (k : Int) from hf), HV4.out]
      rfl
    obtain ⟨w5, hw5⟩ : ∃ w5, w5 = w4.alloc (.cells #[.slice v.A v.l.length v.c, .int .i64 (v.l.length : Nat)] 58) := ⟨_, rfl⟩
    have hal : Below w4.heap.size w4 w5 := by rw [hw5]; exact alloc_more _ _
    have hr5 := (HR4.out.below (hal.mono (by omega))).mono (show w.heap.size ≤ w5.heap.size by have := hal.size; omega)
    have hcall : Calls Try.prog 55 #[.agg #[.slice y.fA y.fn y.fc, .slice y.nA y.nn y.nc, .slice y.kA y.kn y.kc], .int .i64 (k : Int), .agg #[.slice v.A v.l.length v.c, .int .i64 (v.l.length : Nat)]] w5 (DO w5 (orderedD (setD y.d (k : Int) ⟨v.l, (v.l.length : Nat)⟩))) :=
      withFile_any y k ⟨v.A, v.c, v.l, (v.l.length : Nat)⟩ w5 hr5 (bsu_mono (hbs.below (hal.mono (by omega))) (by have := hal.size; omega)) hkl HZC.out HZS.out (by omega) (fun u hu => by have := HZB.out u hu; omega) (by show v.l.length ≤ _; omega)
    rw [eA] at hcall
    have HCALL := Lib.hid hcall
    have HS5 := Lib.hid (HS4.out.below hal hs4)
    have hlt1 : w.heap.size < w4.heap.size := by omega
    have hs45 := hal.size
    clear hcall hr5 hal HE hbs hf p0
    rw [foV_some]
    go_wp2_with fail
    rw [← hw5]
    clear hw5
    refine HCALL.out.mono ?_
    rintro e w9 ⟨z2, rfl, hz2, hoz, hb9⟩
    have S9 := HS5.out.below hb9 (by omega)
    obtain ⟨t0, t1, t2⟩ := cel3 S9.c1
    obtain ⟨g0, g1, g2⟩ := cel_frs S9.c1
    have HS9 := Lib.hid S9
    have HOZ := Lib.hid hoz
    have HZ2 := Lib.hid hz2
    clear S9 hoz hz2 hb9
    go_wp2
    (try simp only [Exit.inBlock, Exit.then])
    refine bodyPost_ret (ret_disk2 rfl _ _ (w.heap.size + 1) z2.cs rfl (cel_put3 HS9.out.c1) rfl) rfl ?_
    exact ⟨z2, by rw [H.out]; rfl, by rw [H.out]; exact HZ2.out, HS9.out.own HOZ.out _ _ _, HS9.out.out _ _ _⟩
set_option maxHeartbeats 4000000 in
theorem cut_any (x : Dv) (t : N) (n : Int) (w : World) (h : RdD w.heap.size w x) (hsm : Sm x.d) :
    Calls Try.prog 30 #[x.v, .string (ba t), .int .i64 n] w (DE w (cutK x.d t n)) := by
  obtain ⟨w1, hw1⟩ : ∃ w1, w1 = (w.alloc (.cells x.cs 25)).alloc (.cells #[.slice none 0 0, .slice none 0 0, .slice none 0 0] 25) := ⟨_, rfl⟩
  have S1 : St w w1 x.cs := by rw [hw1]; exact St.start x w
  have HV := Lib.hid (valid_any w.heap.size x w1 (h.below S1.b) S1.b.size hsm)
  have HS1 := Lib.hid S1
  clear h S1 hsm
  go_enter Try.func30, Try.ntmps30
  go_wp2_with fail
  rw [← hw1]
  clear hw1
  refine HV.out.mono ?_
  rintro e w2 ⟨y, rfl, hy, hry, hb2⟩
  have S2 := HS1.out.below hb2 HS1.out.s
  obtain ⟨q0, q1, q2⟩ := cel3 S2.c0
  obtain ⟨f0, f1, f2⟩ := cel_frs S2.c0
  obtain ⟨S3, hr3⟩ := HS1.out.valid hb2 hry
  obtain ⟨w3, hw3⟩ : ∃ w3, w3 = (((w2.setCell ⟨w.heap.size, 0, none⟩ (.slice y.fA y.fn y.fc)).setCell ⟨w.heap.size, 1, none⟩ (.slice y.nA y.nn y.nc)).setCell ⟨w.heap.size, 2, none⟩ (.slice y.kA y.kn y.kc)) := ⟨_, rfl⟩
  rw [← hw3] at S3 hr3
  have HS3 := Lib.hid S3
  have HR3 := Lib.hid hr3
  have HRD : Hid (RightD y.d) := by show RightD _; rw [hy]; exact good_right _
  have HY := Lib.hid hy
  have HFO := Lib.hid (fileOf_any y t w3 (hr3.n.mono S3.b.size))
  obtain ⟨zl, zn, zk, zs, zb, zc⟩ := loose_facts HRD.out.2.1 hr3 (by have := HRD.out.1; omega)
  have h20 : y.fn ≤ 20 := by have := HRD.out.1; omega
  have HZB := Lib.hid zb
  have HZC := Lib.hid zc
  have HZS := Lib.hid zs
  have HZL := Lib.hid zl
  clear hry hb2 S2 S3 hr3 hy zb zc zs zl
  go_wp2_with fail
  rw [← hw3]
  clear hw3 q0 q1 q2 f0 f1 f2
  refine HFO.out.mono ?_
  rintro e w4 ⟨rfl, hb4⟩
  have HS4 := Lib.hid (HS3.out.below hb4 HS3.out.s)
  have HR4 := Lib.hid (HR3.out.below (hb4.mono HS3.out.b.size))
  obtain ⟨p0, p1, p2⟩ := cel3 HS4.out.c0
  clear hb4
  cases hf : findE y.now t with
  | none =>
    have H : Hid (cutK x.d t n = (y.d, 5)) := by
      show _ = _
      unfold cutK cutG
      rw [← HY.out, show findE y.d.now t = none from hf]
    obtain ⟨t0, t1, t2⟩ := cel3 HS4.out.c1
    obtain ⟨g0, g1, g2⟩ := cel_frs HS4.out.c1
    clear hf
    rw [foV_none]
    go_wp2
    (try simp only [Exit.inBlock, Exit.then])
    refine bodyPost_ret (ret_disk2 rfl _ _ (w.heap.size + 1) y.cs rfl (cel_put3 HS4.out.c1) rfl) rfl ?_
    exact ⟨y, by rw [H.out]; rfl, by rw [H.out], HS4.out.rd HR4.out (by omega) _ _ _, HS4.out.out _ _ _⟩
  | some f =>
    obtain ⟨f0, f1⟩ := find_range HRD.out (show findE y.d.now t = some f from hf)
    obtain ⟨k, rfl⟩ := Int.eq_ofNat_of_zero_le f0
    have hkl : k < y.fn := by have := HZL.out; omega
    obtain ⟨bo, o, v, eA, hbo, HE, hbs, d1, d2⟩ := atF HR4.out.f hkl
    have HV4 : Hid (fileAt y.d (k : Int) = v.f) := fileAt_get (by omega) (by simpa using HE.out)
    have hvl : v.l.length ≤ 20000 := HZB.out v (List.mem_of_getElem? HE.out)
    have yfc := HR4.out.f.cap
    have yfm := HR4.out.f.max
    have p0' := p0
    rw [eA] at p0'
    have hk0 : (0 : Int) ≤ (k : Int) := by omega
    have hs4 := HS4.out.s
    have hlen : (fileAt y.d (k : Int)).d.length = v.l.length := by rw [HV4.out]; rfl
    have hvc := hbs.bs.cap
    have hvm := hbs.bs.max
    by_cases hbad : n < 0 ∨ ((v.l.length : Nat) : Int) < n
    · have H : Hid (cutK x.d t n = (y.d, 1)) := by
        show _ = _
        unfold cutK
        rw [← HY.out, cut_bad (show findE y.d.now t = some (k : Int) from hf) (by rw [hlen]; exact hbad)]
      obtain ⟨t0, t1, t2⟩ := cel3 HS4.out.c1
      obtain ⟨g0, g1, g2⟩ := cel_frs HS4.out.c1
      rw [eA] at p0
      rw [foV_some]
      have eA2 := Lib.hid eA
      clear eA
      by_cases h1 : n < 0
      · clear hbad hlen hf HE hbs
        go_wp2
        (try simp only [Exit.inBlock, Exit.then])
        refine bodyPost_ret (ret_disk2 rfl _ _ (w.heap.size + 1) #[.slice (some ⟨bo, o, none⟩) y.fn y.fc, .slice y.nA y.nn y.nc, .slice y.kA y.kn y.kc] rfl (cel_put3 HS4.out.c1) rfl) rfl ?_
        exact ⟨y, by rw [H.out, eA2.out]; rfl, by rw [H.out], HS4.out.rd HR4.out (by omega) _ _ _, HS4.out.out _ _ _⟩
      · have h2 : ((v.l.length : Nat) : Int) < n := by omega
        clear hbad hlen hf HE hbs
        go_wp2
        (try simp only [Exit.inBlock, Exit.then])
        refine bodyPost_ret (ret_disk2 rfl _ _ (w.heap.size + 1) #[.slice (some ⟨bo, o, none⟩) y.fn y.fc, .slice y.nA y.nn y.nc, .slice y.kA y.kn y.kc] rfl (cel_put3 HS4.out.c1) rfl) rfl ?_
        exact ⟨y, by rw [H.out, eA2.out]; rfl, by rw [H.out], HS4.out.rd HR4.out (by omega) _ _ _, HS4.out.out _ _ _⟩
    obtain ⟨m, rfl⟩ := Int.eq_ofNat_of_zero_le (show 0 ≤ n by omega)
    have hml : m ≤ v.l.length := by omega
    obtain ⟨A2, hs2, hcut2⟩ := byP.cutU_h hbs m (m : Int) rfl hml
    have H : Hid (cutK x.d t (m : Int) = (orderedD (setD y.d (k : Int) ⟨v.l.take m, (m : Nat)⟩), 0)) := by
      show _ = _
      unfold cutK
      rw [← HY.out, cut_math HRD.out (show findE y.d.now t = some (k : Int) from hf) (by rw [hlen]; exact hbad), HV4.out]
      rfl
    have hll : (v.l.take m).length = m := by rw [List.length_take]; omega
    have hcall : Calls Try.prog 55 #[.agg #[.slice y.fA y.fn y.fc, .slice y.nA y.nn y.nc, .slice y.kA y.kn y.kc], .int .i64 (k : Int), .agg #[.slice A2 m v.c, .int .i64 (m : Nat)]] w4.drew (DO w4.drew (orderedD (setD y.d (k : Int) ⟨v.l.take m, (m : Nat)⟩))) := by
      have := withFile_any y k ⟨A2, v.c, v.l.take m, (m : Nat)⟩ w4.drew ((HR4.out.mono HS4.out.b.size).drew) (by show BsU _ _ A2 (v.l.take m).length v.c (v.l.take m); rw [hll]; exact bsu_mono hs2 HS4.out.b.size) hkl HZC.out HZS.out (by omega) (fun u hu => by have := HZB.out u hu; omega) (by show (v.l.take m).length ≤ _; omega)
      rw [show (⟨A2, v.c, v.l.take m, (m : Nat)⟩ : Fv).l.length = m from hll] at this
      exact this
    rw [eA] at hcall
    have HCALL := Lib.hid hcall
    have h1 : ¬ (m : Int) < 0 := by omega
    have h2 : ¬ ((v.l.length : Nat) : Int) < (m : Int) := by omega
    have hm0 : (0 : Int) ≤ (m : Int) := by omega
    clear hcall HE hbs hf p0 hs2 hbad hlen hll
    rw [foV_some]
    go_wp2_with fail
    go_region_with ((go_at_call 55; refine HCALL.out.mono ?_; rintro e w9 ⟨z2, rfl, hz2, hoz, hb9⟩; have S9 := HS4.out.below (below_undrew hb9) hs4; obtain ⟨t0, t1, t2⟩ := cel3 S9.c1; obtain ⟨g0, g1, g2⟩ := cel_frs S9.c1; have HS9 := Lib.hid S9; have HOZ := Lib.hid hoz; have HZ2 := Lib.hid hz2; clear S9 hoz hz2 hb9))
    all_goals (
      go_wp2
      (try simp only [Exit.inBlock, Exit.then])
      refine bodyPost_ret (ret_disk2 rfl _ _ (w.heap.size + 1) z2.cs rfl (cel_put3 HS9.out.c1) rfl) rfl ?_
      exact ⟨z2, by rw [H.out]; rfl, by rw [H.out]; exact HZ2.out, HS9.out.own HOZ.out _ _ _, HS9.out.out _ _ _⟩)
end Go.Proofs.Ytoifdjpflannlaa.Dw
