/- The walk of DiskStays. -/
import Derived.Test.YtmgecfbfabhghaaDwDo
import Derived.Test.YtmgecfbfabhghaaDwAs
import Derived.Test.YtmgecfbfabhghaaDwStep
set_option maxRecDepth 8000
namespace Go.Proofs.Ytmgecfbfabhghaa.Dw
open Go.RowKit By Dk

theorem doK_right (d : D) (a : Av) : RightD (doK d a).1 := by
  unfold doK
  split
  · exact append_right (good_right d) _ _
  split
  · exact sync_right (good_right d) _
  split
  · exact cut_right (good_right d) _ _
  split
  · exact rename_right (good_right d) _ _
  split
  · exact remove_right (good_right d) _
  split
  · exact syncDir_right (good_right d)
  · exact crash_right (good_right d) _ _
set_option maxHeartbeats 2000000 in
theorem diskStays_walk (x : Dv) (a : Av) (w : World) (h : RdD w.heap.size w x) (hsm : Sm x.d) (hok : OkA w a) :
    Calls Try.prog 5 #[x.v, a.v] w (isTrue w) := by
  obtain ⟨w1, hw1⟩ : ∃ w1, w1 = (w.alloc (.cells x.cs 25)).alloc (.cells #[.int .i64 a.kind, .int .i64 a.n, .string (ba a.name), .string (ba a.tn), .slice a.bA a.b.length a.bc, .slice a.kA a.keep.length a.kc, .bool a.dir] 50) := ⟨_, rfl⟩
  have V1 : Vd (w.heap.size + 1) w1 w.heap.size x := by rw [hw1]; exact (Vd.born h).below ((alloc_more _ _).mono (by simp))
  have hs1 : w1.heap.size = w.heap.size + 2 := by rw [hw1]; simp
  have hbb : Below w.heap.size w w1 := by rw [hw1]; exact (alloc_more _ _).alloc (by simp) _
  have hca : Cel w1 (w.heap.size + 1) 50 #[.int .i64 a.kind, .int .i64 a.n, .string (ba a.name), .string (ba a.tn), .slice a.bA a.b.length a.bc, .slice a.kA a.keep.length a.kc, .bool a.dir] := by
    rw [hw1]
    have := Cel.born (w.alloc (.cells x.cs 25)) 50 #[.int .i64 a.kind, .int .i64 a.n, .string (ba a.name), .string (ba a.tn), .slice a.bA a.b.length a.bc, .slice a.kA a.keep.length a.kc, .bool a.dir]
    simpa using this
  have B1 := Lib.hid hbb
  have HCA := Lib.hid hca
  have HOK := Lib.hid (hok.below hbb)
  have HGR := Lib.hid (great_any x w1 (V1.r.mono (by omega)))
  have HV1 := Lib.hid V1
  have HSM := Lib.hid hsm
  have hs1' := Lib.hid hs1
  clear h hsm V1 hok hca hbb hs1
  go_enter Try.func5, Try.ntmps5
  go_wp2_with fail
  rw [← hw1]
  clear hw1
  refine HGR.out.mono ?_
  rintro e w2 ⟨gr, rfl, hgr, hb2⟩
  have B2 := Lib.hid (B1.out.trans (hb2.mono B1.out.size))
  have HV2 := Lib.hid (HV1.out.below (hb2.mono (by have := hs1'.out; omega)))
  have HCA2 := Lib.hid (HCA.out.below hb2 HCA.out.lt)
  have HOK2 := Lib.hid (HOK.out.below hb2)
  have hs2 : w.heap.size + 1 < w2.heap.size := by have := hs1'.out; have := hb2.size; omega
  clear hb2 HGR
  cases gr with
  | true =>
    clear hgr
    go_wp2_with fail
    refine (knows_yes _).mono ?_
    rintro e wz ⟨rfl, hbz⟩
    go_wp2
    go_ret
    exact ⟨rfl, B2.out.trans (hbz.mono B2.out.size)⟩
  | false =>
  obtain ⟨hg1, hg2, hg3, hg4⟩ := hgr rfl
  clear hgr hg1 hg2 hg3 hg4
  have a0 : w2.cell? ⟨w.heap.size + 1, 0, none⟩ = some (.int .i64 a.kind) := by rw [HCA2.out.cell]; rfl
  have a1 : w2.cell? ⟨w.heap.size + 1, 1, none⟩ = some (.int .i64 a.n) := by rw [HCA2.out.cell]; rfl
  have a2 : w2.cell? ⟨w.heap.size + 1, 2, none⟩ = some (.string (ba a.name)) := by rw [HCA2.out.cell]; rfl
  have a3 : w2.cell? ⟨w.heap.size + 1, 3, none⟩ = some (.string (ba a.tn)) := by rw [HCA2.out.cell]; rfl
  have a4 : w2.cell? ⟨w.heap.size + 1, 4, none⟩ = some (.slice a.bA a.b.length a.bc) := by rw [HCA2.out.cell]; rfl
  have a5 : w2.cell? ⟨w.heap.size + 1, 5, none⟩ = some (.slice a.kA a.keep.length a.kc) := by rw [HCA2.out.cell]; rfl
  have a6 : w2.cell? ⟨w.heap.size + 1, 6, none⟩ = some (.bool a.dir) := by rw [HCA2.out.cell]; rfl
  have HSA := Lib.hid (small_any a w2 HOK2.out)
  go_wp2_with fail
  refine HSA.out.mono ?_
  rintro e w3 ⟨sm, rfl, hsa, hb3⟩
  clear a0 a1 a2 a3 a4 a5 a6 HSA
  have B3 := Lib.hid (B2.out.trans (hb3.mono B2.out.size))
  have HV3 := Lib.hid (HV2.out.below (hb3.mono (by omega)))
  have HCA3 := Lib.hid (HCA2.out.below hb3 HCA2.out.lt)
  have HOK3 := Lib.hid (HOK2.out.below hb3)
  have hs3 : w.heap.size + 1 < w3.heap.size := Nat.lt_of_lt_of_le hs2 hb3.size
  clear hb3
  cases sm with
  | false =>
    clear hsa
    go_wp2_with fail
    refine (knows_yes _).mono ?_
    rintro e wz ⟨rfl, hbz⟩
    go_wp2
    go_ret
    exact ⟨rfl, B3.out.trans (hbz.mono B3.out.size)⟩
  | true =>
  obtain ⟨t1, t2, t3, t4⟩ := hsa rfl
  have HDO := Lib.hid (do_any x a w3 (HV3.out.r.mono (by omega)) HSM.out HOK3.out t3)
  clear hsa t1 t2 t3 t4
  obtain ⟨q0, q1, q2⟩ := cel3 HV3.out.c
  have a0 : w3.cell? ⟨w.heap.size + 1, 0, none⟩ = some (.int .i64 a.kind) := by rw [HCA3.out.cell]; rfl
  have a1 : w3.cell? ⟨w.heap.size + 1, 1, none⟩ = some (.int .i64 a.n) := by rw [HCA3.out.cell]; rfl
  have a2 : w3.cell? ⟨w.heap.size + 1, 2, none⟩ = some (.string (ba a.name)) := by rw [HCA3.out.cell]; rfl
  have a3 : w3.cell? ⟨w.heap.size + 1, 3, none⟩ = some (.string (ba a.tn)) := by rw [HCA3.out.cell]; rfl
  have a4 : w3.cell? ⟨w.heap.size + 1, 4, none⟩ = some (.slice a.bA a.b.length a.bc) := by rw [HCA3.out.cell]; rfl
  have a5 : w3.cell? ⟨w.heap.size + 1, 5, none⟩ = some (.slice a.kA a.keep.length a.kc) := by rw [HCA3.out.cell]; rfl
  have a6 : w3.cell? ⟨w.heap.size + 1, 6, none⟩ = some (.bool a.dir) := by rw [HCA3.out.cell]; rfl
  go_wp2_with fail
  refine HDO.out.mono ?_
  rintro e w4 ⟨z, rfl, hz, hr, hb4⟩
  clear a0 a1 a2 a3 a4 a5 a6 q0 q1 q2 HDO
  have HRZ : Hid (RightD z.d) := by show RightD z.d; rw [hz]; exact doK_right _ _
  have B4 := Lib.hid (B3.out.trans (hb4.mono B3.out.size))
  clear hz hb4
  obtain ⟨w5, hw5⟩ : ∃ w5, w5 = w4.alloc (.cells z.cs 25) := ⟨_, rfl⟩
  have V5 := Vd.born hr
  rw [← hw5] at V5
  have hs5 : w5.heap.size = w4.heap.size + 1 := by rw [hw5]; simp
  rw [← hs5] at V5
  have B5 := Lib.hid (B4.out.trans (show Below w.heap.size w4 w5 by rw [hw5]; exact (alloc_more _ _).mono B4.out.size))
  have HRI := Lib.hid (right_any z w5 V5.r (right_sm HRZ.out))
  rw [decide_eq_true HRZ.out] at HRI
  have HV5 := Lib.hid V5
  obtain ⟨q0, q1, q2⟩ := cel3 V5.c
  clear hr V5 hs5
  go_wp2_with fail
  rw [← hw5]
  clear hw5
  refine HRI.out.mono ?_
  rintro e w6 ⟨rfl, hb6⟩
  have HV6 := Lib.hid ((HV5.out.below hb6).mono hb6.size)
  have B6 := Lib.hid (B5.out.trans (hb6.mono B5.out.size))
  clear hb6 q0 q1 q2 HRI
  obtain ⟨q0, q1, q2⟩ := cel3 HV6.out.c
  have hfl : z.d.fs.length = z.fn := by show (fsOf z.xs).length = _; rw [fs_len, HV6.out.r.f.len]
  have hz1 : z.fn ≤ 20 := by rw [← hfl]; exact HRZ.out.1
  have hz2 : z.nn ≤ 20 := by have := named_len HRZ.out.2.1.1; have e : z.now.length = z.nn := HV6.out.r.n.1; rw [← e]; exact Nat.le_trans this HRZ.out.1
  have hz3 : z.kn ≤ 20 := by have := named_len HRZ.out.2.1.2.1; have e : z.kept.length = z.kn := HV6.out.r.k.1; rw [← e]; exact Nat.le_trans this HRZ.out.1
  have HAZ := Lib.hid (as_any z w6 HV6.out.r (by omega) (by omega) (by omega))
  clear hfl hz1 hz2 hz3
  go_wp2_with fail
  refine HAZ.out.mono ?_
  rintro e w7 ⟨y, rfl, hy, hry, hb7⟩
  have B7 := Lib.hid (B6.out.trans (hb7.mono B6.out.size))
  have HRY : Hid (RightD y.d) := by show RightD y.d; rw [hy]; exact HRZ.out
  have HRR := Lib.hid (refRight_any y w7 hry (right_sm HRY.out))
  rw [decide_eq_true HRY.out] at HRR
  clear hy hry hb7 q0 q1 q2 HAZ
  go_wp2_with fail
  refine HRR.out.mono ?_
  rintro e w8 ⟨rfl, hb8⟩
  have B8 := Lib.hid (B7.out.trans (hb8.mono B7.out.size))
  clear hb8 HRR
  go_wp2_with fail
  refine (knows_yes _).mono ?_
  rintro e w9 ⟨rfl, hb9⟩
  have B9 := Lib.hid (B8.out.trans (hb9.mono B8.out.size))
  clear hb9
  go_wp2
  go_ret
  exact ⟨rfl, B9.out⟩
end Go.Proofs.Ytmgecfbfabhghaa.Dw
