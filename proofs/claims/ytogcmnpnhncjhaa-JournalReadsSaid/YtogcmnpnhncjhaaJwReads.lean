/- The walk of JournalReads: it returns true, and what was in memory stays. For all disks whose names fit. -/
import Derived.Test.YtogcmnpnhncjhaaJwSame
set_option maxRecDepth 8000
namespace Go.Proofs.Ytogcmnpnhncjhaa
open Go.RowKit Co By Ky Rc Dk Jn Ew Jw
open Dw (ba ba_size ba_data ba_list Dv RdD Sm alloc_more Vd great_any as_any cel3)

set_option maxHeartbeats 4000000 in
theorem journalReads_walk (x : Dv) (w : World) (h : RdD w.heap.size w x) (hsm : Sm x.d) :
    Calls Try.prog 3 #[x.v] w (isTrue w) := by
  obtain ⟨w1, hw1⟩ : ∃ w1, w1 = w.alloc (.cells x.cs 25) := ⟨_, rfl⟩
  have V1 : Vd (w.heap.size + 1) w1 w.heap.size x := by rw [hw1]; exact Vd.born h
  have hs1 : w1.heap.size = w.heap.size + 1 := by rw [hw1]; simp
  have hb1 : Below w.heap.size w w1 := by rw [hw1]; exact alloc_more _ _
  have HGR := Lib.hid (great_any x w1 (V1.r.mono (by omega)))
  have HV1 := Lib.hid V1
  have B1 := Lib.hid hb1
  have HS1 := Lib.hid hs1
  have HSM := Lib.hid hsm
  obtain ⟨q0, q1, q2⟩ := cel3 V1.c
  rw [hw1] at q0 q1 q2
  clear h hsm V1 hb1 hs1
  go_enter Try.func3, Try.ntmps3
  go_wp2_with fail
  rw [← hw1]
  clear hw1 q0 q1 q2
  refine HGR.out.mono ?_
  rintro e w2 ⟨gr, rfl, hgr, hb2⟩
  have B2 := Lib.hid (B1.out.trans (hb2.mono B1.out.size))
  have HV2 := Lib.hid (HV1.out.below (hb2.mono (by have := HS1.out; omega)))
  have HS2 := Lib.hid (show w.heap.size + 1 ≤ w2.heap.size by have := HS1.out; have := hb2.size; omega)
  clear hb2 HGR
  cases gr with
  | true =>
    clear hgr
    go_wp2_with fail
    refine (knows_yes _).mono ?_
    rintro e wz ⟨rfl, hbz⟩
    go_wp2
    go_ret
    exact ⟨rfl, B2.out.trans (hbz.mono B2.out.size)⟩
  | false =>
  obtain ⟨_, hg2, hg3, hg4⟩ := hgr rfl
  have HF := Lib.hid hg2
  have HG := Lib.hid hg3
  have HH := Lib.hid hg4
  have HRD := Lib.hid (readJ_any x w2 (HV2.out.r.mono HS2.out) HSM.out)
  obtain ⟨q0, q1, q2⟩ := cel3 HV2.out.c
  clear hgr hg2 hg3 hg4
  generalize hp : readD x.d = p at HRD
  obtain ⟨ls, m, er⟩ := p
  have HP := Lib.hid hp
  clear hp
  go_wp2_with fail
  refine HRD.out.mono ?_
  rintro e w3 ⟨A3, n3, c3, rfl, hl3, hb3⟩
  have B3 := Lib.hid (B2.out.trans (hb3.mono B2.out.size))
  have HV3 := Lib.hid (HV2.out.below (hb3.mono HS2.out))
  have HS3 := Lib.hid (Nat.le_trans HS2.out hb3.size)
  have HL3 := Lib.hid (show RdLs w3.heap.size w3 A3 n3 c3 ls from hl3)
  have HAS := Lib.hid (as_any x w3 (HV3.out.r.mono HS3.out) (by have := HF.out; omega) (by have := HG.out; omega) (by have := HH.out; omega))
  obtain ⟨q0, q1, q2⟩ := cel3 HV3.out.c
  clear hl3 hb3 HRD
  go_wp2_with fail
  refine HAS.out.mono ?_
  rintro e w4 ⟨y, rfl, hy, hry, hb4⟩
  have B4 := Lib.hid (B3.out.trans (hb4.mono B3.out.size))
  have HL4 := Lib.hid ((HL3.out.below hb4).mono hb4.size)
  have hrr := refReadJ_any y w4 hry (by rw [hy]; exact HSM.out)
  rw [hy, HP.out] at hrr
  have HRR := Lib.hid hrr
  clear hrr hy hry hb4 HAS
  go_wp2_with fail
  refine HRR.out.mono ?_
  rintro e w5 ⟨A5, n5, c5, rfl, hl5, hb5⟩
  have B5 := Lib.hid (B4.out.trans (hb5.mono B4.out.size))
  have HSL := Lib.hid (sameLeases_yes A3 n3 c3 A5 n5 c5 ls w5 ((HL4.out.below hb5).mono hb5.size) hl5)
  have hmm : ((m : Int) == (m : Int)) = true := by simp
  have hee : (er == er) = true := by simp
  clear hl5 hb5 HRR
  go_wp2_with fail
  refine HSL.out.mono ?_
  rintro e w6 ⟨rfl, hb6⟩
  have B6 := Lib.hid (B5.out.trans (hb6.mono B5.out.size))
  clear hb6
  go_wp2_with fail
  refine (knows_yes _).mono ?_
  rintro e wz ⟨rfl, hbz⟩
  go_wp2
  go_ret
  exact ⟨rfl, B6.out.trans (hbz.mono B6.out.size)⟩
end Go.Proofs.Ytogcmnpnhncjhaa
