/- The walk of JournalRows: it returns true, and what was in memory stays. For all leases whose keys fit. -/
import Derived.Test.YtogcmnpnhncjhaaJwKept
import Derived.Test.YtogcmnpnhncjhaaJwSame
import Derived.Test.YtogcmnpnhncjhaaDwD
set_option maxRecDepth 8000
namespace Go.Proofs.Ytogcmnpnhncjhaa
open Go.RowKit Co By Ky Rc Dk Jn Ew Jw
open Dw (ba ba_size ba_data ba_list Dv RdD Sm alloc_more good_sm cel3 crash_any intV)

set_option maxHeartbeats 8000000 in
theorem journalRows_walk (A : Option Addr) (n c : Nat) (ls : List L) (Ak : Option Addr) (nk ck : Nat) (keep : List Int) (dir : Bool) (w : World) (h : RdLs w.heap.size w A n c ls) (hfk : ∀ a ∈ ls, Fk a) (hk : Rd w Ak nk ck (intV keep)) :
    Calls Try.prog 5 #[.slice A n c, .slice Ak nk ck, .bool dir] w (isTrue w) := by
  have hcp := hk.cap
  have hmx := hk.max
  by_cases hs : (100 : Int) < (nk : Int)
  · clear h hfk hk
    go_enter Try.func5, Try.ntmps5
    go_wp2_with fail
    refine (knows_yes _).mono ?_
    rintro e wz ⟨rfl, hbz⟩
    go_wp2
    go_ret
    exact ⟨rfl, hbz⟩
  have HKP := Lib.hid (kept_any A n c ls w h hfk)
  have HK := Lib.hid hk
  have hkr : ∀ a ∈ keptL ls, RightR a := kept_right ls 10
  have hsm : (framesJ (keptL ls)).length ≤ 20000 := by have h1 := frames_small hkr; have h2 := kept_len ls 10; unfold keptL at *; omega
  generalize keptL ls = ks at HKP hkr hsm
  have HRD := Lib.hid (read_disk hkr hsm)
  have HCR := Lib.hid (crash_disk hkr hsm keep dir)
  have HSM := Lib.hid (good_sm (disk_right hsm))
  clear h hfk hk hkr hsm
  go_enter Try.func5, Try.ntmps5
  go_wp2_with fail
  refine HKP.out.mono ?_
  rintro e w1 ⟨z, A1, c1, rfl, hz, hrz, hl1, hb1⟩
  obtain ⟨w2, hw2⟩ : ∃ w2, w2 = w1.alloc (.cells z.cs 25) := ⟨_, rfl⟩
  have hb2 : Below w1.heap.size w1 w2 := by rw [hw2]; exact alloc_more _ _
  have hc2 : Cel w2 w1.heap.size 25 z.cs := by rw [hw2]; exact Cel.born _ _ _
  have hz2 := (hrz.below hb2).mono hb2.size
  have hrd := readJ_any z w2 hz2 (by rw [hz]; exact HSM.out)
  rw [hz, HRD.out] at hrd
  have HR1 := Lib.hid hrd
  have B2 := Lib.hid (hb1.trans (hb2.mono hb1.size))
  have HZ2 := Lib.hid hz2
  have HC2 := Lib.hid hc2
  have HL2 := Lib.hid ((hl1.below hb2).mono hb2.size)
  have HZ : Hid (z.d = diskJ ks) := hz
  obtain ⟨d0, d1, d2⟩ := cel3 hc2
  rw [hw2] at d0 d1 d2
  clear hrz hl1 hb1 hb2 hc2 hz2 hrd hz HKP
  go_wp2_with fail
  rw [← hw2]
  clear hw2 d0 d1 d2
  refine HR1.out.mono ?_
  rintro e w3 ⟨A3, n3, c3, rfl, hl3, hb3⟩
  have hz3 := (HZ2.out.below hb3).mono hb3.size
  have B3 := Lib.hid (B2.out.trans (hb3.mono B2.out.size))
  have hcr := crash_any z Ak nk ck keep dir w3 hz3 (by rw [HZ.out]; exact HSM.out) (HK.out.below B3.out)
  rw [HZ.out, HCR.out] at hcr
  have HCA := Lib.hid hcr
  have HL3 := Lib.hid (show RdLs w3.heap.size w3 A3 n3 c3 ks from hl3)
  have HK3 := Lib.hid ((HL2.out.below hb3).mono hb3.size)
  obtain ⟨d0, d1, d2⟩ := cel3 (HC2.out.below hb3 HC2.out.lt)
  clear hz3 hcr hl3 hb3 HR1 HZ2 HC2 HL2 HCR
  go_wp2_with fail
  refine HCA.out.mono ?_
  rintro e w4 ⟨y, rfl, hy, hry, hb4⟩
  have hrd := readJ_any y w4 hry (by rw [hy]; exact HSM.out)
  rw [hy, HRD.out] at hrd
  have HR2 := Lib.hid hrd
  have B4 := Lib.hid (B3.out.trans (hb4.mono B3.out.size))
  have HL4 := Lib.hid ((HL3.out.below hb4).mono hb4.size)
  have HK4 := Lib.hid ((HK3.out.below hb4).mono hb4.size)
  clear hrd hry hy hb4 HCA HL3 HK3 d0 d1 d2
  go_wp2_with fail
  refine HR2.out.mono ?_
  rintro e w5 ⟨A5, n5, c5, rfl, hl5, hb5⟩
  have B5 := Lib.hid (B4.out.trans (hb5.mono B4.out.size))
  have HL5 := Lib.hid ((HL4.out.below hb5).mono hb5.size)
  have HK5 := Lib.hid ((HK4.out.below hb5).mono hb5.size)
  have HM5 := Lib.hid (show RdLs w5.heap.size w5 A5 n5 c5 ks from hl5)
  have HS1 := Lib.hid (sameLeases_yes A3 n3 c3 A1 ks.length c1 ks w5 HL5.out HK5.out)
  clear hl5 hb5 HR2 HL4 HK4
  go_wp2_with fail
  refine HS1.out.mono ?_
  rintro e w6 ⟨rfl, hb6⟩
  have B6 := Lib.hid (B5.out.trans (hb6.mono B5.out.size))
  have HS2 := Lib.hid (sameLeases_yes A5 n5 c5 A1 ks.length c1 ks w6 ((HM5.out.below hb6).mono hb6.size) ((HK5.out.below hb6).mono hb6.size))
  clear hb6 HS1
  go_wp2_with fail
  refine HS2.out.mono ?_
  rintro e w7 ⟨rfl, hb7⟩
  have B7 := Lib.hid (B6.out.trans (hb7.mono B6.out.size))
  clear hb7 HS2
  go_wp2_with fail
  refine (knows_yes _).mono ?_
  rintro e wz ⟨rfl, hbz⟩
  go_wp2
  go_ret
  exact ⟨rfl, B7.out.trans (hbz.mono B7.out.size)⟩
end Go.Proofs.Ytogcmnpnhncjhaa
