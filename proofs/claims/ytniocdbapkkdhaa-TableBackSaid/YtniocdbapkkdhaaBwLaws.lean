/- The walks of TableGets, TableSets and TableSweeps: each returns true, and what was in memory stays. For all leases whose keys fit. -/
import Derived.Test.YtniocdbapkkdhaaBwKnows
import Derived.Test.YtniocdbapkkdhaaBwRst
set_option maxRecDepth 8000
namespace Go.Proofs.Ytniocdbapkkdhaa
open Go.RowKit Co By Ky Rc Ew Jw La Tb Lw Bw
open Dw (ba ba_size ba_data ba_list alloc_more)

theorem Bw.put_fk {l : List L} {x : L} (h : ∀ a ∈ l, Fk a) (hx : Fk x) : ∀ a ∈ putT l x, Fk a := fun a ha => by
  rcases mem_put.1 ha with rfl | ⟨k, _⟩
  · exact hx
  · exact h a k
theorem Bw.set_fk {l : List L} {x : L} (h : ∀ a ∈ l, Fk a) (hx : Fk x) : ∀ a ∈ (setT l x).1, Fk a := by
  rcases set_cases l x with ⟨_, e⟩ | ⟨_, _, e⟩ | ⟨_, _, e⟩ <;> rw [e]
  · intro a ha; cases ha
  · intro a ha; cases ha
  · exact Bw.put_fk (good_fk h) hx
theorem Bw.sweep_fk {l : List L} {now : Int} (h : ∀ a ∈ l, Fk a) : ∀ a ∈ sweepT l now, Fk a := fun a ha => good_fk h a (List.mem_filter.1 ha).1
set_option maxHeartbeats 4000000 in
theorem tableGets_walk (A : Option Addr) (n c : Nat) (ls : List L) (a : Int) (k : List UInt8) (w : World) (h : RdLs w.heap.size w A n c ls) (hfk : ∀ a ∈ ls, Fk a) (hkl : k.length ≤ 9223372036854775807) :
    Calls Try.prog 3 #[.slice A n c, .int .i64 a, .string (ba k)] w (isTrue w) := by
  have HG := Lib.hid (Bw.greatT_any A n c w.heap.size ls w h hfk)
  have hbs := ba_size k
  cases hg : greatL ls with
  | true =>
    rw [hg] at HG
    clear hg h hfk
    go_enter Try.func3, Try.ntmps3
    go_wp2_with fail
    refine HG.out.mono ?_
    rintro e w1 ⟨rfl, rfl⟩
    go_wp2_with fail
    refine (Bw.knows_yes _).mono ?_
    rintro e wz ⟨rfl, hbz⟩
    go_wp2
    go_ret
    exact ⟨rfl, hbz⟩
  | false =>
    rw [hg] at HG
    by_cases hbig : 1000 < k.length
    · have hvz : ((ba k).size : Int) > 1000 := by rw [hbs]; omega
      clear hg h hfk hbig
      go_enter Try.func3, Try.ntmps3
      go_wp2_with fail
      refine HG.out.mono ?_
      rintro e w1 ⟨rfl, rfl⟩
      go_wp2_with fail
      refine (Bw.knows_yes _).mono ?_
      rintro e wz ⟨rfl, hbz⟩
      go_wp2
      go_ret
      exact ⟨rfl, hbz⟩
    have hvz : ¬ ((ba k).size : Int) > 1000 := by rw [hbs]; omega
    have HG1 := Lib.hid (fun W (hW : Below w.heap.size w W) => Bw.get_any A n c w.heap.size ls a W (h.below hW) hW.size hfk)
    have HG2 := Lib.hid (fun W (hW : Below w.heap.size w W) => Bw.refGet_any A n c w.heap.size ls a W (h.below hW) hW.size hfk)
    have HR1 := Lib.hid (fun W (hW : Below w.heap.size w W) => Bw.right_any A n c w.heap.size ls W (h.below hW) hW.size hfk)
    have HR2 := Lib.hid (fun W (hW : Below w.heap.size w W) => Bw.refRight_any A n c w.heap.size ls W (h.below hW) hW.size hfk)
    have HO1 := Lib.hid (fun W (hW : Below w.heap.size w W) => Bw.of_any A n c w.heap.size ls k W (h.below hW) hW.size hfk)
    have HO2 := Lib.hid (fun W (hW : Below w.heap.size w W) => Bw.refOf_any A n c w.heap.size ls k W (h.below hW) hW.size hfk)
    have B0 := Lib.hid (Below.refl w.heap.size w)
    generalize getT ls a = p at HG1 HG2
    generalize rightT ls = r at HR1 HR2
    generalize ofT ls k = os at HO1 HO2
    obtain ⟨x, q⟩ := p
    have QX := fun W => leq_self x W
    clear hg h hfk hbig hkl
    go_enter Try.func3, Try.ntmps3
    go_wp2_with fail
    refine HG.out.mono ?_
    rintro e w1 ⟨rfl, rfl⟩
    go_wp2_with fail
    refine (HG1.out _ B0.out).mono ?_
    rintro e w2 ⟨rfl, hb2⟩
    have B2 := Lib.hid (B0.out.trans (hb2.mono B0.out.size))
    obtain ⟨w3, hw3⟩ : ∃ w3, w3 = w2.alloc (.cells (lcs x) 26) := ⟨_, rfl⟩
    have hb3 : Below w2.heap.size w2 w3 := by rw [hw3]; exact alloc_more _ _
    have HC3 := Lib.hid (show Cel w3 w2.heap.size 26 (lcs x) by rw [hw3]; exact Cel.born _ _ _)
    have B3 := Lib.hid (B2.out.trans (hb3.mono B2.out.size))
    clear hb3 hb2
    go_wp2_with fail
    rw [← hw3]
    clear hw3
    refine (HG2.out _ B3.out).mono ?_
    rintro e w4 ⟨rfl, hb4⟩
    have HC4 := Lib.hid (HC3.out.below hb4 HC3.out.lt)
    have B4 := Lib.hid (B3.out.trans (hb4.mono B3.out.size))
    obtain ⟨w5, hw5⟩ : ∃ w5, w5 = w4.alloc (.cells (lcs x) 26) := ⟨_, rfl⟩
    have hb5 : Below w4.heap.size w4 w5 := by rw [hw5]; exact alloc_more _ _
    have HE5 := Lib.hid (show Cel w5 w4.heap.size 26 (lcs x) by rw [hw5]; exact Cel.born _ _ _)
    have HC5 := Lib.hid (HC4.out.below hb5 HC4.out.lt)
    have B5 := Lib.hid (B4.out.trans (hb5.mono B4.out.size))
    clear hb4 hb5
    go_wp2_with fail
    rw [← hw5]
    clear hw5
    refine (HR1.out _ B5.out).mono ?_
    rintro e w6 ⟨rfl, hb6⟩
    have HC6 := Lib.hid (HC5.out.below hb6 HC5.out.lt)
    have HE6 := Lib.hid (HE5.out.below hb6 HE5.out.lt)
    have B6 := Lib.hid (B5.out.trans (hb6.mono B5.out.size))
    clear hb6
    go_wp2_with fail
    refine (HR2.out _ B6.out).mono ?_
    rintro e w7 ⟨rfl, hb7⟩
    obtain ⟨c0, c1, c2, c3⟩ := cel4L (HC6.out.below hb7 HC6.out.lt)
    obtain ⟨e0, e1, e2, e3⟩ := cel4L (HE6.out.below hb7 HE6.out.lt)
    have B7 := Lib.hid (B6.out.trans (hb7.mono B6.out.size))
    clear hb7 HC3 HC4 HC5 HC6 HE5 HE6
    go_wp2_with fail
    refine (HO1.out _ B7.out).mono ?_
    rintro e w8 ⟨A8, n8, c8, rfl, ho8, hb8⟩
    have B8 := Lib.hid (B7.out.trans (hb8.mono B7.out.size))
    have HS8 := Lib.hid ho8
    clear c0 c1 c2 c3 e0 e1 e2 e3 hb8 ho8
    go_wp2_with fail
    refine (HO2.out _ B8.out).mono ?_
    rintro e w9 ⟨A9, n9, c9, rfl, ho9, hb9⟩
    have B9 := Lib.hid (B8.out.trans (hb9.mono B8.out.size))
    have HSL := Lib.hid (sameLeases_yes A8 n8 c8 A9 n9 c9 os w9 (HS8.out.below hb9).rd ho9.rd)
    clear hb9 ho9 HS8
    go_wp2_with fail
    refine HSL.out.mono ?_
    rintro e w10 ⟨rfl, hb10⟩
    have B10 := Lib.hid (B9.out.trans (hb10.mono B9.out.size))
    clear hb10 HSL
    go_wp2_with fail
    refine (Bw.knows_yes _).mono ?_
    rintro e wz ⟨rfl, hbz⟩
    go_wp2
    go_ret
    exact ⟨rfl, B10.out.trans (hbz.mono B10.out.size)⟩
set_option maxHeartbeats 4000000 in
theorem tableSets_walk (A : Option Addr) (n c : Nat) (ls : List L) (x : L) (w : World) (h : RdLs w.heap.size w A n c ls) (hfk : ∀ a ∈ ls, Fk a) (hx : Fk x) :
    Calls Try.prog 4 #[.slice A n c, lv x] w (isTrue w) := by
  obtain ⟨w0, hw0⟩ : ∃ w0, w0 = w.alloc (.cells (lcs x) 26) := ⟨_, rfl⟩
  have hb0 : Below w.heap.size w w0 := by rw [hw0]; exact alloc_more _ _
  have hc0 : Cel w0 w.heap.size 26 (lcs x) := by rw [hw0]; exact Cel.born _ _ _
  have HG := Lib.hid (Bw.greatT_any A n c w.heap.size ls w0 (h.below hb0) hfk)
  have hbs := ba_size x.key
  have B0 := Lib.hid hb0
  obtain ⟨c0, c1, c2, c3⟩ := cel4L hc0
  have HC0 := Lib.hid hc0
  cases hg : greatL ls with
  | true =>
    rw [hg] at HG
    clear hg h hfk hb0 hc0
    go_enter Try.func4, Try.ntmps4
    go_wp2_with fail
    rw [← hw0]
    clear hw0
    refine HG.out.mono ?_
    rintro e w1 ⟨rfl, rfl⟩
    go_wp2_with fail
    refine (Bw.knows_yes _).mono ?_
    rintro e wz ⟨rfl, hbz⟩
    go_wp2
    go_ret
    exact ⟨rfl, B0.out.trans (hbz.mono B0.out.size)⟩
  | false =>
    rw [hg] at HG
    by_cases hbig : 1000 < x.key.length
    · have hvz : ((ba x.key).size : Int) > 1000 := by rw [hbs]; omega
      clear hg h hfk hbig hb0 hc0
      go_enter Try.func4, Try.ntmps4
      go_wp2_with fail
      rw [← hw0]
      clear hw0
      refine HG.out.mono ?_
      rintro e w1 ⟨rfl, rfl⟩
      go_wp2_with fail
      refine (Bw.knows_yes _).mono ?_
      rintro e wz ⟨rfl, hbz⟩
      go_wp2
      go_ret
      exact ⟨rfl, B0.out.trans (hbz.mono B0.out.size)⟩
    have hvz : ¬ ((ba x.key).size : Int) > 1000 := by rw [hbs]; omega
    have HS1 := Lib.hid (fun W (hW : Below w.heap.size w W) => Bw.set_any A n c w.heap.size ls x W (h.below hW) hW.size hfk hx)
    have HS2 := Lib.hid (fun W (hW : Below w.heap.size w W) => Bw.refSet_any A n c w.heap.size ls x W (h.below hW) hW.size hfk hx)
    have HRT := Lib.hid (set_right ls x)
    have HFK : Hid (∀ a ∈ (setT ls x).1, Fk a) := set_fk hfk hx
    generalize setT ls x = p at HS1 HS2 HRT HFK
    obtain ⟨os, q⟩ := p
    clear hg h hfk hbig hb0 hc0
    go_enter Try.func4, Try.ntmps4
    go_wp2_with fail
    rw [← hw0]
    clear hw0
    refine HG.out.mono ?_
    rintro e w1 ⟨rfl, rfl⟩
    go_wp2_with fail
    refine (HS1.out _ B0.out).mono ?_
    rintro e w2 ⟨A2, n2, c2', rfl, ho2, hb2⟩
    have B2 := Lib.hid (B0.out.trans (hb2.mono B0.out.size))
    have HO2 := Lib.hid ho2
    clear c0 c1 c2 c3
    obtain ⟨c0, c1, c2, c3⟩ := cel4L (HC0.out.below hb2 HC0.out.lt)
    clear hb2 ho2
    go_wp2_with fail
    refine (HS2.out _ B2.out).mono ?_
    rintro e w3 ⟨A3, n3, c3', rfl, ho3, hb3⟩
    have B3 := Lib.hid (B2.out.trans (hb3.mono B2.out.size))
    have HO3 := Lib.hid (HO2.out.below hb3).rd
    have HSL := Lib.hid (sameLeases_yes A2 n2 c2' A3 n3 c3' os w3 (HO2.out.below hb3).rd ho3.rd)
    clear hb3 ho3 HO2 c0 c1 c2 c3
    go_wp2_with fail
    refine HSL.out.mono ?_
    rintro e w4 ⟨rfl, hb4⟩
    have B4 := Lib.hid (B3.out.trans (hb4.mono B3.out.size))
    have HO4 := Lib.hid ((HO3.out.below hb4).mono hb4.size)
    clear hb4 HSL HO3
    by_cases hq : q = 0
    · have hqz : (q != 0) = false := by simpa using hq
      have HR := Lib.hid (Bw.right_any A2 n2 c2' w4.heap.size os w4 HO4.out (Nat.le_refl _) HFK.out)
      rw [show rightT os = true from decide_eq_true HRT.out] at HR
      clear hq
      go_wp2_with fail
      refine HR.out.mono ?_
      rintro e w5 ⟨rfl, hb5⟩
      have B5 := Lib.hid (B4.out.trans (hb5.mono B4.out.size))
      clear hb5
      go_wp2_with fail
      refine (Bw.knows_yes _).mono ?_
      rintro e wz ⟨rfl, hbz⟩
      go_wp2
      go_ret
      exact ⟨rfl, B5.out.trans (hbz.mono B5.out.size)⟩
    · have hqz : (q != 0) = true := by simpa using hq
      clear hq
      go_wp2_with fail
      refine (Bw.knows_yes _).mono ?_
      rintro e wz ⟨rfl, hbz⟩
      go_wp2
      go_ret
      exact ⟨rfl, B4.out.trans (hbz.mono B4.out.size)⟩
set_option maxHeartbeats 4000000 in
theorem tableSweeps_walk (A : Option Addr) (n c : Nat) (ls : List L) (a : Int) (k : List UInt8) (now : Int) (w : World) (h : RdLs w.heap.size w A n c ls) (hfk : ∀ a ∈ ls, Fk a) (hkl : k.length ≤ 9223372036854775807) :
    Calls Try.prog 8 #[.slice A n c, .int .i64 a, .string (ba k), .int .i64 now] w (isTrue w) := by
  have HG := Lib.hid (Bw.greatT_any A n c w.heap.size ls w h hfk)
  have hbs := ba_size k
  cases hg : greatL ls with
  | true =>
    rw [hg] at HG
    clear hg h hfk
    go_enter Try.func8, Try.ntmps8
    go_wp2_with fail
    refine HG.out.mono ?_
    rintro e w1 ⟨rfl, rfl⟩
    go_wp2_with fail
    refine (Bw.knows_yes _).mono ?_
    rintro e wz ⟨rfl, hbz⟩
    go_wp2
    go_ret
    exact ⟨rfl, hbz⟩
  | false =>
    rw [hg] at HG
    by_cases hbig : 1000 < k.length
    · have hvz : ((ba k).size : Int) > 1000 := by rw [hbs]; omega
      clear hg h hfk hbig
      go_enter Try.func8, Try.ntmps8
      go_wp2_with fail
      refine HG.out.mono ?_
      rintro e w1 ⟨rfl, rfl⟩
      go_wp2_with fail
      refine (Bw.knows_yes _).mono ?_
      rintro e wz ⟨rfl, hbz⟩
      go_wp2
      go_ret
      exact ⟨rfl, hbz⟩
    have hvz : ¬ ((ba k).size : Int) > 1000 := by rw [hbs]; omega
    have HRR := Lib.hid (Bw.refRight_any A n c w.heap.size ls w h (Nat.le_refl _) hfk)
    cases hr : rightT ls with
    | false =>
      rw [hr] at HRR
      clear hg h hfk hbig hr hkl
      go_enter Try.func8, Try.ntmps8
      go_wp2_with fail
      refine HG.out.mono ?_
      rintro e w1 ⟨rfl, rfl⟩
      go_wp2_with fail
      refine HRR.out.mono ?_
      rintro e w2 ⟨rfl, hb2⟩
      go_wp2_with fail
      refine (Bw.knows_yes _).mono ?_
      rintro e wz ⟨rfl, hbz⟩
      go_wp2
      go_ret
      exact ⟨rfl, hb2.trans (hbz.mono hb2.size)⟩
    | true =>
      rw [hr] at HRR
      have HS1 := Lib.hid (fun W (hW : Below w.heap.size w W) => Bw.sweep_any A n c w.heap.size ls now W (h.below hW) hW.size hfk)
      have HF1 := Lib.hid (fun W (hW : Below w.heap.size w W) => Bw.free_any A n c w.heap.size ls a k now W (h.below hW) hW.size hfk)
      have HFF := Lib.hid (free_sweep ls a k now)
      have HSS := Lib.hid (sweep_sweep ls now)
      have HRT := Lib.hid (show rightT (sweepT ls now) = true from decide_eq_true (sweep_right ls now))
      have HFK : Hid (∀ a ∈ sweepT ls now, Fk a) := sweep_fk hfk
      generalize sweepT ls now = os at HS1 HFF HSS HRT HFK
      generalize freeT ls a k now = fr at HF1 HFF
      clear hg h hfk hbig hr hkl
      go_enter Try.func8, Try.ntmps8
      go_wp2_with fail
      refine HG.out.mono ?_
      rintro e w1 ⟨rfl, rfl⟩
      go_wp2_with fail
      refine HRR.out.mono ?_
      rintro e w2 ⟨rfl, hb2⟩
      have B2 := Lib.hid hb2
      clear hb2 HRR
      go_wp2_with fail
      refine (HS1.out _ B2.out).mono ?_
      rintro e w3 ⟨A3, n3, c3, rfl, ho3, hb3⟩
      have B3 := Lib.hid (B2.out.trans (hb3.mono B2.out.size))
      have HO3 := Lib.hid ho3.rd
      have hr3 := Bw.right_any A3 n3 c3 w3.heap.size os w3 ho3.rd (Nat.le_refl _) HFK.out
      rw [HRT.out] at hr3
      have HR3 := Lib.hid hr3
      clear hb3 ho3 hr3
      go_wp2_with fail
      refine HR3.out.mono ?_
      rintro e w4 ⟨rfl, hb4⟩
      have B4 := Lib.hid (B3.out.trans (hb4.mono B3.out.size))
      have HO4 := Lib.hid (HO3.out.below hb4)
      have hf4 := Bw.free_any A3 n3 c3 w3.heap.size os a k now w4 HO4.out hb4.size HFK.out
      rw [HFF.out] at hf4
      have HF4 := Lib.hid hf4
      have HZ4 := Lib.hid hb4.size
      clear hb4 HR3 hf4
      go_wp2_with fail
      refine HF4.out.mono ?_
      rintro e w5 ⟨rfl, hb5⟩
      have B5 := Lib.hid (B4.out.trans (hb5.mono B4.out.size))
      have HO5 := Lib.hid (HO4.out.below (hb5.mono HZ4.out))
      have HZ5 := Lib.hid (Nat.le_trans HZ4.out hb5.size)
      clear hb5 HF4
      go_wp2_with fail
      refine (HF1.out _ B5.out).mono ?_
      rintro e w6 ⟨rfl, hb6⟩
      have B6 := Lib.hid (B5.out.trans (hb6.mono B5.out.size))
      have HO6 := Lib.hid (HO5.out.below (hb6.mono HZ5.out))
      have hs6 := Bw.sweep_any A3 n3 c3 w3.heap.size os now w6 HO6.out (Nat.le_trans HZ5.out hb6.size) HFK.out
      rw [HSS.out] at hs6
      have HS6 := Lib.hid hs6
      have HZ6 := Lib.hid (Nat.le_trans HZ5.out hb6.size)
      clear hb6 hs6
      go_wp2_with fail
      refine HS6.out.mono ?_
      rintro e w7 ⟨A7, n7, c7, rfl, ho7, hb7⟩
      have B7 := Lib.hid (B6.out.trans (hb7.mono B6.out.size))
      have HSL := Lib.hid (sameLeases_yes A7 n7 c7 A3 n3 c3 os w7 ho7.rd ((HO6.out.below (hb7.mono HZ6.out)).mono (Nat.le_trans HZ6.out hb7.size)))
      clear hb7 ho7 HS6
      go_wp2_with fail
      refine HSL.out.mono ?_
      rintro e w8 ⟨rfl, hb8⟩
      have B8 := Lib.hid (B7.out.trans (hb8.mono B7.out.size))
      clear hb8 HSL
      go_wp2_with fail
      refine (Bw.knows_yes _).mono ?_
      rintro e wz ⟨rfl, hbz⟩
      go_wp2
      go_ret
      exact ⟨rfl, B8.out.trans (hbz.mono B8.out.size)⟩
end Go.Proofs.Ytniocdbapkkdhaa
