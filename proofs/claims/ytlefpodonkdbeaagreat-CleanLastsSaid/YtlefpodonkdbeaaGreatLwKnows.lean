/- What boarderlaw11's knows comes to. -/
import Derived.Test.YtlefpodonkdbeaaGreatLwDue
import Derived.Test.YtlefpodonkdbeaaGreatLwChg
import Derived.Test.YtlefpodonkdbeaaGreatJwKept
import Derived.Test.YtlefpodonkdbeaaGreatEwB
import Derived.BigQuiet
import Derived.Deep.QuietTactic
import Derived.Deep.RegionHeld3
set_option maxRecDepth 8000
namespace Go.Proofs.YtlefpodonkdbeaaGreat.Lw
open Go.RowKit Co By Ky Rc Dk Jn Ew Jw La
open Dw (ba ba_size ba_data ba_list Dv RdD Sm alloc_more zeroV good_sm cel3)

def eA : L := ⟨2, 1, 0, [105, 97, 97]⟩
def eB : L := ⟨1, 1, 0, [105, 98, 98]⟩
def eC : L := ⟨2, 1, 0, [105, 99, 99]⟩
theorem e_all : ∀ a ∈ [eA, eB, eC], RightR a := by
  intro a ha
  simp only [List.mem_cons, List.not_mem_nil, or_false] at ha
  rcases ha with rfl | rfl | rfl <;> decide
theorem e_fk : ∀ a ∈ [eA, eB, eC], Fk a := by
  intro a ha
  simp only [List.mem_cons, List.not_mem_nil, or_false] at ha
  unfold Fk
  rcases ha with rfl | rfl | rfl <;> decide
theorem e_fk2 : ∀ a ∈ [eB, eC], Fk a := fun a ha => e_fk a (.tail _ ha)
theorem e_last : lastL [eA, eB, eC] = [eB, eC] := rfl
theorem e_kept : keptL [eA, eB, eC] = [eA, eB, eC] := by
  show List.filter rightR [eA, eB, eC] = _
  exact List.filter_eq_self.2 fun a ha => decide_eq_true (e_all a ha)
theorem e_len : (framesJ [eA, eB, eC]).length ≤ 20000 := by
  have := frames_small e_all
  simp only [List.length_cons, List.length_nil] at this
  omega
theorem e_chg : cleanC zeroD [eB, eC] = (fourC [eB, eC], 0) := clean_disk (ks := []) (by decide) (fun a ha => e_all a (.tail _ ha)) (by
  have := frames_small (ls := [eB, eC]) fun a ha => e_all a (.tail _ ha)
  simp only [List.length_cons, List.length_nil] at this
  omega)
theorem e_read : readD (diskJ [eA, eB, eC]) = ([eA, eB, eC], sizeJ [eA, eB, eC], 0) := read_disk e_all e_len
theorem e_due2 : dueD (diskJ [eA, eB, eC]) 2 = true := due_yes (by rw [e_read]) (by rw [e_read]; decide) (by rw [e_read, e_last]; decide)
theorem e_due3 : dueD (diskJ [eA, eB, eC]) 3 = false := due_few (by rw [e_read]; decide)
set_option maxHeartbeats 4000000 in
theorem knows_yes (w : World) : Calls Tryz.prog 9 #[] w (IsB true w) := by
  obtain ⟨w1, hw1⟩ : ∃ w1, w1 = ((w.alloc (.cells #[.int .i64 2, .int .i64 1, .int .i64 0, .string ⟨#[105, 97, 97]⟩] 56)).alloc (.cells #[.int .i64 1, .int .i64 1, .int .i64 0, .string ⟨#[105, 98, 98]⟩] 56)).alloc (.cells #[.int .i64 2, .int .i64 1, .int .i64 0, .string ⟨#[105, 99, 99]⟩] 56) := ⟨_, rfl⟩
  have hb1 : Below w.heap.size w w1 := by rw [hw1]; exact (((Below.refl _ _).alloc (Nat.le_refl _) _).alloc (by simp) _).alloc (by simp; omega) _
  have hA : Cel w1 w.heap.size 56 (lcs eA) := by
    rw [hw1]
    have h := Cel.born w 56 (lcs eA)
    exact (h.below (alloc_more _ _) (by simp)).below (alloc_more _ _) (by simp; omega)
  have hB : Cel w1 (w.heap.size + 1) 56 (lcs eB) := by
    rw [hw1]
    have h := Cel.born (w.alloc (.cells (lcs eA) 56)) 56 (lcs eB)
    rw [show (w.alloc (.cells (lcs eA) 56)).heap.size = w.heap.size + 1 by simp] at h
    exact h.below (alloc_more _ _) (by simp)
  have hC : Cel w1 (w.heap.size + 1 + 1) 56 (lcs eC) := by
    rw [hw1]
    have h := Cel.born ((w.alloc (.cells (lcs eA) 56)).alloc (.cells (lcs eB) 56)) 56 (lcs eC)
    rw [show ((w.alloc (.cells (lcs eA) 56)).alloc (.cells (lcs eB) 56)).heap.size = w.heap.size + 1 + 1 by simp] at h
    exact h
  have hs1 : w1.heap.size = w.heap.size + 1 + 1 + 1 := by rw [hw1]; simp
  obtain ⟨w2, hw2⟩ : ∃ w2, w2 = w1.alloc (.cells (layL.cells [eA, eB, eC]).toArray 56) := ⟨_, rfl⟩
  have hlit : RdLs w2.heap.size w2 (some ⟨w1.heap.size, 0, none⟩) 3 3 [eA, eB, eC] := by rw [hw2]; exact (OwnG.lit (Y := layL) 56 w1 [eA, eB, eC] (by simp)).rd
  have hb2 : Below w1.heap.size w1 w2 := by rw [hw2]; exact alloc_more _ _
  have HLA := last_any (some ⟨w1.heap.size, 0, none⟩) 3 3 w2.heap.size [eA, eB, eC] w2 hlit (Nat.le_refl _) (by omega)
  rw [e_last] at HLA
  have HLA := Lib.hid HLA
  obtain ⟨a0, a1, a2, a3⟩ : w1.cell? ⟨w.heap.size, 0, none⟩ = some (.int .i64 2) ∧ w1.cell? ⟨w.heap.size, 1, none⟩ = some (.int .i64 1) ∧ w1.cell? ⟨w.heap.size, 2, none⟩ = some (.int .i64 0) ∧ w1.cell? ⟨w.heap.size, 3, none⟩ = some (.string ⟨#[105, 97, 97]⟩) := cel4 hA
  obtain ⟨b0, b1, b2, b3⟩ : w1.cell? ⟨w.heap.size + 1, 0, none⟩ = some (.int .i64 1) ∧ w1.cell? ⟨w.heap.size + 1, 1, none⟩ = some (.int .i64 1) ∧ w1.cell? ⟨w.heap.size + 1, 2, none⟩ = some (.int .i64 0) ∧ w1.cell? ⟨w.heap.size + 1, 3, none⟩ = some (.string ⟨#[105, 98, 98]⟩) := cel4 hB
  obtain ⟨c0, c1, c2, c3⟩ : w1.cell? ⟨w.heap.size + 1 + 1, 0, none⟩ = some (.int .i64 2) ∧ w1.cell? ⟨w.heap.size + 1 + 1, 1, none⟩ = some (.int .i64 1) ∧ w1.cell? ⟨w.heap.size + 1 + 1, 2, none⟩ = some (.int .i64 0) ∧ w1.cell? ⟨w.heap.size + 1 + 1, 3, none⟩ = some (.string ⟨#[105, 99, 99]⟩) := cel4 hC
  rw [hw1] at a0 a1 a2 a3 b0 b1 b2 b3 c0 c1 c2 c3
  have hlt2 : w1.heap.size ≤ w2.heap.size := hb2.size
  have HA2 := Lib.hid (hA.below hb2 hA.lt)
  have HB2 := Lib.hid (hB.below hb2 hB.lt)
  have HC2 := Lib.hid (hC.below hb2 hC.lt)
  have BB2 := Lib.hid (hb1.trans (hb2.mono hb1.size))
  have HS2 : Hid (w.heap.size + 3 ≤ w2.heap.size) := by show _ ≤ _; omega
  clear hb1 hA hB hC hb2 hlit hlt2
  have hw2' : w2 = w1.alloc (.cells #[.int .i64 2, .int .i64 1, .int .i64 0, .string ⟨#[105, 97, 97]⟩, .int .i64 1, .int .i64 1, .int .i64 0, .string ⟨#[105, 98, 98]⟩, .int .i64 2, .int .i64 1, .int .i64 0, .string ⟨#[105, 99, 99]⟩] 56) := hw2
  rw [hs1] at HLA
  clear hs1 hw2
  go_enter Tryz.func9, Tryz.ntmps9
  go_wp2_with fail
  rw [← hw1, ← hw2']
  clear hw1 hw2' a0 a1 a2 a3 b0 b1 b2 b3 c0 c1 c2 c3
  refine HLA.out.mono ?_
  rintro e w3 ⟨A3, n3, k3, rfl, ho3, hb3⟩
  obtain rfl : n3 = 2 := by rw [← ho3.2]; rfl
  have HA3 := Lib.hid (HA2.out.below hb3 HA2.out.lt)
  have HB3 := Lib.hid (HB2.out.below hb3 HB2.out.lt)
  have HC3 := Lib.hid (HC2.out.below hb3 HC2.out.lt)
  have BB3 := Lib.hid (BB2.out.trans (hb3.mono BB2.out.size))
  have HO3 := Lib.hid ho3
  have hcg := changes_any zeroV A3 2 k3 [eB, eC] w3 (RdD.zero _ _) (good_sm zero_right) ho3.rd e_fk2
  rw [show zeroV.d = zeroD from rfl, e_chg] at hcg
  have HCG := Lib.hid hcg
  clear ho3 hb3 hcg HA2 HB2 HC2 BB2 HLA
  go_wp2_with fail
  refine HCG.out.mono ?_
  rintro e w4 ⟨A4, n4, k4, xs, rfl, hx4, he4, hb4⟩
  obtain rfl : n4 = 4 := by rw [← hx4.len, ← List.length_map (f := Cv.ch), he4]; rfl
  have HA4 := Lib.hid (HA3.out.below hb4 HA3.out.lt)
  have HB4 := Lib.hid (HB3.out.below hb4 HB3.out.lt)
  have HC4 := Lib.hid (HC3.out.below hb4 HC3.out.lt)
  have BB4 := Lib.hid (BB3.out.trans (hb4.mono BB3.out.size))
  have HO4 := Lib.hid (HO3.out.below hb4)
  obtain ⟨w5, hw5⟩ : ∃ w5, w5 = w4.alloc (.cells (layL.cells [eA, eB, eC]).toArray 56) := ⟨_, rfl⟩
  have hlit : RdLs w5.heap.size w5 (some ⟨w4.heap.size, 0, none⟩) 3 3 [eA, eB, eC] := by rw [hw5]; exact (OwnG.lit (Y := layL) 56 w4 [eA, eB, eC] (by simp)).rd
  have hb5 : Below w4.heap.size w4 w5 := by rw [hw5]; exact alloc_more _ _
  have hkp := kept_any (some ⟨w4.heap.size, 0, none⟩) 3 3 [eA, eB, eC] w5 hlit e_fk
  rw [e_kept] at hkp
  have HKP := Lib.hid hkp
  have hcx4 := hx4.1.cap
  have hcm4 := hx4.1.max
  obtain ⟨a0, a1, a2, a3⟩ := cel4 HA4.out
  obtain ⟨b0, b1, b2, b3⟩ := cel4 HB4.out
  obtain ⟨c0, c1, c2, c3⟩ := cel4 HC4.out
  have HA5 := Lib.hid (HA4.out.below hb5 HA4.out.lt)
  have HB5 := Lib.hid (HB4.out.below hb5 HB4.out.lt)
  have HC5 := Lib.hid (HC4.out.below hb5 HC4.out.lt)
  have BB5 := Lib.hid (BB4.out.trans (hb5.mono BB4.out.size))
  have HO5 := Lib.hid (HO4.out.below hb5)
  clear hx4 he4 hb4 hlit hb5 hkp HA3 HB3 HC3 BB3 HO3 HCG HA4 HB4 HC4 HO4 BB4
  go_wp2_with fail
  rw [← show w5 = w4.alloc (.cells #[.int .i64 eA.addr, .int .i64 eA.state, .int .i64 eA.till, .string (ba eA.key), .int .i64 eB.addr, .int .i64 eB.state, .int .i64 eB.till, .string (ba eB.key), .int .i64 eC.addr, .int .i64 eC.state, .int .i64 eC.till, .string (ba eC.key)] 56) from hw5]
  clear hw5 a0 a1 a2 a3 b0 b1 b2 b3 c0 c1 c2 c3
  refine HKP.out.mono ?_
  rintro e w6 ⟨z, A6, k6, rfl, hz, hrz, _, hb6⟩
  obtain ⟨w7, hw7⟩ : ∃ w7, w7 = w6.alloc (.cells z.cs 30) := ⟨_, rfl⟩
  have hb7 : Below w6.heap.size w6 w7 := by rw [hw7]; exact alloc_more _ _
  have hc7 : Cel w7 w6.heap.size 30 z.cs := by rw [hw7]; exact Cel.born _ _ _
  have hz7 := (hrz.below hb7).mono hb7.size
  have hb57 := hb6.trans (hb7.mono hb6.size)
  have hA7 := HA5.out.below hb57 HA5.out.lt
  have hB7 := HB5.out.below hb57 HB5.out.lt
  have hC7 := HC5.out.below hb57 HC5.out.lt
  have BB7 := Lib.hid (BB5.out.trans (hb57.mono BB5.out.size))
  have hO7 := HO5.out.below hb57
  rcases own_cases hO7 with ⟨_, e7, _⟩ | ⟨g, rfl, _⟩
  · cases e7
  have hg7 := (own_lt hO7).1
  have hk3 := hO7.rd.cap
  have hk3m := hO7.rd.max
  have o0 := own_one hO7 (i := 0) (a := eB) rfl
  have o1 := own_one hO7 (i := 1) (a := eC) rfl
  have K : Hid (∀ W, Below w7.heap.size w7 W →
      (W.cell? ⟨w6.heap.size, 0, none⟩ = some (.slice z.fA z.fn z.fc) ∧ W.cell? ⟨w6.heap.size, 1, none⟩ = some (.slice z.nA z.nn z.nc) ∧ W.cell? ⟨w6.heap.size, 2, none⟩ = some (.slice z.kA z.kn z.kc)) ∧
      (W.cell? ⟨w.heap.size + 1, 0, none⟩ = some (.int .i64 eB.addr) ∧ W.cell? ⟨w.heap.size + 1, 1, none⟩ = some (.int .i64 eB.state) ∧ W.cell? ⟨w.heap.size + 1, 2, none⟩ = some (.int .i64 eB.till) ∧ W.cell? ⟨w.heap.size + 1, 3, none⟩ = some (.string (ba eB.key))) ∧
      (W.cell? ⟨w.heap.size + 1 + 1, 0, none⟩ = some (.int .i64 eC.addr) ∧ W.cell? ⟨w.heap.size + 1 + 1, 1, none⟩ = some (.int .i64 eC.state) ∧ W.cell? ⟨w.heap.size + 1 + 1, 2, none⟩ = some (.int .i64 eC.till) ∧ W.cell? ⟨w.heap.size + 1 + 1, 3, none⟩ = some (.string (ba eC.key))) ∧
      (W.cell? ⟨g, 0, none⟩ = some (.int .i64 eB.addr) ∧ W.cell? ⟨g, 1, none⟩ = some (.int .i64 eB.state) ∧ W.cell? ⟨g, 2, none⟩ = some (.int .i64 eB.till) ∧ W.cell? ⟨g, 3, none⟩ = some (.string (ba eB.key))) ∧
      (W.cell? ⟨g, 4, none⟩ = some (.int .i64 eC.addr) ∧ W.cell? ⟨g, 5, none⟩ = some (.int .i64 eC.state) ∧ W.cell? ⟨g, 6, none⟩ = some (.int .i64 eC.till) ∧ W.cell? ⟨g, 7, none⟩ = some (.string (ba eC.key)))) := fun W hW =>
    ⟨cel3 (hc7.below hW hc7.lt), cel4 (hB7.below hW hB7.lt), cel4 (hC7.below hW hC7.lt),
      ⟨(hW.cell (p := ⟨g, 0, none⟩) hg7).trans o0.1, (hW.cell (p := ⟨g, 1, none⟩) hg7).trans o0.2.1, (hW.cell (p := ⟨g, 2, none⟩) hg7).trans o0.2.2.1, (hW.cell (p := ⟨g, 3, none⟩) hg7).trans o0.2.2.2⟩,
      ⟨(hW.cell (p := ⟨g, 4, none⟩) hg7).trans o1.1, (hW.cell (p := ⟨g, 5, none⟩) hg7).trans o1.2.1, (hW.cell (p := ⟨g, 6, none⟩) hg7).trans o1.2.2.1, (hW.cell (p := ⟨g, 7, none⟩) hg7).trans o1.2.2.2⟩⟩
  have HD2 : Hid (∀ W, Below w7.heap.size w7 W → Calls Tryz.prog 14 #[z.v, .int .i64 2] W (IsB true W)) := fun W hW => by
    have := due_any z 2 W ((hz7.below hW).mono hW.size) (by rw [hz]; exact good_sm (disk_right e_len))
    rwa [hz, e_due2] at this
  have HD3 : Hid (∀ W, Below w7.heap.size w7 W → Calls Tryz.prog 14 #[z.v, .int .i64 3] W (IsB false W)) := fun W hW => by
    have := due_any z 3 W ((hz7.below hW).mono hW.size) (by rw [hz]; exact good_sm (disk_right e_len))
    rwa [hz, e_due3] at this
  have QB := fun W => leq_self eB W
  have QC := fun W => leq_self eC W
  have hk7 := K.out w7 (Below.refl _ _)
  clear hb6 hb7 hb57 hc7 hz7 hA7 hB7 hC7 hO7 o0 o1 hz hrz HA5 HB5 HC5 BB5 HO5 HKP hk7
  go_wp2_with fail
  rw [← hw7]
  clear hw7
  go_region_held3 (fun W => (W.cell? ⟨w6.heap.size, 0, none⟩ = some (.slice z.fA z.fn z.fc) ∧ W.cell? ⟨w6.heap.size, 1, none⟩ = some (.slice z.nA z.nn z.nc) ∧ W.cell? ⟨w6.heap.size, 2, none⟩ = some (.slice z.kA z.kn z.kc)) ∧
      (W.cell? ⟨w.heap.size + 1, 0, none⟩ = some (.int .i64 eB.addr) ∧ W.cell? ⟨w.heap.size + 1, 1, none⟩ = some (.int .i64 eB.state) ∧ W.cell? ⟨w.heap.size + 1, 2, none⟩ = some (.int .i64 eB.till) ∧ W.cell? ⟨w.heap.size + 1, 3, none⟩ = some (.string (ba eB.key))) ∧
      (W.cell? ⟨w.heap.size + 1 + 1, 0, none⟩ = some (.int .i64 eC.addr) ∧ W.cell? ⟨w.heap.size + 1 + 1, 1, none⟩ = some (.int .i64 eC.state) ∧ W.cell? ⟨w.heap.size + 1 + 1, 2, none⟩ = some (.int .i64 eC.till) ∧ W.cell? ⟨w.heap.size + 1 + 1, 3, none⟩ = some (.string (ba eC.key))) ∧
      (W.cell? ⟨g, 0, none⟩ = some (.int .i64 eB.addr) ∧ W.cell? ⟨g, 1, none⟩ = some (.int .i64 eB.state) ∧ W.cell? ⟨g, 2, none⟩ = some (.int .i64 eB.till) ∧ W.cell? ⟨g, 3, none⟩ = some (.string (ba eB.key))) ∧
      (W.cell? ⟨g, 4, none⟩ = some (.int .i64 eC.addr) ∧ W.cell? ⟨g, 5, none⟩ = some (.int .i64 eC.state) ∧ W.cell? ⟨g, 6, none⟩ = some (.int .i64 eC.till) ∧ W.cell? ⟨g, 7, none⟩ = some (.string (ba eC.key))))
    (first
      | exact K.out _ (Below.refl _ _)
      | exact K.out _ (Below.refl _ _).drew
      | exact K.out _ hbu9
      | exact K.out _ hbx9)
    (first
      | (go_simp; go_at_call 14; (with_reducible refine (HD2.out _ (by first | exact Below.refl _ _ | exact (Below.refl _ _).drew)).mono ?_); rintro ee wu ⟨rfl, hbu⟩; have hbu9 : Below w7.heap.size w7 wu := below_undrew hbu)
      | (go_simp; go_at_call 14; (with_reducible refine (HD3.out _ hbu9).mono ?_); rintro ee wx ⟨rfl, hbx⟩; have hbx9 : Below w7.heap.size w7 wx := hbu9.trans (hbx.mono hbu9.size)))
  all_goals (
    go_wp2
    go_ret
    exact ⟨rfl, BB7.out.trans (hbx9.mono BB7.out.size)⟩)
end Go.Proofs.YtlefpodonkdbeaaGreat.Lw
