/- What boarderlaw10's knows comes to. -/
import Derived.Test.YtogcmnpnhncjhaaGreatJwAdd
import Derived.Test.YtogcmnpnhncjhaaGreatJwDo
import Derived.Test.YtogcmnpnhncjhaaGreatEwB
import Derived.BigQuiet
import Derived.Deep.QuietTactic
set_option maxRecDepth 8000
namespace Go.Proofs.YtogcmnpnhncjhaaGreat.Jw
open Go.RowKit Co By Ky Rc Dk Jn Ew
open Dw (ba ba_size ba_data ba_list Dv RdD Sm zeroV good_sm cel3 cel_frs cel_put3 below_put3 rdd_away sl3 cell_put3 alloc_more)

theorem kinds_of {xs : List Cv} {ls : List L} {l : L} (h : xs.map Cv.ch = changesJ ls l) : ∀ c ∈ xs, Kind5 c := by
  intro c hc
  have hm : c.ch ∈ changesJ ls l := by rw [← h]; exact List.mem_map_of_mem hc
  have hk : c.ch.kind = c.kind := rfl
  unfold changesJ at hm
  unfold Kind5
  rw [← hk]
  rcases List.mem_append.1 hm with hm | hm
  · rcases List.mem_cons.1 hm with e | hm
    · rw [e]; exact ⟨show (1 : Int) ≤ 1 by decide, show (1 : Int) ≤ 5 by decide⟩
    · rcases List.mem_cons.1 hm with e | hm
      · rw [e]; exact ⟨by decide, by decide⟩
      · cases hm
  · split at hm
    · rcases List.mem_cons.1 hm with e | hm
      · rw [e]; exact ⟨by decide, by decide⟩
      · cases hm
    · cases hm
def kA : L := ⟨1, 1, 258, [105, 48, 49]⟩
theorem kA_right : RightR kA := by decide
theorem kA_all (n : Nat) : ∀ a ∈ List.replicate n kA, RightR a := fun a ha => by rw [(List.mem_replicate.1 ha).2]; exact kA_right
theorem kA_add0 : addJ zeroD kA = (changesJ [] kA, 0) := add_disk (ls := []) (fun a ha => by cases ha) kA_right (by decide)
theorem kA_len (n : Nat) (hn : n ≤ 50) : (framesJ (List.replicate n kA)).length ≤ 20000 := by
  have := frames_small (kA_all n)
  rw [List.length_replicate] at this
  omega
theorem kA_do0 : doC zeroD (changesJ [] kA) 9 = (diskJ [kA], 3) := do_all (ls := []) (l := kA) (kA_len 1 (by omega)) (by decide)
theorem kA_add1 : addJ (diskJ [kA]) kA = (changesJ [kA] kA, 0) := add_disk (kA_all 1) kA_right (kA_len 1 (by omega))
theorem kA_do1 : doC (diskJ [kA]) (changesJ [kA] kA) 9 = (diskJ [kA, kA], 2) := do_all (ls := [kA]) (l := kA) (kA_len 2 (by omega)) (by decide)
theorem kA_size : sizeJ [kA, kA] = 42 := by
  show (framesJ [kA, kA]).length = 42
  rw [show framesJ [kA, kA] = frameL (encR kA) ++ (frameL (encR kA) ++ []) from rfl, List.append_nil, List.length_append, frameL_length, enc_len]
  rfl
theorem kA_read : readD (diskJ [kA, kA]) = ([kA, kA], 42, 0) := (read_disk (ls := [kA, kA]) (kA_all 2) (kA_len 2 (by omega))).trans (by rw [kA_size])
set_option maxHeartbeats 4000000 in
theorem knows_yes (w : World) : Calls Tryz.prog 5 #[] w fun e w' => e = .returned (.bool true) ∧ Below w.heap.size w w' := by
  obtain ⟨w1, hw1⟩ : ∃ w1, w1 = w.alloc (.cells (lcs kA) 43) := ⟨_, rfl⟩
  have hb1 : Below w.heap.size w w1 := by rw [hw1]; exact (Below.refl _ _).alloc (Nat.le_refl _) _
  have hc1 : Cel w1 w.heap.size 43 (lcs kA) := by rw [hw1]; exact Cel.born _ _ _
  have HB1 := Lib.hid hb1
  have HC1 := Lib.hid hc1
  have ha := addJ_any zeroV kA w1 (RdD.zero _ _) (good_sm zero_right) (show kA.key.length ≤ _ by decide)
  rw [show zeroV.d = zeroD from rfl, kA_add0] at ha
  have HA := Lib.hid ha
  obtain ⟨a0, a1, a2, a3⟩ := cel4 hc1
  rw [hw1] at a0 a1 a2 a3
  clear hb1 hc1 ha
  go_enter Tryz.func5, Tryz.ntmps5
  go_wp2_with fail
  rw [← show w1 = w.alloc (.cells #[.int .i64 1, .int .i64 1, .int .i64 258, .string ⟨#[105, 48, 49]⟩] 43) from hw1]
  clear hw1 a0 a1 a2 a3
  refine HA.out.mono ?_
  rintro e w2 ⟨A2, n2, c2, xs, rfl, hx2, he2, hb2⟩
  obtain rfl : n2 = 3 := by rw [← hx2.len, ← List.length_map (f := Cv.ch), he2]; rfl
  have hdo := doJ_any zeroV A2 3 c2 xs 9 w2 (RdD.zero _ _) (good_sm zero_right) hx2 (kinds_of (ls := []) (l := kA) he2)
  rw [show zeroV.d = zeroD from rfl, he2, kA_do0] at hdo
  have HDO := Lib.hid hdo
  have HB2 := Lib.hid (HB1.out.trans (hb2.mono HB1.out.size))
  have HC2 := Lib.hid (HC1.out.below hb2 HC1.out.lt)
  clear hdo hx2 he2 hb2 HA HC1
  go_wp2_with fail
  refine HDO.out.mono ?_
  rintro e w3 ⟨z, rfl, hz, hrz, hb3⟩
  obtain ⟨w4, hw4⟩ : ∃ w4, w4 = w3.alloc (.cells z.cs 25) := ⟨_, rfl⟩
  have hb4 : Below w3.heap.size w3 w4 := by rw [hw4]; exact alloc_more _ _
  have hc4 : Cel w4 w3.heap.size 25 z.cs := by rw [hw4]; exact Cel.born _ _ _
  have hz4 := (hrz.below hb4).mono hb4.size
  have ha := addJ_any z kA w4 hz4 (by rw [hz]; exact good_sm (disk_right (kA_len 1 (by omega)))) (show kA.key.length ≤ _ by decide)
  rw [hz, kA_add1] at ha
  have HA := Lib.hid ha
  have hb34 := hb3.trans (hb4.mono hb3.size)
  have HB4 := Lib.hid (HB2.out.trans (hb34.mono HB2.out.size))
  have hca := HC2.out.below hb34 HC2.out.lt
  have HC4 := Lib.hid hca
  have HD4 := Lib.hid hc4
  have HZ := Lib.hid hz
  have HZ4 := Lib.hid hz4
  have hg34 : w.heap.size ≠ w3.heap.size := by have := HB2.out.size; have := hb3.size; have := HC2.out.lt; omega
  have hws3 : w.heap.size ≤ w3.heap.size := Nat.le_trans HB2.out.size hb3.size
  obtain ⟨a0, a1, a2, a3⟩ := cel4 hca
  obtain ⟨d0, d1, d2⟩ := cel3 hc4
  rw [hw4] at a0 a1 a2 a3 d0 d1 d2
  clear hb3 hb4 hc4 hz4 ha hb34 hca hrz HDO HC2
  go_wp2_with fail
  rw [← hw4]
  clear hw4 a0 a1 a2 a3 d0 d1 d2
  refine HA.out.mono ?_
  rintro e w5 ⟨A5, n5, c5, ys, rfl, hx5, he5, hb5⟩
  obtain rfl : n5 = 2 := by rw [← hx5.len, ← List.length_map (f := Cv.ch), he5]; rfl
  have hd5 := HD4.out.below hb5 HD4.out.lt
  have hz5 := (HZ4.out.below hb5).mono hb5.size
  have hdo := doJ_any z A5 2 c5 ys 9 w5 hz5 (by rw [HZ.out]; exact good_sm (disk_right (kA_len 1 (by omega)))) hx5 (kinds_of (ls := [kA]) (l := kA) he5)
  rw [HZ.out, he5, kA_do1] at hdo
  have HDO := Lib.hid hdo
  have HB5 := Lib.hid (HB4.out.trans (hb5.mono HB4.out.size))
  have HC5 := Lib.hid (HC4.out.below hb5 HC4.out.lt)
  have HD5 := Lib.hid hd5
  obtain ⟨d0, d1, d2⟩ := cel3 hd5
  clear hdo hx5 he5 hb5 hz5 hd5 HA HC4 HD4 HZ HZ4
  go_wp2_with fail
  refine HDO.out.mono ?_
  rintro e w6 ⟨y, rfl, hy, hry, hb6⟩
  have hd6 := HD5.out.below hb6 HD5.out.lt
  have hc6 := HC5.out.below hb6 HC5.out.lt
  obtain ⟨w7, hw7⟩ : ∃ w7, w7 = ((w6.setCell ⟨w3.heap.size, 0, none⟩ (.slice y.fA y.fn y.fc)).setCell ⟨w3.heap.size, 1, none⟩ (.slice y.nA y.nn y.nc)).setCell ⟨w3.heap.size, 2, none⟩ (.slice y.kA y.kn y.kc) := ⟨_, rfl⟩
  have hr7 : RdD w7.heap.size w7 y := by
    have := rdd_away hry hd6 sl3 (cell_put3 w6 w3.heap.size (.slice y.fA y.fn y.fc) (.slice y.nA y.nn y.nc) (.slice y.kA y.kn y.kc))
    rw [hw7]
    simpa using this
  have hd7 : Cel w7 w3.heap.size 25 y.cs := by rw [hw7]; exact cel_put3 hd6
  have hc7 : Cel w7 w.heap.size 43 (lcs kA) := by rw [hw7]; exact celFar (celFar (celFar hc6 0 _ hg34) 1 _ hg34) 2 _ hg34
  have HB6 := Lib.hid (HB5.out.trans (hb6.mono HB5.out.size))
  have HB7 := Lib.hid (show Below w.heap.size w w7 by rw [hw7]; exact below_put3 HB6.out hws3 _ _ _)
  have hrd := readJ_any y w7 hr7 (by rw [hy]; exact good_sm (disk_right (kA_len 2 (by omega))))
  rw [hy, kA_read] at hrd
  have HRD := Lib.hid hrd
  have HC7 := Lib.hid hc7
  obtain ⟨d0, d1, d2⟩ := cel3 hd6
  obtain ⟨f0, f1, f2⟩ := cel_frs hd6
  obtain ⟨e0, e1, e2⟩ := cel3 hd7
  rw [hw7] at e0 e1 e2
  clear hd6 hc6 hr7 hd7 hc7 hrd hb6 hry HDO HC5 HD5 HB6
  go_wp2_with fail
  rw [← hw7]
  clear hw7 d0 d1 d2 f0 f1 f2 e0 e1 e2
  refine HRD.out.mono ?_
  rintro e w8 ⟨A8, n8, c8, rfl, hx8, hb8⟩
  obtain rfl : n8 = 2 := by rw [← hx8.len]; rfl
  have HB8 := Lib.hid (HB7.out.trans (hb8.mono HB7.out.size))
  obtain ⟨a0, a1, a2, a3⟩ := cel4 (HC7.out.below hb8 HC7.out.lt)
  obtain ⟨b, o, u, rfl, _, hu, b0, b1, b2, b3⟩ := atL hx8 (k := 1) (by omega)
  obtain rfl : u = kA := by have := hu.out; simpa using this.symm
  have HQ := fun W => leq_self kA W
  clear hx8 hb8 hu HRD HC7
  go_wp2_with fail
  go_quiet (fail)
  go_wp2
  go_ret
  exact ⟨rfl, below_drewN HB8.out _⟩
end Go.Proofs.YtogcmnpnhncjhaaGreat.Jw
