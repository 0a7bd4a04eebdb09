/- The walk of DiskRights. -/
import Derived.Test.YtmgecfbfabhghaaDwRf4
import Derived.Test.YtmgecfbfabhghaaDwAs
import Derived.Test.YtmgecfbfabhghaaDwKnows
import Derived.Deep.RegionHeld3
import Derived.BigQuiet
set_option maxRecDepth 8000
namespace Go.Proofs.Ytmgecfbfabhghaa.Dw
open Go.RowKit By Dk

set_option maxHeartbeats 2000000 in
theorem diskRights_walk (x : Dv) (t : N) (w : World) (h : RdD w.heap.size w x) (hsm : Sm x.d) (_ : t.length ≤ 9223372036854775807) :
    Calls Try.prog 3 #[x.v, .string (ba t)] w (isTrue w) := by
  obtain ⟨w1, hw1⟩ : ∃ w1, w1 = w.alloc (.cells x.cs 25) := ⟨_, rfl⟩
  have V1 : Vd (w.heap.size + 1) w1 w.heap.size x := by rw [hw1]; exact Vd.born h
  have hs1 : w1.heap.size = w.heap.size + 1 := by rw [hw1]; simp
  have B1 := Lib.hid (show Below w.heap.size w w1 by rw [hw1]; exact alloc_more _ _)
  have HGR := Lib.hid (great_any x w1 (V1.r.mono (by omega)))
  have HV1 := Lib.hid V1
  have HSM := Lib.hid hsm
  have hts := ba_size t
  clear h hsm V1
  go_enter Try.func3, Try.ntmps3
  go_wp2_with fail
  rw [← hw1]
  clear hw1
  refine HGR.out.mono ?_
  rintro e w2 ⟨gr, rfl, hgr, hb2⟩
  have B2 := Lib.hid (B1.out.trans (hb2.mono B1.out.size))
  have HV2 := Lib.hid (HV1.out.below (hb2.mono (by omega)))
  have hs2 : w.heap.size < w2.heap.size := by have := hb2.size; omega
  clear hb2 HGR hs1
  cases gr with
  | true =>
    clear hgr
    go_wp2_with fail
    refine (knows_yes _).mono ?_
    rintro e wz ⟨rfl, hbz⟩
    go_wp2
    go_ret
    exact ⟨rfl, B2.out.trans (hbz.mono B2.out.size)⟩
  | false =>
  obtain ⟨hg1, hg2, hg3, hg4⟩ := hgr rfl
  clear hgr hg1
  have htz : (ba t).size = t.length := rfl
  by_cases hn1 : (100 : Int) < ((ba t).size : Int)
  · clear hts htz
    go_wp2_with fail
    refine (knows_yes _).mono ?_
    rintro e wz ⟨rfl, hbz⟩
    go_wp2
    go_ret
    exact ⟨rfl, B2.out.trans (hbz.mono B2.out.size)⟩
  have HAX := Lib.hid (as_any x w2 (HV2.out.r.mono (by omega)) (by omega) (by omega) (by omega))
  obtain ⟨q0, q1, q2⟩ := cel3 HV2.out.c
  clear hts htz hg2 hg3 hg4
  go_wp2_with fail
  refine HAX.out.mono ?_
  rintro e w3 ⟨y, rfl, hy, hry, hb3⟩
  have HY := Lib.hid hy
  have B3 := Lib.hid (B2.out.trans (hb3.mono B2.out.size))
  have HV3 := Lib.hid (HV2.out.below (hb3.mono (by omega)))
  have hs3 : w.heap.size < w3.heap.size := Nat.lt_of_lt_of_le hs2 hb3.size
  clear hb3 hy q0 q1 q2 HAX
  obtain ⟨w4, hw4⟩ : ∃ w4, w4 = w3.alloc (.cells y.cs 31) := ⟨_, rfl⟩
  have hb34 : Below w3.heap.size w3 w4 := by rw [hw4]; exact alloc_more _ _
  have HC4 := Lib.hid (show Cel w4 w3.heap.size 31 y.cs by rw [hw4]; exact Cel.born _ _ _)
  have HRY4 := Lib.hid ((hry.below hb34).mono hb34.size)
  have B4 := Lib.hid (B3.out.trans (hb34.mono B3.out.size))
  have HV4 := Lib.hid (HV3.out.below (hb34.mono (by omega)))
  have hs4 : w.heap.size < w4.heap.size := Nat.lt_of_lt_of_le hs3 hb34.size
  clear hb34 hry
  have HG4 := Lib.hid (get_any x t w4 (HV4.out.r.mono (by omega)) HSM.out)
  obtain ⟨pr, hpr⟩ : ∃ pr, pr = getK x.d t := ⟨_, rfl⟩
  rw [← hpr] at HG4
  have HPR := Lib.hid hpr
  clear hpr
  obtain ⟨q0, q1, q2⟩ := cel3 HV3.out.c
  go_wp2_with fail
  rw [← hw4]
  clear hw4
  refine HG4.out.mono ?_
  rintro e w5 ⟨A5, n5, c5, rfl, hb5, hbw5⟩
  have HB5 := Lib.hid hb5
  have B5 := Lib.hid (B4.out.trans (hbw5.mono B4.out.size))
  have HV5 := Lib.hid (HV4.out.below (hbw5.mono (by omega)))
  have HC5 := Lib.hid (HC4.out.below hbw5 HC4.out.lt)
  have HRY5 := Lib.hid ((HRY4.out.below hbw5).mono hbw5.size)
  have hs5 : w.heap.size < w5.heap.size := Nat.lt_of_lt_of_le hs4 hbw5.size
  clear hb5 hbw5 q0 q1 q2 HG4
  have HSY : Hid (Sm y.d) := by show Sm y.d; rw [HY.out]; exact HSM.out
  have HG5 := Lib.hid (refGet_any y t w5 HRY5.out HSY.out)
  rw [HY.out, ← HPR.out] at HG5
  obtain ⟨q0, q1, q2⟩ := cel3 HC5.out
  go_wp2_with fail
  refine HG5.out.mono ?_
  rintro e w6 ⟨A6, n6, c6, rfl, hb6, hbw6⟩
  have HB6 := Lib.hid hb6
  have HB5b := Lib.hid (HB5.out.below hbw6)
  have B6 := Lib.hid (B5.out.trans (hbw6.mono B5.out.size))
  have HV6 := Lib.hid (HV5.out.below (hbw6.mono (by omega)))
  have HC6 := Lib.hid (HC5.out.below hbw6 HC5.out.lt)
  have HRY6 := Lib.hid ((HRY5.out.below hbw6).mono hbw6.size)
  have hs6 : w.heap.size < w6.heap.size := Nat.lt_of_lt_of_le hs5 hbw6.size
  clear hb6 hbw6 q0 q1 q2 HG5
  have HN6 := Lib.hid (names_any x w6 (HV6.out.r.mono (by omega)) HSM.out)
  obtain ⟨q0, q1, q2⟩ := cel3 HV6.out.c
  go_wp2_with fail
  refine HN6.out.mono ?_
  rintro e w7 ⟨A7, n7, c7, rfl, hn7, hbw7⟩
  have HN7 := Lib.hid hn7
  have HB5c := Lib.hid (HB5b.out.below hbw7)
  have HB6c := Lib.hid (HB6.out.below hbw7)
  have B7 := Lib.hid (B6.out.trans (hbw7.mono B6.out.size))
  have HV7 := Lib.hid (HV6.out.below (hbw7.mono (by omega)))
  have HC7 := Lib.hid (HC6.out.below hbw7 HC6.out.lt)
  have HRY7 := Lib.hid ((HRY6.out.below hbw7).mono hbw7.size)
  have hs7 : w.heap.size < w7.heap.size := Nat.lt_of_lt_of_le hs6 hbw7.size
  clear hn7 hbw7 q0 q1 q2 HN6
  have HG7 := Lib.hid (refGood_any w7.heap.size y w7 HRY7.out (Nat.le_refl _) HSY.out)
  obtain ⟨q0, q1, q2⟩ := cel3 HC7.out
  go_wp2_with fail
  refine HG7.out.mono ?_
  rintro e w8 ⟨z, rfl, hz, hrz, hbw8⟩
  have HZ := Lib.hid hz
  have hznow : z.now = (goodD x.d).now := by rw [← HY.out, ← HZ.out]; rfl
  obtain rfl : n7 = z.nn := by
    have e1 := HN7.out.len
    have e2 := hrz.n.len
    rw [hznow] at e2
    rw [← e2]
    have e3 : (strV (namesK x.d)).length = (goodD x.d).now.length := by unfold strV namesK; simp
    omega
  have HZN := Lib.hid hznow
  clear hznow
  have HB5d := Lib.hid (HB5c.out.below hbw8)
  have HB6d := Lib.hid (HB6c.out.below hbw8)
  have HN8 := Lib.hid (HN7.out.below hbw8)
  have B8 := Lib.hid (B7.out.trans (hbw8.mono B7.out.size))
  have HV8 := Lib.hid (HV7.out.below (hbw8.mono (by omega)))
  have HC8 := Lib.hid (HC7.out.below hbw8 HC7.out.lt)
  have HRY8 := Lib.hid ((HRY7.out.below hbw8).mono hbw8.size)
  have HRZ8 := Lib.hid (hrz.mono hbw8.size)
  have hs8 : w.heap.size < w8.heap.size := Nat.lt_of_lt_of_le hs7 hbw8.size
  have ht8 : w3.heap.size < w8.heap.size := HC8.out.lt
  clear hz hrz hbw8 q0 q1 q2 HG7
  obtain ⟨w9, hw9⟩ : ∃ w9, w9 = w8.alloc (.cells z.cs 31) := ⟨_, rfl⟩
  have hb89 : Below w8.heap.size w8 w9 := by rw [hw9]; exact alloc_more _ _
  have HZ9 := Lib.hid (show Cel w9 w8.heap.size 31 z.cs by rw [hw9]; exact Cel.born _ _ _)
  have hb9s := hb89.size
  have hsz9 : w9.heap.size = w8.heap.size + 1 := by rw [hw9]; simp
  have HV9 := Lib.hid (HV8.out.below (hb89.mono (by omega)))
  have HC9 := Lib.hid (HC8.out.below hb89 HC8.out.lt)
  have HB5e := Lib.hid (HB5d.out.below hb89)
  have HB6e := Lib.hid (HB6d.out.below hb89)
  have HN9 := Lib.hid (HN8.out.below hb89)
  have B9 := Lib.hid (B8.out.trans (hb89.mono B8.out.size))
  have HRY9 := Lib.hid ((HRY8.out.below hb89).mono hb89.size)
  have HRZ9 := Lib.hid ((HRZ8.out.below hb89).mono hb89.size)
  obtain ⟨q0, q1, q2⟩ := cel3 HV8.out.c
  obtain ⟨p0, p1, p2⟩ := cel3 HC8.out
  obtain ⟨g0, g1, g2⟩ := cel3 HV9.out.c
  obtain ⟨k0, k1, k2⟩ := cel3 HC9.out
  obtain ⟨z0, z1, z2⟩ := cel3 HZ9.out
  have HR1 : Hid (∀ W, Below w9.heap.size w9 W → Calls Try.prog 16 #[x.v] W (isB W (decide (RightD x.d)))) := fun W hW => right_any x W ((HV9.out.r.below (hW.mono (by omega))).mono (by have := hW.size; omega)) HSM.out
  have HR2 : Hid (∀ W, Below w9.heap.size w9 W → Calls Try.prog 17 #[y.v] W (isB W (decide (RightD x.d)))) := fun W hW => by
    have h := refRight_any y W ((HRY9.out.below hW).mono hW.size) HSY.out
    rw [HY.out] at h
    exact h
  have K : Hid (∀ W, Below w9.heap.size w9 W → Below w9.heap.size w9 W ∧ W.cell? ⟨w.heap.size, 0, none⟩ = some (.slice x.fA x.fn x.fc) ∧ W.cell? ⟨w.heap.size, 1, none⟩ = some (.slice x.nA x.nn x.nc) ∧ W.cell? ⟨w.heap.size, 2, none⟩ = some (.slice x.kA x.kn x.kc) ∧ W.cell? ⟨w3.heap.size, 0, none⟩ = some (.slice y.fA y.fn y.fc) ∧ W.cell? ⟨w3.heap.size, 1, none⟩ = some (.slice y.nA y.nn y.nc) ∧ W.cell? ⟨w3.heap.size, 2, none⟩ = some (.slice y.kA y.kn y.kc) ∧ W.cell? ⟨w8.heap.size, 1, none⟩ = some (.slice z.nA z.nn z.nc) ∧ (convert 33 9 (.slice A5 n5 c5)).run Try.prog W = .ok (.string ⟨pr.1.toArray⟩) W ∧ (convert 33 9 (.slice A6 n6 c6)).run Try.prog W = .ok (.string ⟨pr.1.toArray⟩) W) := fun W hW => ⟨hW, (hW.cell (p := ⟨w.heap.size, 0, none⟩) (by show w.heap.size < _; omega)).trans g0, (hW.cell (p := ⟨w.heap.size, 1, none⟩) (by show w.heap.size < _; omega)).trans g1, (hW.cell (p := ⟨w.heap.size, 2, none⟩) (by show w.heap.size < _; omega)).trans g2, (hW.cell (p := ⟨w3.heap.size, 0, none⟩) (by show w3.heap.size < _; omega)).trans k0, (hW.cell (p := ⟨w3.heap.size, 1, none⟩) (by show w3.heap.size < _; omega)).trans k1, (hW.cell (p := ⟨w3.heap.size, 2, none⟩) (by show w3.heap.size < _; omega)).trans k2, (hW.cell (p := ⟨w8.heap.size, 1, none⟩) (by show w8.heap.size < _; omega)).trans z1, byP.str (HB5e.out.below hW), byP.str (HB6e.out.below hW)⟩
  clear hb89 hb9s
  go_wp2_with fail
  rw [← hw9]
  clear hw9 q0 q1 q2 p0 p1 p2
  go_region_held3 (fun W => Below w9.heap.size w9 W ∧ W.cell? ⟨w.heap.size, 0, none⟩ = some (.slice x.fA x.fn x.fc) ∧ W.cell? ⟨w.heap.size, 1, none⟩ = some (.slice x.nA x.nn x.nc) ∧ W.cell? ⟨w.heap.size, 2, none⟩ = some (.slice x.kA x.kn x.kc) ∧ W.cell? ⟨w3.heap.size, 0, none⟩ = some (.slice y.fA y.fn y.fc) ∧ W.cell? ⟨w3.heap.size, 1, none⟩ = some (.slice y.nA y.nn y.nc) ∧ W.cell? ⟨w3.heap.size, 2, none⟩ = some (.slice y.kA y.kn y.kc) ∧ W.cell? ⟨w8.heap.size, 1, none⟩ = some (.slice z.nA z.nn z.nc) ∧ (convert 33 9 (.slice A5 n5 c5)).run Try.prog W = .ok (.string ⟨pr.1.toArray⟩) W ∧ (convert 33 9 (.slice A6 n6 c6)).run Try.prog W = .ok (.string ⟨pr.1.toArray⟩) W)
    (first
      | exact K.out _ (Below.refl _ _)
      | exact K.out _ (Below.refl _ _).drew
      | exact K.out _ hbu9
      | exact K.out _ hbv9)
    (first
      | (go_simp; go_at_call 16; refine (HR1.out _ (by first | exact (Below.refl _ _).drew | exact Below.refl _ _)).mono ?_; rintro ee wu ⟨rfl, hbu⟩; have hbu9 : Below w9.heap.size w9 wu := below_undrew hbu)
      | (go_simp; go_at_call 17; refine (HR2.out _ hbu9).mono ?_; rintro ee wv ⟨rfl, hbv⟩; have hbv9 : Below w9.heap.size w9 wv := hbu9.trans (hbv.mono hbu9.size)))
  have HL : Hid (∀ k s f, z.now[k]? = some (s, f) → (strV (namesK x.d))[k]? = some (Value.string (ba s))) := fun k s f hk => by
    unfold strV namesK
    rw [HZN.out] at hk
    rw [List.getElem?_map, List.getElem?_map, hk]
    rfl
  clear k0 k1 k2 g0 g1 g2 z0 z1 z2
  have HBV := Lib.hid hbv9
  clear hbu9 hbv9 hbu hbv
  go_wp2
  go_loopw [12] (fun i wr => ∃ k : Nat, k ≤ z.nn ∧ i = .int .i64 k ∧ Below w9.heap.size w9 wr) (fun i _ => z.nn - (intOf i).toNat)
  case atStart => exact ⟨0, by omega, rfl, HBV.out⟩
  case round =>
    obtain ⟨k, hk, rfl, hbr⟩ := hrel
    have hnm := HRZ9.out.n.max
    have hnc := HRZ9.out.n.cap
    have hm7 := HN9.out.max
    have hc7 := HN9.out.cap
    by_cases hlt : k < z.nn
    · obtain ⟨b, o, s, f, eA, hbl, HE, r1, r2⟩ := atE (HRZ9.out.n.below hbr) hlt
      obtain ⟨b7, o7, eA7, hc7c⟩ := (HN9.out.below hbr).at_ hlt
      obtain ⟨hi, he⟩ := List.getElem?_eq_some_iff.1 (HL.out k s f HE.out)
      have r7 := (hc7c k hi).trans (congrArg some he)
      obtain ⟨_, z1, _⟩ := cel3 (HZ9.out.below hbr HZ9.out.lt)
      rw [eA] at z1
      subst eA7
      have hkz : (k : Int) < (z.nn : Int) := by omega
      clear hi he hc7c HE eA hbl
      go_wp2_with fail
      go_quiet (fail)
      go_wp2
      go_roundw
      case rel =>
        refine ⟨k + 1, by omega, by go_num, ?_⟩
        first
          | exact hbr
          | exact hbr.drew
          | exact below_drewN hbr _
      case measure => simp [intOf]; omega
    · obtain rfl : k = z.nn := by omega
      have HBR := Lib.hid hbr
      clear hbr
      go_wp2_with fail
      refine (knows_yes _).mono ?_
      rintro e wz ⟨rfl, hbz⟩
      have HBZ := Lib.hid ((B9.out.trans (HBR.out.mono B9.out.size)).trans (hbz.mono (B9.out.trans (HBR.out.mono B9.out.size)).size))
      clear hbz
      go_wp2
      go_ret
      exact ⟨rfl, HBZ.out⟩
end Go.Proofs.Ytmgecfbfabhghaa.Dw
