/- What the document's own Parse comes to. Condition: a text of 1000 bytes at most. -/
import Derived.Test.YtgdomcjonlngaaaDoorKwParse2
set_option maxRecDepth 8000
namespace Go.Proofs.YtgdomcjonlngaaaDoor.Kw
open Go.RowKit Tl By Ky

/-- What the document's Parse answers. -/
def PdR (w : World) (R : Option (List UInt8)) (en : Ending) (w' : World) : Prop := ∃ q : ByteArray, en = .returned (.tuple #[.string q, .bool R.isSome]) ∧ q.data.toList = R.getD [] ∧ Below w.heap.size w w'
theorem PdR.no {w w' : World} {R : Option (List UInt8)} (h : R = none) (hb : Below w.heap.size w w') : PdR w R (.returned (.tuple #[.string ⟨#[]⟩, .bool false])) w' := ⟨_, by rw [h]; rfl, by rw [h]; rfl, hb⟩
theorem PdR.yes {w w' : World} {R : Option (List UInt8)} {t : List UInt8} {q : ByteArray} (h : R = some t) (hq : q.data.toList = t) (hb : Below w.heap.size w w') : PdR w R (.returned (.tuple #[.string q, .bool true])) w' := ⟨q, by rw [h]; rfl, by rw [h]; exact hq, hb⟩
theorem mul16 (a : UInt8) : IntKind.u8.wrap ((a.toNat : Int) * 16) = ((a * 16).toNat : Int) := by
  rw [IntKind.wrap_u8, UInt8.toNat_mul]
  show _ = ((a.toNat * 16 % 2 ^ 8 : Nat) : Int)
  omega
theorem add8 (a b : UInt8) : IntKind.u8.wrap ((a.toNat : Int) + (b.toNat : Int)) = ((a + b).toNat : Int) := by
  rw [IntKind.wrap_u8, UInt8.toNat_add]
  omega

set_option maxHeartbeats 1000000 in
theorem refParse_any (s : ByteArray) (w : World) (hs : s.size ≤ 1000) :
    Calls Tryd.prog 18 #[.string s] w (PdR w (parseK s.data.toList)) := by
  have hz := size_list s
  by_cases h4 : (s.size : Int) < 4
  · have H : Hid (parseK s.data.toList = none) := parse_short (by omega)
    clear hz
    go_enter Tryd.func18, Tryd.ntmps18
    go_wp2
    go_ret2
    exact PdR.no H.out (Below.refl _ _)
  by_cases h1 : s.size % 2 = 1
  · have H : Hid (parseK s.data.toList = none) := parse_odd (by omega)
    have hm : (s.size : Int).tmod 2 = 1 := by rw [Int.tmod_eq_emod_of_nonneg (by omega)]; omega
    clear hz h1
    go_enter Tryd.func18, Tryd.ntmps18
    go_wp2
    go_ret2
    exact PdR.no H.out (Below.refl _ _)
  have hm : (s.size : Int).tmod 2 = 0 := by rw [Int.tmod_eq_emod_of_nonneg (by omega)]; omega
  have h00 : 0 < s.size := by omega
  have h01 : 1 < s.size := by omega
  have HL : Hid (s.data.toList = s[0] :: s[1] :: s.data.toList.drop 2) := by
    show _ = _
    have e := drop_at s 0 h00
    rw [List.drop_zero, drop_at s (0 + 1) h01] at e
    exact e
  have HF : Hid (parseK s.data.toList = if rightK (s[0] :: pairsU (s.data.toList.drop 2)) = true ∧ textK (s[0] :: pairsU (s.data.toList.drop 2)) = s.data.toList then some (s[0] :: pairsU (s.data.toList.drop 2)) else none) := by
    have e := parse_ref s[0] s[1] (s.data.toList.drop 2)
    rw [← HL.out] at e
    exact e
  generalize hx0 : s[0]'h00 = x at HF
  obtain ⟨N, hN⟩ : ∃ N, s.size = 2 * N := ⟨s.size / 2, by omega⟩
  have hN5 : N ≤ 500 := by omega
  have hN2 : 2 ≤ N := by omega
  have HNN := Lib.hid hN
  have hb0 : Below w.heap.size w (w.alloc (.cells #[.int .u8 (x.toNat : Int)] 5)) := (Below.refl _ _).alloc (Nat.le_refl _) _
  have HO := Lib.hid (Own.lit1 5 w x)
  clear h1 hz hN HL
  go_enter Tryd.func18, Tryd.ntmps18
  go_wp2
  clear hm h4
  go_loopw [4, 5] (fun v i wr => ∃ k A n c l, 1 ≤ k ∧ k ≤ N ∧ i = .int .i64 ((2 * k : Nat) : Int) ∧ v = .slice A n c ∧ n ≤ k ∧ Own 5 w.heap.size wr A n c l ∧ Hid (l ++ pairsU (s.data.toList.drop (2 * k)) = x :: pairsU (s.data.toList.drop 2)) ∧ Below w.heap.size w wr) (fun _ i _ => s.size - (intOf i).toNat)
  case atStart => exact ⟨1, _, 1, 1, [x], by omega, by omega, rfl, rfl, by omega, HO.out, rfl, hb0⟩
  case round =>
    clear HO hb0
    obtain ⟨k, A, n, c, l, hk1, hk, rfl, rfl, hn, hown, HJ, hb⟩ := hrel
    obtain ⟨p, hp⟩ : ∃ p, p = 2 * k := ⟨_, rfl⟩
    rw [← hp] at HJ ⊢
    by_cases hlt : k < N
    · have hp1 : p < s.size := by have := HNN.out; omega
      have hp2 : p + 1 < s.size := by have := HNN.out; omega
      have HD : Hid (s.data.toList.drop p = s[p] :: s[p + 1] :: s.data.toList.drop (p + 1 + 1)) := by
        show _ = _
        rw [drop_at s p hp1, drop_at s (p + 1) hp2]
      have hwp : IntKind.i64.wrap ((p : Int) + 1) = ((p + 1 : Nat) : Int) := by rw [IntKind.wrap_i64]; omega
      obtain ⟨r, hr⟩ : ∃ r, r = p + 1 := ⟨_, rfl⟩
      have hr2 : r < s.size := by omega
      have hyb : s[r]'hr2 = s[p + 1]'hp2 := by simp only [hr]
      rw [← hr] at hwp
      generalize hya : s[p]'hp1 = a at HD
      generalize s[p + 1]'hp2 = b at HD hyb
      have HWP := Lib.hid hwp
      have HP := Lib.hid hp
      have HN : Hid ((l ++ [valU a * 16 + valU b]) ++ pairsU (s.data.toList.drop (2 * (k + 1))) = x :: pairsU (s.data.toList.drop 2)) := by
        show _ = _
        rw [← HJ.out, HD.out, show 2 * (k + 1) = p + 1 + 1 by have := HP.out; omega, pairsU]
        simp
      have HM1 := Lib.hid (mul16 (valU a))
      have HM2 := Lib.hid (add8 (valU a * 16) (valU b))
      have HV1 := Lib.hid (fun W => value_any a W)
      have HV2 := Lib.hid (fun W => value_any b W)
      generalize valU a * 16 + valU b = y at HN HM2
      generalize valU a * 16 = z at HM1 HM2
      generalize valU a = va at HM1 HV1
      generalize valU b = vb at HM2 HV2
      have hba : Below wr.heap.size wr (wr.alloc (Obj.cells #[.int .u8 (y.toNat : Int)] 5)).drew := ((Below.refl _ _).alloc (Nat.le_refl _) _).drew
      have hlit : Bs (wr.alloc (Obj.cells #[.int .u8 (y.toNat : Int)] 5)).drew (some ⟨wr.heap.size, 0, none⟩) 1 1 [y] := (Own.lit1 5 wr y).bs
      have howna := hown.below hba
      have hsz := hb.size
      have hszb := Nat.le_trans hsz hba.size
      have hbn : n + 1 ≤ 140737488355328 := by omega
      clear hp2 hr hwp hp hown
      go_wp2_with fail
      have hwp := HWP.out
      have hm1 := HM1.out
      have hm2 := HM2.out
      go_region_law (first
        | (refine step_appK byP (by rfl) (.tmp 29) (.tmp 41) (by rfl) (by rfl) howna (by rfl) hlit hbn hszb ?_; intro A3 c3 w3 hown3 hb3 _ _)
        | (go_simp; go_at_call 27; with_reducible refine (HV1.out _).mono ?_; rintro e w' ⟨rfl, rfl⟩)
        | (go_simp; go_at_call 27; with_reducible refine (HV2.out _).mono ?_; rintro e w' ⟨rfl, rfl⟩))
      all_goals
        clear hwp hm1 hm2
        have hb13 : Below w.heap.size wr w3 := (hba.mono hsz).trans hb3
        go_wp2
        go_roundw
        case rel => exact ⟨k + 1, A3, n + 1, c3, _, by omega, by omega, by have := HP.out; go_num, rfl, by omega, hown3, HN, hb.trans hb13⟩
        case measure => simp [intOf]; omega
    · obtain rfl : k = N := by omega
      have hpz : p = s.size := by have := HNN.out; omega
      have HE : Hid (l = x :: pairsU (s.data.toList.drop 2)) := by
        have e := HJ.out
        rw [List.drop_of_length_le (by rw [size_list]; omega)] at e
        show _ = _
        rw [← e]
        simp [pairsU]
      rw [← HE.out] at HF
      have hll := hown.bs.len
      obtain ⟨q, hq⟩ : ∃ q : ByteArray, q = ⟨l.toArray⟩ := ⟨_, rfl⟩
      have HQ : Hid (q.data.toList = l) := by show _ = _; rw [hq]
      have hqz : q.size ≤ 9223372036854775807 := by have := size_list q; rw [HQ.out] at this; omega
      have hcv := byP.str hown.bs
      have HB2 := Lib.hid (fun W (h : Below wr.heap.size wr W) => byP.str (hown.bs.below h))
      rw [← hq] at hcv HB2
      clear hown
      have HG := Lib.hid (fun W => refRight_any q W hqz)
      rw [HQ.out] at HG
      clear hp hq hqz hll HJ HE hlt
      subst hpz
      cases hk : rightK l with
      | false =>
        have H : Hid (parseK s.data.toList = none) := by show _ = _; rw [HF.out, hk, if_neg (fun h => by cases h.1)]
        rw [hk] at HG
        clear hk
        go_wp2_with fail
        refine (HG.out _).mono ?_
        rintro e w3 ⟨rfl, rfl⟩
        go_wp2
        go_ret2
        exact PdR.no H.out hb
      | true =>
        have HT := Lib.hid (fun W => refText_any q W (by rw [HQ.out]; exact hk))
        rw [HQ.out] at HT
        rw [hk] at HG HF
        clear hk
        by_cases ht : textK l = s.data.toList
        · have H : Hid (parseK s.data.toList = some l) := by show _ = _; rw [HF.out, if_pos ⟨rfl, ht⟩]
          have e1 : (⟨(textK l).toArray⟩ : ByteArray) = s := by rw [ht]
          rw [e1] at HT
          clear ht e1
          go_wp2_with fail
          refine (HG.out _).mono ?_
          rintro e w3 ⟨rfl, rfl⟩
          go_wp2_with fail
          refine (HT.out _).mono ?_
          rintro e w4 ⟨rfl, hb4⟩
          have hcv4 := HB2.out w4 hb4
          have hb04 := hb.trans (hb4.mono hb.size)
          go_wp2
          go_ret2
          exact PdR.yes H.out HQ.out hb04
        · have H : Hid (parseK s.data.toList = none) := by show _ = _; rw [HF.out, if_neg (fun h => ht h.2)]
          have bt : (textK l == s.toList) = false := by rw [ByteArray.toList_eq]; exact beq_eq_false_iff_ne.2 ht
          clear ht
          go_wp2_with fail
          refine (HG.out _).mono ?_
          rintro e w3 ⟨rfl, rfl⟩
          go_wp2_with fail
          refine (HT.out _).mono ?_
          rintro e w4 ⟨rfl, hb4⟩
          have hb04 := hb.trans (hb4.mono hb.size)
          go_wp2
          go_ret2
          exact PdR.no H.out hb04
end Go.Proofs.YtgdomcjonlngaaaDoor.Kw
