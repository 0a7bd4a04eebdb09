/- What key.parseBytes, key.Parse and the document's own Parse come to. Conditions: that the table of digits holds what the program's text lays; for the document's, a text of 1000 bytes at most. -/
import Derived.Test.YtgdomcjonlngaaaDoorKwText
set_option maxRecDepth 8000
namespace Go.Proofs.YtgdomcjonlngaaaDoor.Ky
theorem unhex_len : ∀ {r t : List UInt8}, unhexL r = some t → r.length = 2 * t.length
  | [], t, h => by injection h with h; subst h; rfl
  | [_], _, h => by cases h
  | a :: b :: r, t, h => by
    obtain ⟨u, v, t', _, _, hr, rfl⟩ := unhex_cons h
    rw [List.length_cons, List.length_cons, List.length_cons, unhex_len hr]
    omega
/-- What the rest of a text adds to what is read. -/
def joinH (pre : List UInt8) (r : List UInt8) : Option (List UInt8) := (unhexL r).map (pre ++ ·)
theorem join_start (r : List UInt8) : joinH [] r = unhexL r := by unfold joinH; cases unhexL r <;> rfl
theorem join_end (pre : List UInt8) : joinH pre [] = some pre := by unfold joinH; rw [unhexL]; simp
theorem join_bad {pre r : List UInt8} {a b : UInt8} (h : digV a = none ∨ digV b = none) : joinH pre (a :: b :: r) = none := by
  unfold joinH
  rw [unhexL]
  rcases h with h | h
  · rw [h]; rfl
  · rw [h]
    cases digV a <;> rfl
theorem join_next {pre r : List UInt8} {a b : UInt8} {u v : Nat} (ha : digV a = some u) (hb : digV b = some v) : joinH pre (a :: b :: r) = joinH (pre ++ [UInt8.ofNat (16 * u + v)]) r := by
  unfold joinH
  rw [unhexL, ha, hb]
  cases unhexL r with
  | none => rfl
  | some t => simp
end Go.Proofs.YtgdomcjonlngaaaDoor.Ky
namespace Go.Proofs.YtgdomcjonlngaaaDoor.Kw
open Go.RowKit Tl By Ky

/-- What parseBytes answers. -/
def PbR (w : World) (R : Option (List UInt8)) (en : Ending) (w' : World) : Prop := ∃ A n c, en = .returned (.tuple #[.slice A n c, .bool R.isSome]) ∧ Bs w' A n c (R.getD []) ∧ Below w.heap.size w w'
theorem PbR.no {w w' : World} {R : Option (List UInt8)} (h : R = none) (hb : Below w.heap.size w w') : PbR w R (.returned (.tuple #[.slice none 0 0, .bool false])) w' := ⟨none, 0, 0, by rw [h]; rfl, by rw [h]; exact Bs.nil _, hb⟩
theorem PbR.yes {w w' : World} {R : Option (List UInt8)} {t : List UInt8} {A : Option Addr} {n c : Nat} (h : R = some t) (ho : Bs w' A n c t) (hb : Below w.heap.size w w') : PbR w R (.returned (.tuple #[.slice A n c, .bool true])) w' := ⟨A, n, c, by rw [h]; rfl, by rw [h]; exact ho, hb⟩
def shortH (r : List UInt8) : Option (List UInt8) := if r.length ≤ 510 then unhexL r else none
theorem val_pos {c : UInt8} (h : 0 ≤ valK c) : ∃ v : Nat, digV c = some v ∧ valK c = (v : Int) ∧ v < 16 := by
  cases hd : digV c with
  | none => unfold valK at h; rw [hd] at h; exact absurd h (by decide)
  | some v => exact ⟨v, rfl, by unfold valK; rw [hd], (hex_dig hd).1⟩
theorem val_neg {c : UInt8} (h : valK c < 0) : digV c = none := by
  cases hd : digV c with
  | none => rfl
  | some v => unfold valK at h; rw [hd] at h; exact absurd h (by show ¬ ((v : Nat) : Int) < 0; omega)
theorem pair_wrap {u v : Nat} (_ : u < 16) (_ : v < 16) : IntKind.u8.wrap ((u : Int) * 16 + (v : Int)) = ((UInt8.ofNat (16 * u + v)).toNat : Int) := by
  rw [IntKind.wrap_u8, UInt8.toNat_ofNat']
  omega

set_option maxHeartbeats 1000000 in
theorem parseBytes_any (s : ByteArray) (w : World) (hw : Dig w) (hs : s.size ≤ 9223372036854775807) :
    Calls Tryd.prog 26 #[.string s] w (PbR w (shortH s.data.toList)) := by
  have hz := size_list s
  by_cases h1 : s.size % 2 = 1
  · have H : Hid (shortH s.data.toList = none) := by
      show _ = _
      unfold shortH
      split
      · cases hu : unhexL s.data.toList with
        | none => rfl
        | some t => have := unhex_len hu; omega
      · rfl
    have hm : (s.size : Int).tmod 2 = 1 := by rw [Int.tmod_eq_emod_of_nonneg (by omega)]; omega
    clear h1 hz
    go_enter Tryd.func26, Tryd.ntmps26
    go_wp2
    go_ret2
    exact PbR.no H.out (Below.refl _ _)
  have hm : (s.size : Int).tmod 2 = 0 := by rw [Int.tmod_eq_emod_of_nonneg (by omega)]; omega
  by_cases h2 : (510 : Int) < (s.size : Int)
  · have H : Hid (shortH s.data.toList = none) := by
      show _ = _
      unfold shortH
      rw [if_neg (by omega)]
    clear h1 hz
    go_enter Tryd.func26, Tryd.ntmps26
    go_wp2
    go_ret2
    exact PbR.no H.out (Below.refl _ _)
  have HR : Hid (shortH s.data.toList = joinH [] (s.data.toList.drop 0)) := by
    show _ = _
    unfold shortH
    rw [if_pos (by omega), List.drop_zero, join_start]
  obtain ⟨N, hN⟩ : ∃ N, s.size = 2 * N := ⟨s.size / 2, by omega⟩
  have hN5 : N ≤ 255 := by omega
  have HNN := Lib.hid hN
  have hs5 : s.size ≤ 510 := by omega
  clear h1 hz hN
  go_enter Tryd.func26, Tryd.ntmps26
  go_wp2
  clear hm h2
  go_loopw [4, 5] (fun v i wr => ∃ k A n c l, k ≤ N ∧ i = .int .i64 ((2 * k : Nat) : Int) ∧ v = .slice A n c ∧ n ≤ k ∧ Own 5 w.heap.size wr A n c l ∧ Hid (shortH s.data.toList = joinH l (s.data.toList.drop (2 * k))) ∧ Below w.heap.size w wr) (fun _ i _ => s.size - (intOf i).toNat)
  case atStart => exact ⟨0, none, 0, 0, [], by omega, rfl, rfl, by omega, Own.nil _ _ _, HR, Below.refl _ _⟩
  case round =>
    clear HR
    obtain ⟨k, A, n, c, l, hk, rfl, rfl, hn, hown, HJ, hb⟩ := hrel
    obtain ⟨p, hp⟩ : ∃ p, p = 2 * k := ⟨_, rfl⟩
    rw [← hp] at HJ ⊢
    by_cases hlt : k < N
    · have hp1 : p < s.size := by have := HNN.out; omega
      have hp2 : p + 1 < s.size := by have := HNN.out; omega
      have HD : Hid (s.data.toList.drop p = s[p] :: s[p + 1] :: s.data.toList.drop (p + 1 + 1)) := by
        show _ = _
        rw [drop_at s p hp1, drop_at s (p + 1) hp2]
      have hwp : IntKind.i64.wrap ((p : Int) + 1) = ((p + 1 : Nat) : Int) := by rw [IntKind.wrap_i64]; omega
      obtain ⟨r, hr⟩ : ∃ r, r = p + 1 := ⟨_, rfl⟩
      have HRR := Lib.hid hr
      have hr2 : r < s.size := by omega
      have hyb : s[r]'hr2 = s[p + 1]'hp2 := by simp only [hr]
      rw [← hr] at hwp
      generalize hya : s[p]'hp1 = a at HD
      generalize s[p + 1]'hp2 = b at HD hyb
      have HWP := Lib.hid hwp
      clear hp2 hr hwp
      have hdw := hw.below hb
      have HV1 := Lib.hid (valueOf_any a wr.drew hdw)
      have HV2 := Lib.hid (valueOf_any b wr.drew hdw)
      have hsz := hb.size
      have HP := Lib.hid hp
      clear hp hdw
      by_cases hA : valK a < 0
      · have H : Hid (shortH s.data.toList = none) := by show _ = _; rw [HJ.out, HD.out]; exact join_bad (.inl (val_neg hA))
        generalize valK a = va at HV1 hA
        generalize valK b = vb at HV2
        go_wp2_with fail
        have hwp := HWP.out
        go_region_law (first
          | (go_simp; go_at_call 36; with_reducible refine HV1.out.mono ?_; rintro e w' ⟨rfl, rfl⟩)
          | (go_simp; go_at_call 36; with_reducible refine HV2.out.mono ?_; rintro e w' ⟨rfl, rfl⟩))
        all_goals
          clear hwp
          go_wp2
          go_ret2
          exact PbR.no H.out hb.drew
      by_cases hB : valK b < 0
      · have H : Hid (shortH s.data.toList = none) := by show _ = _; rw [HJ.out, HD.out]; exact join_bad (.inr (val_neg hB))
        generalize valK a = va at HV1 hA
        generalize valK b = vb at HV2 hB
        go_wp2_with fail
        have hwp := HWP.out
        go_region_law (first
          | (go_simp; go_at_call 36; with_reducible refine HV1.out.mono ?_; rintro e w' ⟨rfl, rfl⟩)
          | (go_simp; go_at_call 36; with_reducible refine HV2.out.mono ?_; rintro e w' ⟨rfl, rfl⟩))
        all_goals
          clear hwp
          go_wp2
          go_ret2
          exact PbR.no H.out hb.drew
      obtain ⟨u, hu, eu, lu⟩ := val_pos (c := a) (by omega)
      obtain ⟨v, hv, ev, lv⟩ := val_pos (c := b) (by omega)
      have HN : Hid (shortH s.data.toList = joinH (l ++ [UInt8.ofNat (16 * u + v)]) (s.data.toList.drop (2 * (k + 1)))) := by
        show _ = _
        rw [HJ.out, HD.out, join_next hu hv, show 2 * (k + 1) = p + 1 + 1 by have := HP.out; omega]
      have hpw := pair_wrap lu lv
      rw [eu] at HV1
      rw [ev] at HV2
      generalize UInt8.ofNat (16 * u + v) = y at HN hpw
      have HPW := Lib.hid hpw
      have hba : Below wr.heap.size wr (wr.drew.alloc (Obj.cells #[.int .u8 (y.toNat : Int)] 5)) := ((Below.refl _ _).drew).alloc (Nat.le_refl _) _
      have hlit : Bs (wr.drew.alloc (Obj.cells #[.int .u8 (y.toNat : Int)] 5)) (some ⟨wr.heap.size, 0, none⟩) 1 1 [y] := (Own.lit1 5 wr.drew y).bs
      have howna := hown.below hba
      have hszb := Nat.le_trans hsz hba.size
      have hbn : n + 1 ≤ 140737488355328 := by omega
      have hui : ¬ (u : Int) < 0 := by omega
      have hvi : ¬ (v : Int) < 0 := by omega
      clear hown hA hB hu hv eu ev hpw
      go_wp2_with fail
      have hwp := HWP.out
      go_region_law (first
        | (go_simp; go_at_call 36; with_reducible refine HV1.out.mono ?_; rintro e w' ⟨rfl, rfl⟩)
        | (go_simp; go_at_call 36; with_reducible refine HV2.out.mono ?_; rintro e w' ⟨rfl, rfl⟩))
      all_goals
        clear hwp
        have hpw := HPW.out
        go_wp2_with (at_builtin; refine wpList_app byP rfl (.tmp 38) (.tmp 44) rfl rfl howna rfl hlit hbn hszb ?_; intro A3 c3 w3 hown3 hb3 _ _; clear hpw)
        have hb13 : Below w.heap.size wr w3 := (hba.mono hsz).trans hb3
        go_roundw
        case rel => exact ⟨k + 1, A3, n + 1, c3, _, by omega, by have := HP.out; go_num, rfl, by omega, hown3, HN, hb.trans hb13⟩
        case measure => simp [intOf]; omega
    · obtain rfl : k = N := by omega
      have hpz : p = s.size := by have := HNN.out; omega
      have H : Hid (shortH s.data.toList = some l) := by
        show _ = _
        rw [HJ.out, List.drop_of_length_le (by rw [size_list]; omega), join_end]
      clear hp
      subst hpz
      go_wp2
      go_ret2
      exact PbR.yes H.out hown.bs hb
end Go.Proofs.YtgdomcjonlngaaaDoor.Kw
