/- What the document's Write comes to. For right leases. -/
import Derived.Test.YtoifdjpflannlaaEwBox
set_option maxRecDepth 8000
namespace Go.Proofs.Ytoifdjpflannlaa.Ew
open Go.RowKit Co By Ky Rc
open Dw (ba ba_size ba_data ba_list)

theorem size_l (s : ByteArray) : s.data.toList.length = s.size := by rw [Array.length_toList]; rfl
theorem take_snocS (t : ByteArray) (k : Nat) (h : k < t.size) : t.data.toList.take (k + 1) = t.data.toList.take k ++ [t[k]] := by
  rw [List.take_succ_eq_append_getElem (by rw [size_l]; exact h)]
  rfl
/-- The loop's word: the head is there, and so many bytes of the key. -/
def StW (U g : Nat) (w : World) (hd : List UInt8) (cs : Array Value) (S : ByteArray) (v i : Value) (wr : World) : Prop :=
  ∃ (j : Nat) (A : Option Addr) (c : Nat), j ≤ S.size ∧ i = .int .i64 j ∧ v = .slice A (12 + j) c ∧ Own 5 U wr A (12 + j) c (hd ++ S.data.toList.take j) ∧ Cel wr g 47 cs ∧ Below U w wr
set_option maxHeartbeats 2000000 in
theorem refWrite_nat (a t : Nat) (x : UInt8) (S : ByteArray) (w : World) (ha : a ≤ 4294967295) (ht : t ≤ 1125899906842624) (hS : S.size ≤ 256) :
    Calls Try.prog 20 #[.agg #[.int .i64 (a : Int), .int .i64 (x.toNat : Int), .int .i64 (t : Int), .string S]] w
      (RB 5 w (12 + S.size) ((putL a 4 ++ [x] ++ putL t 7) ++ S.data.toList) fun y => y) := by
  obtain ⟨w0, hw0⟩ : ∃ w0, w0 = (w.alloc (.cells #[.int .i64 (a : Int), .int .i64 (x.toNat : Int), .int .i64 (t : Int), .string S] 47)).alloc (.cells #[] 5) := ⟨_, rfl⟩
  have hbw : Below w.heap.size w w0 := by rw [hw0]; exact ((Below.refl _ _).alloc (Nat.le_refl _) _).alloc (by simp) _
  have hs0 : w0.heap.size = w.heap.size + 2 := by rw [hw0]; simp
  have HC0 := Lib.hid (show Cel w0 w.heap.size 47 #[.int .i64 (a : Int), .int .i64 (x.toNat : Int), .int .i64 (t : Int), .string S] by rw [hw0]; exact (Cel.born w _ _).below ((Below.refl _ _).alloc (Nat.le_refl _) _) (by simp))
  have ho0 : Own 5 (w.heap.size + 1) w0 (some ⟨w.heap.size + 1, 0, none⟩) 0 0 [] := by
    rw [hw0]
    have := Own.lit0 5 (w.alloc (.cells #[.int .i64 (a : Int), .int .i64 (x.toNat : Int), .int .i64 (t : Int), .string S] 47))
    simpa using this
  have HB0 := Lib.hid hbw
  have HO0 := Lib.hid ho0
  have HS0 := Lib.hid hs0
  have hx := x.toNat_lt
  clear hbw hs0 ho0
  obtain ⟨q0, q1, q2, q3⟩ := cel4 HC0.out
  rw [hw0] at q0 q1 q2 q3
  have hp4 := Cw.refPut_any 4 a w0 (by omega) (by omega)
  have HP := Lib.hid hp4
  clear hp4
  go_enter Try.func20, Try.ntmps20
  go_wp2_with fail
  rw [← hw0]
  clear hw0 q0 q1 q2 q3
  refine HP.out.mono ?_
  rintro e w1 ⟨A1, c1, rfl, hown1, hb1⟩
  have ho0' := HO0.out.below hb1
  have hB1 : Below (w.heap.size + 1) w0 w1 := hb1.mono (by have := HS0.out; omega)
  have hz1 : w.heap.size + 1 ≤ w1.heap.size := by have := HS0.out; have := hb1.size; omega
  have HB1 := Lib.hid hB1
  clear hb1 hB1 HP HO0
  go_wp2_with (first
    | (at_builtin; refine wpList_app byP rfl (.tmp 5) (.tmp 8) rfl rfl ho0' rfl hown1.bs (by omega) hz1 ?_; intro A2 c2 w2 hown2 hb2 _ _; simp only [Nat.zero_add, List.nil_append] at hown2; have hc2 := HC0.out.below (HB1.out.trans hb2) (by omega); obtain ⟨q0, q1, q2, q3⟩ := cel4 hc2; have hz2 : w.heap.size + 1 ≤ w2.heap.size := Nat.le_trans hz1 hb2.size; have hlit2 := (Own.lit1 5 w2 x).bs; have ha2 : Below w2.heap.size w2 (w2.alloc (.cells #[.int .u8 (x.toNat : Int)] 5)) := (Below.refl _ _).alloc (Nat.le_refl _) _; have ho2' := hown2.below ha2)
    | (at_builtin; refine wpList_app byP rfl (.tmp 10) (.tmp 14) rfl rfl ho2' rfl hlit2 (by omega) (Nat.le_trans hz2 ha2.size) ?_; intro A3 c3 w3 hown3 hb3 _ _; simp only [Nat.reduceAdd] at hown3; have hb13 := HB1.out.trans (hb2.trans ((ha2.mono hz2).trans hb3)); have hc3 := HC0.out.below hb13 (by omega); clear q0 q1 q2 q3; obtain ⟨q0, q1, q2, q3⟩ := cel4 hc3))
  have HB3 := Lib.hid hb13
  have hz3 : w.heap.size + 1 ≤ w3.heap.size := Nat.le_trans (by have := HS0.out; omega) hb13.size
  have HO3 := Lib.hid hown3
  have HC3 := Lib.hid hc3
  clear hown1 ho0' hown2 hb2 hc2 hlit2 ha2 ho2' hb3 hb13 hown3 hc3 hz1 hz2 HB1
  refine (Cw.refPut_any 7 t w3 (by omega) (by omega)).mono ?_
  rintro e w4 ⟨A4, c4, rfl, hown4, hb4⟩
  have ho3' := HO3.out.below hb4
  have hz4 : w.heap.size + 1 ≤ w4.heap.size := Nat.le_trans hz3 hb4.size
  have HB4 := Lib.hid (HB3.out.trans (hb4.mono hz3))
  clear hb4 HB3 q0 q1 q2 q3 HO3
  have hhd : Hid ((putL a 4 ++ [x]) ++ putL t 7 = putL a 4 ++ [x] ++ putL t 7) := rfl
  obtain ⟨hd, ehd⟩ : ∃ hd, hd = putL a 4 ++ [x] ++ putL t 7 := ⟨_, rfl⟩
  have HD := Lib.hid ehd
  clear ehd
  go_wp2_with (first
    | (at_builtin; refine wpList_app byP rfl (.tmp 16) (.tmp 19) rfl rfl ho3' rfl hown4.bs (by omega) hz4 ?_; intro A5 c5 w5 hown5 hb5 _ _; simp only [Nat.reduceAdd] at hown5; have hb05 := HB4.out.trans hb5))
  rw [← HD.out] at hown5
  have HO5 := Lib.hid hown5
  have HB5 := Lib.hid hb05
  clear hown4 ho3' hb5 hb05 hown5 hhd HB4
  go_loopw [3, 4] (fun v i wr => StW (w.heap.size + 1) w.heap.size w0 hd #[.int .i64 (a : Int), .int .i64 (x.toNat : Int), .int .i64 (t : Int), .string S] S v i wr) (fun _ i _ => S.size - (intOf i).toNat)
  case atStart => exact ⟨0, A5, c5, by omega, rfl, rfl, by simpa using HO5.out, HC0.out.below HB5.out (by omega), HB5.out⟩
  case round =>
    clear HO5 HB5
    obtain ⟨j, A, c, hj, rfl, rfl, hown, hc, hb⟩ := hrel
    obtain ⟨q0, q1, q2, q3⟩ := cel4 hc
    have hzr : w.heap.size + 1 ≤ wr.heap.size := by have := HS0.out; have := hb.size; omega
    by_cases hlt : j < S.size
    · have HN := Lib.hid (take_snocS S j hlt)
      generalize hy : S[j]'hlt = y at HN
      have hlit := (Own.lit1 5 wr y).bs
      have hal : Below wr.heap.size wr (wr.alloc (.cells #[.int .u8 (y.toNat : Int)] 5)) := (Below.refl _ _).alloc (Nat.le_refl _) _
      have ho' := hown.below hal
      clear hown
      go_wp2_with (first
        | (at_builtin; refine wpList_app byP rfl (.tmp 28) (.tmp 33) rfl rfl ho' rfl hlit (by omega) (Nat.le_trans hzr hal.size) ?_; intro A6 c6 w6 hown6 hb6 _ _; have hbr6 := hb.trans ((hal.mono hzr).trans hb6)))
      go_roundw
      case rel =>
        have hq : Own 5 (w.heap.size + 1) w6 A6 (12 + (j + 1)) c6 (hd ++ S.data.toList.take (j + 1)) := by
          rw [HN.out, ← List.append_assoc, show 12 + (j + 1) = 12 + j + 1 by omega]
          exact hown6
        exact ⟨j + 1, A6, c6, by omega, by go_num, by rw [show 12 + (j + 1) = 12 + j + 1 by omega], hq, HC0.out.below hbr6 (by omega), hbr6⟩
      case measure => simp [intOf]; omega
    · obtain rfl : j = S.size := by omega
      rw [List.take_of_length_le (by rw [size_l]; exact Nat.le_refl _)] at hown
      go_wp2
      go_ret
      exact ⟨A, c, rfl, by rw [← HD.out]; exact hown.mono (by omega), HB0.out.trans (hb.mono (by omega))⟩
theorem refWrite_any (l : L) (w : World) (hr : RightR l) : Calls Try.prog 20 #[lv l] w (RB 5 w (encR l).length (encR l) fun y => y) := by
  obtain ⟨a, s, t, e, h1, h2, h3, h4, h5⟩ := right_nat hr
  have he := enc_nat a s t l.key
  have hs : putL s 1 = [UInt8.ofNat s] := by
    show [] ++ [byteV s] = _
    rw [List.nil_append]
    congr 1
    exact UInt8.toNat_inj.1 (by rw [byteV_toNat, UInt8.toNat_ofNat'])
  rw [← e, hs] at he
  have hx : (UInt8.ofNat s).toNat = s := by rw [UInt8.toNat_ofNat']; omega
  have hcall := refWrite_nat a t (UInt8.ofNat s) (ba l.key) w h1 h4 h5
  have hval : lv l = .agg #[.int .i64 (a : Int), .int .i64 ((UInt8.ofNat s).toNat : Int), .int .i64 (t : Int), .string (ba l.key)] := by
    rw [hx]
    exact congrArg lv e
  have hlen : 12 + (ba l.key).size = (encR l).length := (enc_len l).symm
  have hby : (putL a 4 ++ [UInt8.ofNat s] ++ putL t 7) ++ (ba l.key).data.toList = encR l := he.symm
  rw [← hval, hlen, hby] at hcall
  exact hcall
end Go.Proofs.Ytoifdjpflannlaa.Ew
