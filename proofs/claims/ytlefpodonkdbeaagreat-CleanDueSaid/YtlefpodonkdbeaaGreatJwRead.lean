/- What journal's Read comes to: what is read of the bytes of the file j. For all disks whose names fit. -/
import Derived.Test.YtlefpodonkdbeaaGreatJwKit
set_option maxRecDepth 8000
namespace Go.Proofs.YtlefpodonkdbeaaGreat.Jw
open Go.RowKit Co By Ky Rc Dk Jn Ew
open Dw (ba ba_size ba_data ba_list Dv RdD Sm GeR get_any)

theorem get_len (d : D) (n : N) : (getK d n).1.length ≤ 20000 := by
  rw [show getK d n = getK (goodD d) n by unfold getK; rw [good_of (good_right d)], get_look (good_right d)]
  cases h : findE (goodD d).now n with
  | none => rw [look_none h]; exact Nat.zero_le _
  | some f => rw [look_some h]; exact (file_ok (good_right d) h).1
def RdJ (w : World) (p : RJ) (e : Ending) (w' : World) : Prop := ∃ A n c, e = .returned (.tuple #[.slice A n c, .int .i64 (p.2.1 : Nat), .int .i64 p.2.2]) ∧ RdLs w'.heap.size w' A n c p.1 ∧ Below w.heap.size w w'
theorem step_math {b : List UInt8} {ls : List L} {k : Nat} (hs : scanJ b = putJ ls k (scanJ (b.drop k))) (hl : ls.length ≤ k) {l : L} {m : Nat} (h : scanJ (b.drop k) = putJ [l] m (scanJ ((b.drop k).drop m))) (hm : 6 ≤ m) :
    scanJ b = putJ (ls ++ [l]) (k + m) (scanJ (b.drop (k + m))) ∧ (ls ++ [l]).length ≤ k + m := by
  refine ⟨?_, by rw [List.length_append]; show _ + 1 ≤ _; omega⟩
  rw [hs, h, put_put, List.drop_drop]
theorem put_more (ls : List L) (k : Nat) : putJ ls k ([], 0, 4) = (ls, k, 4) := by
  unfold putJ
  rw [if_neg (by decide), List.append_nil, Nat.add_zero]
theorem put_bad (ls : List L) (k : Nat) : putJ ls k badJ = badJ := if_pos rfl
theorem put_end (ls : List L) (k : Nat) : putJ ls k ([], 0, 0) = (ls, k, 0) := by
  unfold putJ
  rw [if_neg (by decide), List.append_nil, Nat.add_zero]

set_option maxHeartbeats 2000000 in
theorem readJ_any (x : Dv) (w : World) (h : RdD w.heap.size w x) (hsm : Sm x.d) : Calls Tryz.prog 22 #[x.v] w (RdJ w (readD x.d)) := by
  obtain ⟨w1, hw1⟩ : ∃ w1, w1 = w.alloc (.cells x.cs 30) := ⟨_, rfl⟩
  have hb1 : Below w.heap.size w w1 := by rw [hw1]; exact (Below.refl _ _).alloc (Nat.le_refl _) _
  have HG := Lib.hid (get_any x nJ w1 ((h.below hb1).mono hb1.size) hsm)
  have HL := Lib.hid (get_len x.d nJ)
  have HR : Hid (readD x.d = scanJ (getK x.d nJ).1) := rfl
  have HB1 := Lib.hid hb1
  clear h hb1 hsm
  generalize getK x.d nJ = p at HG HL HR
  obtain ⟨b, er⟩ := p
  go_enter Tryz.func22, Tryz.ntmps22
  go_wp2_with fail
  rw [← hw1]
  clear hw1
  refine HG.out.mono ?_
  rintro e w2 ⟨A, n, c, rfl, hbs, hb2⟩
  have HB2 := Lib.hid (HB1.out.trans (hb2.mono HB1.out.size))
  have HX := Lib.hid (show Bs w2 A n c b from hbs)
  have hn : n ≤ 20000 := by have e1 : b.length = n := hbs.len; have e2 : b.length ≤ 20000 := HL.out; omega
  have HN := Lib.hid (show b.length = n from hbs.len)
  clear hbs hb2
  go_wp2
  go_loopw [7, 8] (fun v i wr => ∃ (k : Nat) (A1 : Option Addr) (c1 : Nat) (ls : List L), k ≤ n ∧ i = .int .i64 k ∧ v = .slice A1 ls.length c1 ∧ OwnLs w2.heap.size wr A1 ls.length c1 ls ∧ Hid (scanJ b = putJ ls k (scanJ (b.drop k)) ∧ ls.length ≤ k) ∧ Below w2.heap.size w2 wr) (fun _ i _ => n - (intOf i).toNat)
  case atStart => exact ⟨0, none, 0, [], by omega, rfl, rfl, OwnG.nil _ _ _, Lib.hid ⟨by rw [List.drop_zero, put_nil _ (scan_two b)], Nat.le_refl _⟩, Below.refl _ _⟩
  case round =>
    obtain ⟨k, A1, c1, ls, hk, rfl, rfl, hown, HS, hbw⟩ := hrel
    by_cases hlt : k < n
    · obtain ⟨A', hA', hrun⟩ := byP.cut_l (HX.out.below hbw) k (k : Int) rfl hk
      have HF := Lib.hid (first_any A' (n - k) (c - k) (b.drop k) wr hA')
      have HM := Lib.hid (scan_first (b := b.drop k) (fun q => by have := congrArg List.length q; rw [List.length_drop] at this; have := HN.out; simp at *; omega))
      clear hA'
      generalize firstJ (b.drop k) = p at HF HM
      obtain ⟨l, m, e3⟩ := p
      go_wp2_with fail
      refine HF.out.mono ?_
      rintro e w3 ⟨rfl, hb3⟩
      have hbl : Below wr.heap.size wr (w3.alloc (.cells (lcs l) 56)) := hb3.trans ((Below.refl w3.heap.size w3).alloc (Nat.le_refl _) _ |>.mono hb3.size)
      obtain ⟨w4, hw4⟩ : ∃ w4, w4 = w3.alloc (.cells (lcs l) 56) := ⟨_, rfl⟩
      have hc4 : Cel w4 w3.heap.size 56 (lcs l) := by rw [hw4]; exact Cel.born _ _ _
      rw [← hw4] at hbl
      have HBL := Lib.hid hbl
      have HBW := Lib.hid hbw
      have HOW := Lib.hid hown
      clear hb3 hbl hown
      rcases HM.out with ⟨h4, hm⟩ | ⟨h2, hm⟩ | ⟨h0, hm, h6, hml⟩
      · have H : Hid (readD x.d = (ls, k, 4)) := by show _ = _; rw [HR.out, HS.out.1, hm, put_more]
        obtain rfl : e3 = 4 := h4
        clear hm hc4
        go_wp2
        go_ret3
        rw [← hw4]
        exact ⟨A1, ls.length, c1, by rw [H.out]; rfl, by rw [H.out]; exact (HOW.out.below HBL.out).rd, HB2.out.trans ((HBW.out.trans (HBL.out.mono HBW.out.size)).mono HB2.out.size)⟩
      · have H : Hid (readD x.d = badJ) := by show _ = _; rw [HR.out, HS.out.1, hm, put_bad]
        obtain rfl : e3 = 2 := h2
        clear hm hc4
        go_wp2
        go_ret3
        rw [← hw4]
        exact ⟨none, 0, 0, by rw [H.out]; rfl, by rw [H.out]; exact RdG.nil _ _, HB2.out.trans ((HBW.out.trans (HBL.out.mono HBW.out.size)).mono HB2.out.size)⟩
      · have HT := Lib.hid (step_math HS.out.1 HS.out.2 hm h6)
        have hml2 : k + m ≤ n := by have := hml; rw [List.length_drop] at this; have := HN.out; omega
        have hl6 : ls.length ≤ n := Nat.le_trans HS.out.2 hk
        obtain rfl : e3 = 0 := h0
        obtain ⟨p0, p1, p2, p3⟩ := cel4 hc4
        have hba := (Below.refl w4.heap.size w4).alloc (Nat.le_refl _) (.cells (lcs l) 56)
        have hlit := litL w4 l
        have hown4 := HOW.out.below HBL.out
        have hsz := HBW.out.size
        have hsz4 := HBL.out.size
        have h66 : 6 ≤ m := h6
        have hs4 : w4.heap.size = w3.heap.size + 1 := by rw [hw4]; simp
        rw [hs4] at hlit
        rw [hw4] at p0 p1 p2 p3
        clear hm hc4 hml h6
        go_wp2_with (at_builtin; rw [← hw4]; refine wpList_appG lesP (by decide) (by decide) (by kernel_rfl) rfl (.tmp 37) (.tmp 39) rfl rfl (hown4.below hba) rfl hlit (by omega) (by simp; omega) ?_; intro A5 c5 w5 happ)
        go_roundw
        case rel =>
          have hb5 := (HBW.out.trans (HBL.out.mono HBW.out.size)).trans ((hba.mono (Nat.le_trans hsz hsz4)).trans happ.2.1)
          refine ⟨k + m, A5, c5, ls ++ [l], hml2, by go_num, by rw [List.length_append]; rfl, ?_, HT, hb5⟩
          rw [List.length_append]
          exact happ.1
        case measure => simp [intOf]; omega
    · obtain rfl : k = n := by omega
      have H : Hid (readD x.d = (ls, k, 0)) := by
        show _ = _
        rw [HR.out, HS.out.1, List.drop_of_length_le (by rw [HN.out]; exact Nat.le_refl _), scan_nil, put_end]
      go_wp2
      go_ret3
      exact ⟨A1, ls.length, c1, by rw [H.out]; rfl, by rw [H.out]; exact hown.rd, HB2.out.trans (hbw.mono HB2.out.size)⟩
end Go.Proofs.YtlefpodonkdbeaaGreat.Jw
