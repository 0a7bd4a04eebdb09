/- What the document's Read of a journal comes to. For all disks whose names fit. -/
import Derived.Test.YtlefpodonkdbeaaGreatJwRead
import Derived.Test.YtlefpodonkdbeaaGreatCoA
import Derived.Test.YtlefpodonkdbeaaGreatEwB
import Derived.Test.YtlefpodonkdbeaaGreatDwF
set_option maxRecDepth 8000
namespace Go.Proofs.YtlefpodonkdbeaaGreat.Jw
open Go.RowKit Co By Ky Rc Dk Jn Ew
open Dw (ba ba_size ba_data ba_list Dv RdD Sm GeR refGet_any)

set_option maxHeartbeats 2000000 in
theorem refReadJ_any (x : Dv) (w : World) (h : RdD w.heap.size w x) (hsm : Sm x.d) : Calls Tryz.prog 28 #[x.v] w (RdJ w (readD x.d)) := by
  obtain ⟨w1, hw1⟩ : ∃ w1, w1 = w.alloc (.cells x.cs 37) := ⟨_, rfl⟩
  have hb1 : Below w.heap.size w w1 := by rw [hw1]; exact (Below.refl _ _).alloc (Nat.le_refl _) _
  have HG := Lib.hid (refGet_any x nJ w1 ((h.below hb1).mono hb1.size) hsm)
  have HL := Lib.hid (get_len x.d nJ)
  have HR : Hid (readD x.d = scanJ (getK x.d nJ).1) := rfl
  have HB1 := Lib.hid hb1
  clear h hb1 hsm
  generalize getK x.d nJ = p at HG HL HR
  obtain ⟨b, er⟩ := p
  go_enter Tryz.func28, Tryz.ntmps28
  go_wp2_with fail
  rw [← hw1]
  clear hw1
  refine HG.out.mono ?_
  rintro e w2 ⟨A, n, c, rfl, hbs, hb2⟩
  have HB2 := Lib.hid (HB1.out.trans (hb2.mono HB1.out.size))
  have HX := Lib.hid (show Bs w2 A n c b from hbs)
  have hn : n ≤ 20000 := by have e1 : b.length = n := hbs.len; have e2 : b.length ≤ 20000 := HL.out; omega
  have HN := Lib.hid (show b.length = n from hbs.len)
  clear hbs hb2
  go_wp2
  go_loopw [7, 8] (fun v i wr => ∃ (k : Nat) (A1 : Option Addr) (c1 : Nat) (ls : List L), k ≤ n ∧ i = .int .i64 k ∧ v = .slice A1 ls.length c1 ∧ OwnLs w2.heap.size wr A1 ls.length c1 ls ∧ Hid (scanJ b = putJ ls k (scanJ (b.drop k)) ∧ ls.length ≤ k) ∧ Below w2.heap.size w2 wr) (fun _ i _ => n - (intOf i).toNat)
  case atStart => exact ⟨0, none, 0, [], by omega, rfl, rfl, OwnG.nil _ _ _, Lib.hid ⟨by rw [List.drop_zero, put_nil _ (scan_two b)], Nat.le_refl _⟩, Below.refl _ _⟩
  case round =>
    obtain ⟨k, A1, c1, ls, hk, rfl, rfl, hown, HS, hbw⟩ := hrel
    by_cases hlt : k < n
    · obtain ⟨A', hA', hrun⟩ := byP.cut_l (HX.out.below hbw) k (k : Int) rfl hk
      have HX' := Lib.hid hA'
      have HM := Lib.hid (scan_first (b := b.drop k) (fun q => by have := congrArg List.length q; rw [List.length_drop] at this; have := HN.out; simp at *; omega))
      have HBW := Lib.hid hbw
      have HOW := Lib.hid hown
      generalize hd : b.drop k = d at HX' HM hA'
      clear hown
      by_cases h0 : openE d = 0
      rotate_left
      · have HO := Lib.hid (Cw.refOpen_err A' (n - k) (c - k) d wr hA' h0)
        by_cases h4 : openE d = 4
        · have H : Hid (readD x.d = (ls, k, 4)) := by
            show _ = _
            rw [HR.out, HS.out.1, hd]
            rw [first_more h4] at HM
            rcases HM.out with ⟨_, hm⟩ | ⟨h, _⟩ | ⟨h, _⟩
            · rw [hm, put_more]
            · cases h
            · cases h
          rw [h4] at HO
          clear h0 h4 hA'
          go_wp2_with fail
          refine HO.out.mono ?_
          rintro e w3 ⟨rfl, hb3⟩
          go_wp2
          go_ret3
          exact ⟨A1, ls.length, c1, by rw [H.out]; rfl, by rw [H.out]; exact (HOW.out.below hb3).rd, HB2.out.trans ((HBW.out.trans (hb3.mono HBW.out.size)).mono HB2.out.size)⟩
        · have H : Hid (readD x.d = badJ) := by
            show _ = _
            rw [HR.out, HS.out.1, hd]
            rw [first_bad h4 h0] at HM
            rcases HM.out with ⟨h, _⟩ | ⟨_, hm⟩ | ⟨h, _⟩
            · cases h
            · rw [hm, put_bad]
            · cases h
          have b4 : (((openE d : Nat) : Int) == 4) = false := by simp; omega
          have b0 : (((openE d : Nat) : Int) != 0) = true := by simp; omega
          generalize openE d = q at HO b4 b0
          clear h0 h4 hA'
          go_wp2_with fail
          refine HO.out.mono ?_
          rintro e w3 ⟨rfl, hb3⟩
          go_wp2
          go_ret3
          exact ⟨none, 0, 0, by rw [H.out]; rfl, by rw [H.out]; exact RdG.nil _ _, HB2.out.trans ((HBW.out.trans (hb3.mono HBW.out.size)).mono HB2.out.size)⟩
      · obtain ⟨m, hm⟩ : ∃ m, m = valL (d.take 2) := ⟨_, rfl⟩
        have hz := openE_hold h0
        rw [← hm] at hz
        have HO := Lib.hid (Cw.refOpen_yes A' (n - k) (c - k) m d wr hA' hm.symm h0)
        have HF1 := Lib.hid (fun k => first_none (b := d) h0 k)
        have HF2 := Lib.hid (fun k => first_ok (b := d) h0 k)
        rw [hz] at HF2
        generalize hx : heldL d = y at HO HF1 HF2
        have HR3 := Lib.hid (fun A1 n1 c1 W hW => refRead_any A1 n1 c1 y W hW)
        generalize readR y = p at HR3 HF1 HF2
        obtain ⟨l, e3⟩ := p
        have HD := Lib.hid hd
        clear h0 hm hz hx hA' hd HX'
        go_wp2_with fail
        refine HO.out.mono ?_
        rintro e w2b ⟨A2, c2, rfl, hbs2, hb2b⟩
        have HR4 := Lib.hid (HR3.out A2 m c2 w2b hbs2)
        have HB2b := Lib.hid hb2b
        clear HO HR3 hbs2 hb2b
        go_wp2_with fail
        refine HR4.out.mono ?_
        rintro e w3 ⟨rfl, hb3⟩
        have hbl : Below wr.heap.size wr (w3.alloc (.cells (lcs l) 56)) := (HB2b.out.trans (hb3.mono HB2b.out.size)).trans ((Below.refl w3.heap.size w3).alloc (Nat.le_refl _) _ |>.mono (Nat.le_trans HB2b.out.size hb3.size))
        obtain ⟨w4, hw4⟩ : ∃ w4, w4 = w3.alloc (.cells (lcs l) 56) := ⟨_, rfl⟩
        have hc4 : Cel w4 w3.heap.size 56 (lcs l) := by rw [hw4]; exact Cel.born _ _ _
        rw [← hw4] at hbl
        have HBL := Lib.hid hbl
        clear hb3 hbl HR4
        by_cases he : e3 = 0
        rotate_left
        · have H : Hid (readD x.d = badJ) := by
            show _ = _
            have hm := HM.out
            rw [HF1.out he] at hm
            rw [HR.out, HS.out.1, HD.out]
            rcases hm with ⟨h, _⟩ | ⟨_, hm⟩ | ⟨h, _⟩
            · cases h
            · rw [hm, put_bad]
            · cases h
          have b0 : (e3 != 0) = true := by simpa using he
          clear hc4 he HF1 HF2 HM
          go_wp2
          go_ret3
          rw [← hw4]
          exact ⟨none, 0, 0, by rw [H.out]; rfl, by rw [H.out]; exact RdG.nil _ _, HB2.out.trans ((HBW.out.trans (HBL.out.mono HBW.out.size)).mono HB2.out.size)⟩
        · have hm := HM.out
          rw [HF2.out he] at hm
          obtain ⟨hm, h6, hml⟩ : scanJ d = putJ [l] (6 + m) (scanJ (d.drop (6 + m))) ∧ 6 ≤ 6 + m ∧ 6 + m ≤ d.length := by
            rcases hm with ⟨h, _⟩ | ⟨h, _⟩ | ⟨_, hm⟩
            · cases h
            · cases h
            · exact hm
          rw [← HD.out] at hm hml
          have HT := Lib.hid (step_math HS.out.1 HS.out.2 hm h6)
          have hml2 : k + (6 + m) ≤ n := by rw [List.length_drop] at hml; have := HN.out; omega
          have hl6 : ls.length ≤ n := Nat.le_trans HS.out.2 hk
          subst he
          obtain ⟨p0, p1, p2, p3⟩ := cel4 hc4
          have hba := (Below.refl w4.heap.size w4).alloc (Nat.le_refl _) (.cells (lcs l) 56)
          have hlit := litL w4 l
          have hown4 := HOW.out.below HBL.out
          have hsz := HBW.out.size
          have hsz4 := HBL.out.size
          have hs4 : w4.heap.size = w3.heap.size + 1 := by rw [hw4]; simp
          rw [hs4] at hlit
          rw [hw4] at p0 p1 p2 p3
          clear hm hc4 hml h6 HF1 HF2 HM
          go_wp2_with (at_builtin; rw [← hw4]; refine wpList_appG lesP (by decide) (by decide) (by kernel_rfl) rfl (.tmp 44) (.tmp 46) rfl rfl (hown4.below hba) rfl hlit (by omega) (by simp; omega) ?_; intro A5 c5 w5 happ)
          go_roundw
          case rel =>
            have hb5 := (HBW.out.trans (HBL.out.mono HBW.out.size)).trans ((hba.mono (Nat.le_trans hsz hsz4)).trans happ.2.1)
            refine ⟨k + (6 + m), A5, c5, ls ++ [l], hml2, by go_num, by rw [List.length_append]; rfl, ?_, HT, hb5⟩
            rw [List.length_append]
            exact happ.1
          case measure => simp [intOf]; omega
    · obtain rfl : k = n := by omega
      have H : Hid (readD x.d = (ls, k, 0)) := by
        show _ = _
        rw [HR.out, HS.out.1, List.drop_of_length_le (by rw [HN.out]; exact Nat.le_refl _), scan_nil, put_end]
      go_wp2
      go_ret3
      exact ⟨A1, ls.length, c1, by rw [H.out]; rfl, by rw [H.out]; exact hown.rd, HB2.out.trans (hbw.mono HB2.out.size)⟩
end Go.Proofs.YtlefpodonkdbeaaGreat.Jw
