/- slices.symMergeCmpFunc on a row of leases, the second way through its search; and the whole of it. For all rows. -/
import Derived.Test.YtlefpodonkdbeaaGreatLwMg1
set_option maxRecDepth 8000
namespace Go.Proofs.YtlefpodonkdbeaaGreat.Lw
open Go.RowKit Go.Lib Co By Ky Rc Jn Ew Jw
open Dw (ba ba_size ba_data ba_list)
open Go.Sort (grow)

set_option maxHeartbeats 8000000 in
theorem merge_big2 {w0 : World} {g o n : Nat} (R : Rw w0 g o n) (c a m b N lo hi hf : Nat) (x s t y : List L) (W : World) (hl : (x ++ (s ++ (t ++ y))).length = n) (ha : x.length = a) (hm : a + s.length = m) (hb : m + t.length = b) (h2 : 2 ≤ s.length) (h3 : 2 ≤ t.length)
    (hs : Sb.Ord adr s) (ht : Sb.Ord adr t) (hS : Sw w0 g o (x ++ (s ++ (t ++ y))) W) (hN : s.length + t.length ≤ N + 1) (hhf : hf = (s.length + t.length) / 2) (hc : s.length ≤ hf ∧ lo = 0 ∧ hi = s.length)
    (IH : ∀ (x s t y : List L) (a m b : Nat) (W : World), s.length + t.length ≤ N → (x ++ (s ++ (t ++ y))).length = n → x.length = a → a + s.length = m → m + t.length = b → 0 < s.length → 0 < t.length → Sb.Ord adr s → Sb.Ord adr t → Sw w0 g o (x ++ (s ++ (t ++ y))) W → MgR w0 g o n c x s t y a m b W) :
    MgR w0 g o n c x s t y a m b W := by
  unfold MgR
  have hn := R.lt
  have hlen : a + (s.length + (t.length + y.length)) = n := by rw [← hl]; simp [ha]
  obtain ⟨M, hM⟩ : ∃ M, M = a + hf := ⟨_, rfl⟩
  obtain ⟨S0, hS0⟩ : ∃ S0, S0 = a + lo := ⟨_, rfl⟩
  have eM : ((a : Int) + (b : Int)) / 2 = (M : Int) := by omega
  have hbn : b ≤ n := by omega
  have hMn : M < n := by omega
  have hmn : m < n := by omega
  have han : a < n := by omega
  have hcm : ¬ (m : Int) > (M : Int) := by omega
  have HC : Hid ((hf < s.length ∧ lo + t.length = hf ∧ hi = hf) ∨ (s.length ≤ hf ∧ lo = 0 ∧ hi = s.length)) := .inr hc
  have HS := Lib.hid hS
  have HR := Lib.hid R
  have HA := Lib.hid ha
  have HN := Lib.hid hl
  have HO1 := Lib.hid hs
  have HO2 := Lib.hid ht
  have HIH := Lib.hid IH
  have HBE : Hid (a + s.length = m ∧ m + t.length = b ∧ 2 ≤ s.length ∧ 2 ≤ t.length ∧ M = a + hf ∧ S0 = a + lo ∧ hf = (s.length + t.length) / 2 ∧ s.length + t.length ≤ N + 1 ∧ hf ≤ lo + t.length ∧ lo ≤ hi ∧ hi ≤ s.length ∧ hi ≤ hf) := ⟨hm, hb, h2, h3, hM, hS0, hhf, hN, by omega, by omega, by omega, by omega⟩
  have hma : ((m : Int) - (a : Int) == 1) = false := by simp; omega
  have hbm : ((b : Int) - (m : Int) == 1) = false := by simp; omega
  clear hS hl R ha hb hlen hs ht hm h2 h3 hN hhf hc IH hM hS0
  go_enter Tryz.func99, Tryz.ntmps99
  go_wp2
  go_loopw [20, 21] (fun v20 v21 wr => StS w0 g o a lo hi hf x s t y v20 v21 wr) (fun v20 v21 _ => (intOf v21).toNat - (intOf v20).toNat)
  case atStart =>
    have q := HBE.out
    have q2 := HC.out
    exact ⟨lo, hi, ret_i64 (by omega), ret_i64 (by omega), by omega, by omega, by omega, .inl rfl, .inl rfl, HS.out⟩
  case round =>
    clear eM hma hbm hcm
    obtain ⟨i, r, rfl, rfl, hli, hir, hrh, HD1, HD2, HW⟩ := hrel
    by_cases hlt : i < r
    · obtain ⟨I, hI⟩ : ∃ I, I = a + i := ⟨_, rfl⟩
      obtain ⟨J, hJ⟩ : ∃ J, J = a + r := ⟨_, rfl⟩
      obtain ⟨H, hH⟩ : ∃ H, H = (I + J) / 2 := ⟨_, rfl⟩
      obtain ⟨h, hh⟩ : ∃ h, h = H - a := ⟨_, rfl⟩
      have qB := HBE.out
      have hhj : i ≤ h ∧ h < r := by omega
      have hHm : a + h = H := by omega
      have hht : h < s.length := by omega
      have hkt : hf - h - 1 < t.length := by omega
      obtain ⟨p, q, hp, hq, hgS, hgT⟩ := get_two (y := y) HA.out qB.1 hht hkt
      obtain ⟨Z, hZ⟩ : ∃ Z, Z = m + (hf - h - 1) := ⟨_, rfl⟩
      rw [hHm] at hgS
      rw [← hZ] at hgT
      have two := HW.out.two HR.out HN.out hgT hgS
      have HL : Hid (¬ q.addr < p.addr → D1 s t lo hf (h + 1)) := fun hv => .inr fun p' q' e1 e2 => by
        rw [Nat.add_sub_cancel, hp] at e1
        rw [show hf - (h + 1) = hf - h - 1 by omega, hq] at e2
        have e1 := Option.some.inj e1
        have e2 := Option.some.inj e2
        rw [← e1, ← e2]
        omega
      have HG : Hid (q.addr < p.addr → D2 s t hi hf h) := fun hv => .inr fun p' q' e1 e2 => by
        rw [hp] at e1
        rw [hq] at e2
        have e1 := Option.some.inj e1
        have e2 := Option.some.inj e2
        rw [← e1, ← e2]
        exact hv
      have HI : Hid (I = a + i ∧ J = a + r ∧ H = a + h ∧ i ≤ h ∧ h < r ∧ lo ≤ i ∧ r ≤ hi) := ⟨hI, hJ, by omega, hhj.1, hhj.2, hli, hrh⟩
      have hIJ : (I : Int) < (J : Int) := by omega
      have hJn : J ≤ n := by omega
      have eH : ((I : Int) + (J : Int)) / 2 = (H : Int) := by omega
      have eZ : (M : Int) + (m : Int) - 1 - (H : Int) = (Z : Int) := by omega
      have hwZ : IntKind.i64.wrap (Z : Int) = (Z : Int) := by rw [IntKind.wrap_i64]; omega
      have hHn : (H : Int) < (n : Int) := by omega
      have hZn : (Z : Int) < (n : Int) := by omega
      have mixed : Tryz.prog.follows Departure.mixedOrders = true := by kernel_rfl
      have a0 := fun k os => (two.c k os).1.1
      have a1 := fun k os => (two.c k os).1.2.1
      have a2 := fun k os => (two.c k os).1.2.2.1
      have a3 := fun k os => (two.c k os).1.2.2.2
      have b0 := fun k os => (two.c k os).2.1
      have b1 := fun k os => (two.c k os).2.2.1
      have b2 := fun k os => (two.c k os).2.2.2.1
      have b3 := fun k os => (two.c k os).2.2.2.2
      have hcg := fun k os => less_any q p (grow (wr.drewN k) os)
      rw [← hI, ← hJ]
      clear hI hJ hH hh hhj hHm hht hgS hgT hp hq two hli hir hrh hlt qB hZ hkt
      by_cases hlv : cmpI q.addr p.addr < 0
      · have HLV := Lib.hid (HG.out (cmp_less.1 hlv))
        go_wp2_with fail
        go_quiet_grown (first | (refine Calls.grown_of (hcg _ _)))
        go_wp2
        go_roundw
        case rel =>
          obtain ⟨e1, e2, e3, e4, e5, e6, e7⟩ := HI.out
          exact ⟨i, h, ret_i64 (by omega), ret_i64 (by omega), by omega, by omega, by omega, HD1.out, HLV.out, HW.out.grown nq osq⟩
        case measure =>
          obtain ⟨e1, e2, e3, e4, e5, e6, e7⟩ := HI.out
          simp only [intOf]
          omega
      · have HLV := Lib.hid (HL.out (fun hv => hlv (cmp_less.2 hv)))
        have hlv0 : decide (cmpI q.addr p.addr < 0) = false := decide_eq_false hlv
        clear hlv
        go_wp2_with fail
        go_quiet_grown (first | (refine Calls.grown_of (hcg _ _)))
        go_wp2
        go_roundw
        case rel =>
          obtain ⟨e1, e2, e3, e4, e5, e6, e7⟩ := HI.out
          exact ⟨h + 1, r, ret_i64 (by omega), ret_i64 (by omega), by omega, by omega, by omega, HLV.out, HD2.out, HW.out.grown nq osq⟩
        case measure =>
          obtain ⟨e1, e2, e3, e4, e5, e6, e7⟩ := HI.out
          simp only [intOf]
          omega
    · obtain rfl : i = r := by omega
      obtain ⟨S, hSa⟩ : ∃ S, S = a + i := ⟨_, rfl⟩
      obtain ⟨j, hj⟩ : ∃ j, j = hf - i := ⟨_, rfl⟩
      obtain ⟨E, hE⟩ : ∃ E, E = m + j := ⟨_, rfl⟩
      have qB := HBE.out
      have HT := Lib.hid (tail_any HR.out c a m b S M E i j N x s t y HN.out HA.out qB.1 qB.2.1 HO1.out HO2.out hSa.symm (by omega) hE.symm (by omega) (by omega) qB.2.2.2.2.2.2.2.1 (by omega) (by omega) HIH.out)
      have HF := Lib.hid (search_done HO1.out HO2.out HC.out (by omega) (by omega) ⟨hli, hrh⟩ HD1.out HD2.out)
      rw [← hj] at HF
      have HW2 : Hid (Sw w0 g o (x ++ (s ++ (t ++ y))) wr) := HW.out
      have HFIN : Hid (∀ w', Sw w0 g o (x ++ (srt (s.take i ++ t.take j) ++ (srt (s.drop i ++ t.drop j) ++ y))) w' → Sw w0 g o (x ++ (srt (s ++ t) ++ y)) w') := fun w' h' => by
        rw [← List.append_assoc (srt (s.take i ++ t.take j)), HF.out] at h'
        exact h'
      have hSS : (S : Int) ≤ (S : Int) := by omega
      have eE : (M : Int) + (m : Int) - (S : Int) = (E : Int) := by omega
      have hSn : S < n := by omega
      have hEn : E ≤ n := by omega
      rw [← hSa]
      have HI : Hid (S = a + i ∧ E = m + j ∧ M = S + j ∧ m = a + s.length ∧ b = m + t.length) := ⟨hSa, hE, by omega, by omega, by omega⟩
      generalize x ++ (srt (s.take i ++ t.take j) ++ (srt (s.drop i ++ t.drop j) ++ y)) = r3 at HT HFIN
      generalize x ++ (srt (s.take i ++ t.take j) ++ (s.drop i ++ (t.drop j ++ y))) = r2 at HT
      generalize x ++ (s.take i ++ (t.take j ++ (s.drop i ++ (t.drop j ++ y)))) = r1 at HT
      generalize x ++ (s ++ (t ++ y)) = r0 at HT HW2
      clear hSa hE hj qB hli hir hrh hlt HF HW HIH HD1 HD2
      by_cases cA : i < s.length
      · by_cases cB : 0 < j
        · by_cases cC : 0 < i
          · by_cases cD : j < t.length
            · have q := HI.out
              have f0 : (S : Int) < (m : Int) := by omega
              have f1 : (M : Int) < (E : Int) := by omega
              have f2 : (m : Int) < (E : Int) := by omega
              have f3 : (S : Int) < (M : Int) := by omega
              have f4 : (a : Int) < (S : Int) := by omega
              have f5 : (E : Int) < (b : Int) := by omega
              clear q
              have HC1 := Lib.hid (HT.out.rot cA cB wr HW2.out)
              go_wp2_with fail
              refine HC1.out.mono ?_
              rintro e1 w1 ⟨rfl, hs1⟩
              have HX1 := Lib.hid hs1
              clear hs1 HC1
              have HC2 := Lib.hid (HT.out.lef cC cB w1 HX1.out)
              go_wp2_with fail
              refine HC2.out.mono ?_
              rintro e2 w2 ⟨rfl, hs2⟩
              have HX2 := Lib.hid hs2
              clear hs2 HC2
              have HC3 := Lib.hid (HT.out.rig cA cD w2 HX2.out)
              go_wp2_with fail
              refine HC3.out.mono ?_
              rintro e3 w3 ⟨rfl, hs3⟩
              have HX3 := Lib.hid hs3
              clear hs3 HC3
              clear cA cB cC cD
              go_wp2
              go_end0
              exact ⟨rfl, HFIN.out _ HX3.out⟩
            · have q := HI.out
              have f0 : (S : Int) < (m : Int) := by omega
              have f1 : (M : Int) < (E : Int) := by omega
              have f2 : (m : Int) < (E : Int) := by omega
              have f3 : (S : Int) < (M : Int) := by omega
              have f4 : (a : Int) < (S : Int) := by omega
              have f5 : ¬ (E : Int) < (b : Int) := by omega
              clear q
              have HC1 := Lib.hid (HT.out.rot cA cB wr HW2.out)
              go_wp2_with fail
              refine HC1.out.mono ?_
              rintro e1 w1 ⟨rfl, hs1⟩
              have HX1 := Lib.hid hs1
              clear hs1 HC1
              have HC2 := Lib.hid (HT.out.lef cC cB w1 HX1.out)
              go_wp2_with fail
              refine HC2.out.mono ?_
              rintro e2 w2 ⟨rfl, hs2⟩
              have HX2 := Lib.hid hs2
              clear hs2 HC2
              have HX3 : Hid (Sw w0 g o r3 w2) := by
                have h := HX2.out
                rw [HT.out.rig' (by omega)] at h
                exact h
              clear cA cB cC cD
              go_wp2
              go_end0
              exact ⟨rfl, HFIN.out _ HX3.out⟩
          · by_cases cD : j < t.length
            · have q := HI.out
              have f0 : (S : Int) < (m : Int) := by omega
              have f1 : (M : Int) < (E : Int) := by omega
              have f2 : (m : Int) < (E : Int) := by omega
              have f3 : (S : Int) < (M : Int) := by omega
              have f4 : ¬ (a : Int) < (S : Int) := by omega
              have f5 : (E : Int) < (b : Int) := by omega
              clear q
              have HC1 := Lib.hid (HT.out.rot cA cB wr HW2.out)
              go_wp2_with fail
              refine HC1.out.mono ?_
              rintro e1 w1 ⟨rfl, hs1⟩
              have HX1 := Lib.hid hs1
              clear hs1 HC1
              have HX2 : Hid (Sw w0 g o r2 w1) := by
                have h := HX1.out
                rw [HT.out.lef' (by omega)] at h
                exact h
              have HC3 := Lib.hid (HT.out.rig cA cD w1 HX2.out)
              go_wp2_with fail
              refine HC3.out.mono ?_
              rintro e3 w3 ⟨rfl, hs3⟩
              have HX3 := Lib.hid hs3
              clear hs3 HC3
              clear cA cB cC cD
              go_wp2
              go_end0
              exact ⟨rfl, HFIN.out _ HX3.out⟩
            · have q := HI.out
              have f0 : (S : Int) < (m : Int) := by omega
              have f1 : (M : Int) < (E : Int) := by omega
              have f2 : (m : Int) < (E : Int) := by omega
              have f3 : (S : Int) < (M : Int) := by omega
              have f4 : ¬ (a : Int) < (S : Int) := by omega
              have f5 : ¬ (E : Int) < (b : Int) := by omega
              clear q
              have HC1 := Lib.hid (HT.out.rot cA cB wr HW2.out)
              go_wp2_with fail
              refine HC1.out.mono ?_
              rintro e1 w1 ⟨rfl, hs1⟩
              have HX1 := Lib.hid hs1
              clear hs1 HC1
              have HX2 : Hid (Sw w0 g o r2 w1) := by
                have h := HX1.out
                rw [HT.out.lef' (by omega)] at h
                exact h
              have HX3 : Hid (Sw w0 g o r3 w1) := by
                have h := HX2.out
                rw [HT.out.rig' (by omega)] at h
                exact h
              clear cA cB cC cD
              go_wp2
              go_end0
              exact ⟨rfl, HFIN.out _ HX3.out⟩
        · by_cases cC : 0 < i
          · by_cases cD : j < t.length
            · have q := HI.out
              have f0 : (S : Int) < (m : Int) := by omega
              have f1 : (M : Int) < (E : Int) := by omega
              have f2 : ¬ (m : Int) < (E : Int) := by omega
              have f3 : ¬ (S : Int) < (M : Int) := by omega
              have f4 : (a : Int) < (S : Int) := by omega
              have f5 : (E : Int) < (b : Int) := by omega
              clear q
              have HX1 : Hid (Sw w0 g o r1 wr) := by
                have h := HW2.out
                rw [HT.out.rot' (by omega)] at h
                exact h
              have HX2 : Hid (Sw w0 g o r2 wr) := by
                have h := HX1.out
                rw [HT.out.lef' (by omega)] at h
                exact h
              have HC3 := Lib.hid (HT.out.rig cA cD wr HX2.out)
              go_wp2_with fail
              refine HC3.out.mono ?_
              rintro e3 w3 ⟨rfl, hs3⟩
              have HX3 := Lib.hid hs3
              clear hs3 HC3
              clear cA cB cC cD
              go_wp2
              go_end0
              exact ⟨rfl, HFIN.out _ HX3.out⟩
            · have q := HI.out
              have f0 : (S : Int) < (m : Int) := by omega
              have f1 : (M : Int) < (E : Int) := by omega
              have f2 : ¬ (m : Int) < (E : Int) := by omega
              have f3 : ¬ (S : Int) < (M : Int) := by omega
              have f4 : (a : Int) < (S : Int) := by omega
              have f5 : ¬ (E : Int) < (b : Int) := by omega
              clear q
              have HX1 : Hid (Sw w0 g o r1 wr) := by
                have h := HW2.out
                rw [HT.out.rot' (by omega)] at h
                exact h
              have HX2 : Hid (Sw w0 g o r2 wr) := by
                have h := HX1.out
                rw [HT.out.lef' (by omega)] at h
                exact h
              have HX3 : Hid (Sw w0 g o r3 wr) := by
                have h := HX2.out
                rw [HT.out.rig' (by omega)] at h
                exact h
              clear cA cB cC cD
              go_wp2
              go_end0
              exact ⟨rfl, HFIN.out _ HX3.out⟩
          · by_cases cD : j < t.length
            · have q := HI.out
              have f0 : (S : Int) < (m : Int) := by omega
              have f1 : (M : Int) < (E : Int) := by omega
              have f2 : ¬ (m : Int) < (E : Int) := by omega
              have f3 : ¬ (S : Int) < (M : Int) := by omega
              have f4 : ¬ (a : Int) < (S : Int) := by omega
              have f5 : (E : Int) < (b : Int) := by omega
              clear q
              have HX1 : Hid (Sw w0 g o r1 wr) := by
                have h := HW2.out
                rw [HT.out.rot' (by omega)] at h
                exact h
              have HX2 : Hid (Sw w0 g o r2 wr) := by
                have h := HX1.out
                rw [HT.out.lef' (by omega)] at h
                exact h
              have HC3 := Lib.hid (HT.out.rig cA cD wr HX2.out)
              go_wp2_with fail
              refine HC3.out.mono ?_
              rintro e3 w3 ⟨rfl, hs3⟩
              have HX3 := Lib.hid hs3
              clear hs3 HC3
              clear cA cB cC cD
              go_wp2
              go_end0
              exact ⟨rfl, HFIN.out _ HX3.out⟩
            · have q := HI.out
              have f0 : (S : Int) < (m : Int) := by omega
              have f1 : (M : Int) < (E : Int) := by omega
              have f2 : ¬ (m : Int) < (E : Int) := by omega
              have f3 : ¬ (S : Int) < (M : Int) := by omega
              have f4 : ¬ (a : Int) < (S : Int) := by omega
              have f5 : ¬ (E : Int) < (b : Int) := by omega
              clear q
              have HX1 : Hid (Sw w0 g o r1 wr) := by
                have h := HW2.out
                rw [HT.out.rot' (by omega)] at h
                exact h
              have HX2 : Hid (Sw w0 g o r2 wr) := by
                have h := HX1.out
                rw [HT.out.lef' (by omega)] at h
                exact h
              have HX3 : Hid (Sw w0 g o r3 wr) := by
                have h := HX2.out
                rw [HT.out.rig' (by omega)] at h
                exact h
              clear cA cB cC cD
              go_wp2
              go_end0
              exact ⟨rfl, HFIN.out _ HX3.out⟩
      · by_cases cB : 0 < j
        · by_cases cC : 0 < i
          · by_cases cD : j < t.length
            · have q := HI.out
              have f0 : ¬ (S : Int) < (m : Int) := by omega
              have f1 : ¬ (M : Int) < (E : Int) := by omega
              have f2 : (m : Int) < (E : Int) := by omega
              have f3 : (S : Int) < (M : Int) := by omega
              have f4 : (a : Int) < (S : Int) := by omega
              have f5 : (E : Int) < (b : Int) := by omega
              clear q
              have HX1 : Hid (Sw w0 g o r1 wr) := by
                have h := HW2.out
                rw [HT.out.rot' (by omega)] at h
                exact h
              have HC2 := Lib.hid (HT.out.lef cC cB wr HX1.out)
              go_wp2_with fail
              refine HC2.out.mono ?_
              rintro e2 w2 ⟨rfl, hs2⟩
              have HX2 := Lib.hid hs2
              clear hs2 HC2
              have HX3 : Hid (Sw w0 g o r3 w2) := by
                have h := HX2.out
                rw [HT.out.rig' (by omega)] at h
                exact h
              clear cA cB cC cD
              go_wp2
              go_end0
              exact ⟨rfl, HFIN.out _ HX3.out⟩
            · have q := HI.out
              have f0 : ¬ (S : Int) < (m : Int) := by omega
              have f1 : ¬ (M : Int) < (E : Int) := by omega
              have f2 : (m : Int) < (E : Int) := by omega
              have f3 : (S : Int) < (M : Int) := by omega
              have f4 : (a : Int) < (S : Int) := by omega
              have f5 : ¬ (E : Int) < (b : Int) := by omega
              clear q
              have HX1 : Hid (Sw w0 g o r1 wr) := by
                have h := HW2.out
                rw [HT.out.rot' (by omega)] at h
                exact h
              have HC2 := Lib.hid (HT.out.lef cC cB wr HX1.out)
              go_wp2_with fail
              refine HC2.out.mono ?_
              rintro e2 w2 ⟨rfl, hs2⟩
              have HX2 := Lib.hid hs2
              clear hs2 HC2
              have HX3 : Hid (Sw w0 g o r3 w2) := by
                have h := HX2.out
                rw [HT.out.rig' (by omega)] at h
                exact h
              clear cA cB cC cD
              go_wp2
              go_end0
              exact ⟨rfl, HFIN.out _ HX3.out⟩
          · by_cases cD : j < t.length
            · have q := HI.out
              have f0 : ¬ (S : Int) < (m : Int) := by omega
              have f1 : ¬ (M : Int) < (E : Int) := by omega
              have f2 : (m : Int) < (E : Int) := by omega
              have f3 : (S : Int) < (M : Int) := by omega
              have f4 : ¬ (a : Int) < (S : Int) := by omega
              have f5 : (E : Int) < (b : Int) := by omega
              clear q
              have HX1 : Hid (Sw w0 g o r1 wr) := by
                have h := HW2.out
                rw [HT.out.rot' (by omega)] at h
                exact h
              have HX2 : Hid (Sw w0 g o r2 wr) := by
                have h := HX1.out
                rw [HT.out.lef' (by omega)] at h
                exact h
              have HX3 : Hid (Sw w0 g o r3 wr) := by
                have h := HX2.out
                rw [HT.out.rig' (by omega)] at h
                exact h
              clear cA cB cC cD
              go_wp2
              go_end0
              exact ⟨rfl, HFIN.out _ HX3.out⟩
            · have q := HI.out
              have f0 : ¬ (S : Int) < (m : Int) := by omega
              have f1 : ¬ (M : Int) < (E : Int) := by omega
              have f2 : (m : Int) < (E : Int) := by omega
              have f3 : (S : Int) < (M : Int) := by omega
              have f4 : ¬ (a : Int) < (S : Int) := by omega
              have f5 : ¬ (E : Int) < (b : Int) := by omega
              clear q
              have HX1 : Hid (Sw w0 g o r1 wr) := by
                have h := HW2.out
                rw [HT.out.rot' (by omega)] at h
                exact h
              have HX2 : Hid (Sw w0 g o r2 wr) := by
                have h := HX1.out
                rw [HT.out.lef' (by omega)] at h
                exact h
              have HX3 : Hid (Sw w0 g o r3 wr) := by
                have h := HX2.out
                rw [HT.out.rig' (by omega)] at h
                exact h
              clear cA cB cC cD
              go_wp2
              go_end0
              exact ⟨rfl, HFIN.out _ HX3.out⟩
        · by_cases cC : 0 < i
          · by_cases cD : j < t.length
            · have q := HI.out
              have f0 : ¬ (S : Int) < (m : Int) := by omega
              have f1 : ¬ (M : Int) < (E : Int) := by omega
              have f2 : ¬ (m : Int) < (E : Int) := by omega
              have f3 : ¬ (S : Int) < (M : Int) := by omega
              have f4 : (a : Int) < (S : Int) := by omega
              have f5 : (E : Int) < (b : Int) := by omega
              clear q
              have HX1 : Hid (Sw w0 g o r1 wr) := by
                have h := HW2.out
                rw [HT.out.rot' (by omega)] at h
                exact h
              have HX2 : Hid (Sw w0 g o r2 wr) := by
                have h := HX1.out
                rw [HT.out.lef' (by omega)] at h
                exact h
              have HX3 : Hid (Sw w0 g o r3 wr) := by
                have h := HX2.out
                rw [HT.out.rig' (by omega)] at h
                exact h
              clear cA cB cC cD
              go_wp2
              go_end0
              exact ⟨rfl, HFIN.out _ HX3.out⟩
            · have q := HI.out
              have f0 : ¬ (S : Int) < (m : Int) := by omega
              have f1 : ¬ (M : Int) < (E : Int) := by omega
              have f2 : ¬ (m : Int) < (E : Int) := by omega
              have f3 : ¬ (S : Int) < (M : Int) := by omega
              have f4 : (a : Int) < (S : Int) := by omega
              have f5 : ¬ (E : Int) < (b : Int) := by omega
              clear q
              have HX1 : Hid (Sw w0 g o r1 wr) := by
                have h := HW2.out
                rw [HT.out.rot' (by omega)] at h
                exact h
              have HX2 : Hid (Sw w0 g o r2 wr) := by
                have h := HX1.out
                rw [HT.out.lef' (by omega)] at h
                exact h
              have HX3 : Hid (Sw w0 g o r3 wr) := by
                have h := HX2.out
                rw [HT.out.rig' (by omega)] at h
                exact h
              clear cA cB cC cD
              go_wp2
              go_end0
              exact ⟨rfl, HFIN.out _ HX3.out⟩
          · by_cases cD : j < t.length
            · have q := HI.out
              have f0 : ¬ (S : Int) < (m : Int) := by omega
              have f1 : ¬ (M : Int) < (E : Int) := by omega
              have f2 : ¬ (m : Int) < (E : Int) := by omega
              have f3 : ¬ (S : Int) < (M : Int) := by omega
              have f4 : ¬ (a : Int) < (S : Int) := by omega
              have f5 : (E : Int) < (b : Int) := by omega
              clear q
              have HX1 : Hid (Sw w0 g o r1 wr) := by
                have h := HW2.out
                rw [HT.out.rot' (by omega)] at h
                exact h
              have HX2 : Hid (Sw w0 g o r2 wr) := by
                have h := HX1.out
                rw [HT.out.lef' (by omega)] at h
                exact h
              have HX3 : Hid (Sw w0 g o r3 wr) := by
                have h := HX2.out
                rw [HT.out.rig' (by omega)] at h
                exact h
              clear cA cB cC cD
              go_wp2
              go_end0
              exact ⟨rfl, HFIN.out _ HX3.out⟩
            · have q := HI.out
              have f0 : ¬ (S : Int) < (m : Int) := by omega
              have f1 : ¬ (M : Int) < (E : Int) := by omega
              have f2 : ¬ (m : Int) < (E : Int) := by omega
              have f3 : ¬ (S : Int) < (M : Int) := by omega
              have f4 : ¬ (a : Int) < (S : Int) := by omega
              have f5 : ¬ (E : Int) < (b : Int) := by omega
              clear q
              have HX1 : Hid (Sw w0 g o r1 wr) := by
                have h := HW2.out
                rw [HT.out.rot' (by omega)] at h
                exact h
              have HX2 : Hid (Sw w0 g o r2 wr) := by
                have h := HX1.out
                rw [HT.out.lef' (by omega)] at h
                exact h
              have HX3 : Hid (Sw w0 g o r3 wr) := by
                have h := HX2.out
                rw [HT.out.rig' (by omega)] at h
                exact h
              clear cA cB cC cD
              go_wp2
              go_end0
              exact ⟨rfl, HFIN.out _ HX3.out⟩
theorem merge_any {w0 : World} {g o n : Nat} (R : Rw w0 g o n) (c : Nat) : ∀ (N : Nat) (x s t y : List L) (a m b : Nat) (W : World), s.length + t.length ≤ N → (x ++ (s ++ (t ++ y))).length = n → x.length = a → a + s.length = m → m + t.length = b → 0 < s.length → 0 < t.length → Sb.Ord adr s → Sb.Ord adr t → Sw w0 g o (x ++ (s ++ (t ++ y))) W → MgR w0 g o n c x s t y a m b W
  | 0, x, s, t, y, a, m, b, W, hN, _, _, _, _, h1, _, _, _, _ => by omega
  | N + 1, x, s, t, y, a, m, b, W, hN, hl, ha, hm, hb, h1, h2, hs, ht, hS => by
    by_cases k1 : s.length = 1
    · obtain ⟨e, rfl⟩ := List.length_eq_one_iff.1 k1
      exact merge_ahead R c a m b x t y e W hl ha hm hb ht hS
    by_cases k2 : t.length = 1
    · obtain ⟨e, rfl⟩ := List.length_eq_one_iff.1 k2
      exact merge_behind R c a m b x s y e W hl ha hm (by omega) hb hs hS
    have IH := fun x s t y a m b W h => merge_any R c N x s t y a m b W h
    by_cases k : (s.length + t.length) / 2 < s.length
    · exact merge_big1 R c a m b N ((s.length + t.length) / 2 - t.length) ((s.length + t.length) / 2) ((s.length + t.length) / 2) x s t y W hl ha hm hb (by omega) (by omega) hs ht hS hN rfl ⟨k, by omega, rfl⟩ IH
    · exact merge_big2 R c a m b N 0 s.length ((s.length + t.length) / 2) x s t y W hl ha hm hb (by omega) (by omega) hs ht hS hN rfl ⟨by omega, rfl, rfl⟩ IH
end Go.Proofs.YtlefpodonkdbeaaGreat.Lw
