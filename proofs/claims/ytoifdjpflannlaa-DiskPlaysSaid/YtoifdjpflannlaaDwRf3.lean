/- What the document's Right and Good come to. For disks whose names fit. -/
import Derived.Test.YtoifdjpflannlaaDwRf2
set_option maxRecDepth 8000
namespace Go.Proofs.Ytoifdjpflannlaa.Dw
open Go.RowKit By Dk

theorem range_take {l : List Int} {k : Nat} (h : l.take k = rangeZ k) (hk : k < l.length) (he : l[k] = (k : Int)) : l.take (k + 1) = rangeZ (k + 1) := by
  rw [List.take_succ_eq_append_getElem hk, h, he, range_snoc]
theorem range_not {l : List Int} {k m : Nat} (hk : k < l.length) (he : l[k] ≠ (k : Int)) : l ≠ rangeZ m := fun h => by
  subst h
  apply he
  simp [rangeZ]
set_option maxHeartbeats 4000000 in
theorem refRight_any (x : Dv) (w : World) (h : RdD w.heap.size w x) (hsm : Sm x.d) :
    Calls Try.prog 91 #[x.v] w (isB w (decide (RightD x.d))) := by
  obtain ⟨w1, hw1⟩ : ∃ w1, w1 = w.alloc (.cells x.cs 32) := ⟨_, rfl⟩
  have hb1 : Below w.heap.size w w1 := by rw [hw1]; exact alloc_more _ _
  have hc1 : Cel w1 w.heap.size 32 x.cs := by rw [hw1]; exact Cel.born _ _ _
  obtain ⟨q0, q1, q2⟩ := ref_cel3 hc1
  have hfl : x.d.fs.length = x.fn := by show (fsOf x.xs).length = _; rw [fs_len, h.f.len]
  have hmx := h.f.max
  have hcp := h.f.cap
  have HIF := Lib.hid (rightD_iff x.d)
  rw [hfl] at HIF
  have HFL := Lib.hid hfl
  have HSM := Lib.hid hsm
  have HR := Lib.hid h
  have HB1 := Lib.hid hb1
  have HC1 := Lib.hid hc1
  by_cases h20 : (20 : Int) < (x.fn : Int)
  · have H : Hid (decide (RightD x.d) = false) := decide_eq_false fun k => by have := (HIF.out.1 k).1; omega
    clear hb1 hc1 h hfl hsm
    go_enter Try.func91, Try.ntmps91
    go_wp2
    go_ret
    exact ⟨ret_bool H.out.symm, alloc_more _ _⟩
  have HE1 := Lib.hid (refNamed_any x.nA x.nn x.nc x.now x.fn w1 ((h.n.below hb1).mono hb1.size) (fun e he => hsm e (List.mem_append_left _ he)))
  clear hb1 hc1 h hfl hsm
  go_enter Try.func91, Try.ntmps91
  go_wp2_with fail
  rw [← hw1]
  clear hw1
  refine HE1.out.mono ?_
  rintro e w2 ⟨rfl, hb2⟩
  have HB2 := Lib.hid (HB1.out.trans (hb2.mono HB1.out.size))
  have HC2 := Lib.hid (HC1.out.below hb2 HC1.out.lt)
  obtain ⟨p0, p1, p2⟩ := ref_cel3 HC2.out
  by_cases hn1 : Named x.now x.fn
  rotate_left
  · have hd : decide (Named x.now x.fn) = false := decide_eq_false hn1
    have H : Hid (decide (RightD x.d) = false) := decide_eq_false fun k => hn1 (HIF.out.1 k).2.2.1
    rw [hd]
    clear hd hn1 hb2
    go_wp2
    go_ret
    exact ⟨ret_bool H.out.symm, HB2.out⟩
  have hd : decide (Named x.now x.fn) = true := decide_eq_true hn1
  rw [hd]
  have HN1 := Lib.hid hn1
  have HE2 := Lib.hid (refNamed_any x.kA x.kn x.kc x.kept x.fn w2 ((HR.out.k.below HB2.out).mono HB2.out.size) (fun e he => HSM.out e (List.mem_append_right _ he)))
  clear hd hn1 hb2 q0 q1 q2
  go_wp2_with fail
  refine HE2.out.mono ?_
  rintro e w3 ⟨rfl, hb3⟩
  have HB3 := Lib.hid (HB2.out.trans (hb3.mono HB2.out.size))
  have HC3 := Lib.hid (HC2.out.below hb3 HC2.out.lt)
  by_cases hn2 : Named x.kept x.fn
  rotate_left
  · have hd : decide (Named x.kept x.fn) = false := decide_eq_false hn2
    have H : Hid (decide (RightD x.d) = false) := decide_eq_false fun k => hn2 (HIF.out.1 k).2.2.2.1
    rw [hd]
    clear hd hn2 hb3
    go_wp2
    go_ret
    exact ⟨ret_bool H.out.symm, HB3.out⟩
  have hd : decide (Named x.kept x.fn) = true := decide_eq_true hn2
  rw [hd]
  have HN2 := Lib.hid hn2
  clear hd hn2 hb3 p0 p1 p2
  go_wp2
  go_loopw [3] (fun i wr => ∃ k : Nat, k ≤ x.fn ∧ i = .int .i64 k ∧ allOk (fsOf (x.xs.take k)) ∧ Below w3.heap.size w3 wr) (fun i _ => x.fn - (intOf i).toNat)
  case atStart => exact ⟨0, by omega, rfl, (fun f hf => by cases hf), Below.refl _ _⟩
  case round =>
    obtain ⟨k, hk, rfl, hs, hbw⟩ := hrel
    have HS := Lib.hid hs
    have HBR := Lib.hid (HB3.out.trans (hbw.mono HB3.out.size))
    have HCR := Lib.hid (HC3.out.below hbw HC3.out.lt)
    obtain ⟨p0, p1, p2⟩ := ref_cel3 HCR.out
    clear hs
    by_cases hlt : k < x.fn
    · obtain ⟨b, o, v, eA, _, HE, hbs, c1, c2⟩ := atF (HR.out.f.below HBR.out) hlt
      rw [eA] at p0
      have HM := Lib.hid (List.mem_of_getElem? HE.out)
      have HT := Lib.hid (take_next HE.out)
      have hvc := hbs.bs.cap
      have hvm := hbs.bs.max
      have hkn : (k : Int) < (x.fn : Int) := by omega
      have HBQ := Lib.hid HBR.out
      have HNOK : Hid (¬ FileOk ⟨v.l, v.s⟩ → decide (RightD x.d) = false) := fun hno => decide_eq_false fun kk => hno ((HIF.out.1 kk).2.1 _ (List.mem_map.2 ⟨v, HM.out, rfl⟩))
      clear hbs HE eA
      by_cases hc1 : (20000 : Int) < ((v.l.length : Nat) : Int)
      · have H := Lib.hid (HNOK.out fun kk => by have := kk.1; simp only at this; omega)
        have db1 : decide ((20000 : Int) < ((v.l.length : Nat) : Int)) = true := decide_eq_true hc1
        go_wp2_with fail
        go_big_quiet (fail)
        go_wp2
        go_ret
        exact ⟨ret_bool H.out.symm, below_drewN HBR.out _⟩
      by_cases hc2 : v.s < 0
      · have H := Lib.hid (HNOK.out fun kk => by have := kk.2.1; simp only at this; omega)
        have db1 : decide ((20000 : Int) < ((v.l.length : Nat) : Int)) = false := decide_eq_false hc1
        have db2 : decide (v.s < 0) = true := decide_eq_true hc2
        go_wp2_with fail
        go_big_quiet (fail)
        go_wp2
        go_ret
        exact ⟨ret_bool H.out.symm, below_drewN HBR.out _⟩
      by_cases hc3 : ((v.l.length : Nat) : Int) < v.s
      · have H := Lib.hid (HNOK.out fun kk => by have := kk.2.2; simp only at this; omega)
        have db1 : decide ((20000 : Int) < ((v.l.length : Nat) : Int)) = false := decide_eq_false hc1
        have db2 : decide (v.s < 0) = false := decide_eq_false hc2
        have db3 : decide (((v.l.length : Nat) : Int) < v.s) = true := decide_eq_true hc3
        go_wp2_with fail
        go_big_quiet (fail)
        go_wp2
        go_ret
        exact ⟨ret_bool H.out.symm, below_drewN HBR.out _⟩
      · have H : Hid (allOk (fsOf (x.xs.take (k + 1)))) := by
          show allOk _
          rw [HT.out]
          unfold allOk fsOf
          rw [List.map_append]
          intro f hf
          rcases List.mem_append.1 hf with hf | hf
          · exact HS.out f hf
          · simp at hf
            subst hf
            exact ⟨by show v.l.length ≤ _; omega, by show 0 ≤ v.s; omega, by show v.s ≤ ((v.l.length : Nat) : Int); omega⟩
        have db1 : decide ((20000 : Int) < ((v.l.length : Nat) : Int)) = false := decide_eq_false hc1
        have db2 : decide (v.s < 0) = false := decide_eq_false hc2
        have db3 : decide (((v.l.length : Nat) : Int) < v.s) = false := decide_eq_false hc3
        go_wp2_with fail
        go_big_quiet (fail)
        go_wp2
        go_roundw
        case rel => exact ⟨k + 1, by omega, by go_num, H.out, below_drewN hbw _⟩
        case measure => simp [intOf]; omega
    · obtain rfl : k = x.fn := by omega
      have HOK : Hid (allOk (fsOf x.xs)) := by have := HS.out; rwa [List.take_of_length_le (by rw [HR.out.f.len]; exact Nat.le_refl _)] at this
      have HCA := Lib.hid (refCame_any x wr ((HR.out.below HBR.out).mono HBR.out.size) (by have e1 := named_len HN1.out; have e2 := named_len HN2.out; omega))
      have HDD : Hid (decide (RightD x.d) = decide (cameD x.d = rangeZ x.fn)) := by
        show _ = _
        rw [decide_eq_decide, HIF.out]
        exact ⟨fun k => k.2.2.2.2, fun k => ⟨by omega, HOK.out, HN1.out, HN2.out, k⟩⟩
      clear hbw
      go_wp2_with fail
      refine HCA.out.mono ?_
      rintro e w5 ⟨Al, nl, cl, rfl, hrl, hb5⟩
      have HB5 := Lib.hid (HBR.out.trans (hb5.mono HBR.out.size))
      have HC5 := Lib.hid (HCR.out.below hb5 HCR.out.lt)
      obtain ⟨s0, s1, s2⟩ := ref_cel3 HC5.out
      have hnl : (cameD x.d).length = nl := by have := hrl.len; rwa [intV_len] at this
      have HNL := Lib.hid hnl
      have hlc := hrl.cap
      have hlm := hrl.max
      clear hb5 hnl p0 p1 p2
      go_wp2
      go_loop [5] (fun i => ∃ j : Nat, j ≤ nl ∧ i = .int .i64 j ∧ (cameD x.d).take j = rangeZ j) (fun i => nl - (intOf i).toNat)
      case atStart => exact ⟨0, by omega, rfl, rfl⟩
      case round =>
        obtain ⟨j, hj, rfl, hs⟩ := hrel
        have HS2 := Lib.hid hs
        clear hs
        by_cases hlt2 : j < nl
        · obtain ⟨b, o, eAl, hc⟩ := hrl.at_ hlt2
          have hjl : j < (cameD x.d).length := by have := HNL.out; omega
          have hcell := hc j (by rw [intV_len]; exact hjl)
          rw [intV_get hjl] at hcell
          by_cases he : (cameD x.d)[j] = (j : Int)
          · have H := Lib.hid (range_take HS2.out hjl he)
            rw [he] at hcell
            have hjn : (j : Int) < (nl : Int) := by omega
            rw [eAl]
            clear hc he hjl
            go_wp2
            go_round
            case rel => exact ⟨j + 1, by omega, by go_num, H.out⟩
            case measure => simp [intOf]; omega
          · have H : Hid (decide (RightD x.d) = false) := by show _ = _; rw [HDD.out]; exact decide_eq_false (range_not hjl he)
            have hb : ((cameD x.d)[j] != (j : Int)) = true := bne_iff_ne.2 he
            have hjn : (j : Int) < (nl : Int) := by omega
            rw [eAl]
            clear hc he
            generalize (cameD x.d)[j] = y at hcell hb
            clear hjl
            go_wp2
            go_ret
            exact ⟨ret_bool H.out.symm, HB5.out⟩
        · obtain rfl : j = nl := by omega
          have HCJ : Hid (cameD x.d = rangeZ j) := by have := HS2.out; rwa [List.take_of_length_le (by rw [HNL.out]; exact Nat.le_refl _)] at this
          have H : Hid (decide (RightD x.d) = decide ((j : Int) = (x.fn : Int))) := by
            show _ = _
            rw [HDD.out, decide_eq_decide]
            constructor
            · intro k
              have := HNL.out
              rw [k, range_len] at this
              omega
            · intro k
              rw [HCJ.out, show j = x.fn by omega]
          by_cases he : (j : Int) = (x.fn : Int)
          · have hbe : ((j : Int) == (x.fn : Int)) = true := by simpa using he
            have HE := Lib.hid (decide_eq_true he)
            clear he
            go_wp2
            go_ret
            exact ⟨ret_bool (by rw [H.out, HE.out]), HB5.out⟩
          · have hbe : ((j : Int) == (x.fn : Int)) = false := by simpa using he
            have HE := Lib.hid (decide_eq_false he)
            clear he
            go_wp2
            go_ret
            exact ⟨ret_bool (by rw [H.out, HE.out]), HB5.out⟩
end Go.Proofs.Ytoifdjpflannlaa.Dw
