/- What disk.Append comes to. For all disks whose names fit, and up to a million bytes. -/
import Derived.Test.YtoifdjpflannlaaDwSt
set_option maxRecDepth 8000
namespace Go.Proofs.Ytoifdjpflannlaa.Dw
open Go.RowKit By Dk

/-! ### Mathematics -/
theorem set_last {α : Type} (l : List α) (a b : α) : (l ++ [a]).set l.length b = l ++ [b] := by
  rw [List.set_append_right _ _ (Nat.le_refl _), Nat.sub_self]
  rfl
theorem append_math {d : D} (hr : RightD d) {t : N} (hn : FairN t) (b : List UInt8) : ∃ k : Nat, findE (createdD d t).now t = some (k : Int) ∧ k < (createdD d t).fs.length ∧ Loose (createdD d t) ∧ (createdD d t).fs.length ≤ 21 ∧
    (20000 < (fileAt (createdD d t) (k : Int)).d.length + b.length ∨ 20 < (createdD d t).fs.length → appendG d t b = (d, 3)) ∧
    (¬ (20000 < (fileAt (createdD d t) (k : Int)).d.length + b.length ∨ 20 < (createdD d t).fs.length) → appendG d t b = (orderedD (setD (createdD d t) (k : Int) ⟨(fileAt (createdD d t) (k : Int)).d ++ b, (fileAt (createdD d t) (k : Int)).s⟩), 0)) := by
  cases hf : findE d.now t with
  | some f =>
    have e : createdD d t = d := by unfold createdD; rw [hf]
    rw [e]
    obtain ⟨f0, f1⟩ := find_range hr hf
    obtain ⟨k, rfl⟩ := Int.eq_ofNat_of_zero_le f0
    have h20 := hr.1
    obtain ⟨k1, k2, k3⟩ := file_ok hr hf
    have ea : appendG d t b = if 20000 < (fileAt d (k : Int)).d.length + b.length then (d, 3) else (setD d (k : Int) ⟨(fileAt d (k : Int)).d ++ b, (fileAt d (k : Int)).s⟩, 0) := by unfold appendG; rw [if_pos hn, hf]
    refine ⟨k, hf, by omega, hr.2.1, by omega, fun hc => ?_, fun hc => ?_⟩
    · rw [ea, if_pos (by omega)]
    · rw [ea, if_neg (by omega), ordered_id (set_right hr _)]
      exact ⟨by show ((fileAt d (k : Int)).d ++ b).length ≤ 20000; rw [List.length_append]; omega, k2, by show (fileAt d (k : Int)).s ≤ ((((fileAt d (k : Int)).d ++ b).length : Nat) : Int); rw [List.length_append]; omega⟩
  | none =>
    have e : createdD d t = newD d t [] := by unfold createdD; rw [hf]
    rw [e]
    have hL := new_loose hr hn hf (b := []) (by simp)
    have hm : ((t, (d.fs.length : Int)) : E) ∈ (newD d t []).now := mem_with.2 (.inl rfl)
    have hl : (newD d t []).fs.length = d.fs.length + 1 := by simp [newD]
    have h20 := hr.1
    have ea : appendG d t b = if 20 ≤ d.fs.length ∨ 20000 < b.length then (d, 3) else (orderedD (newD d t b), 0) := by unfold appendG; rw [if_pos hn, hf]
    refine ⟨d.fs.length, (find_iff hL.1.2).2 hm, by omega, hL, by omega, fun hc => ?_, fun hc => ?_⟩
    · rw [fileAt_last] at hc
      rw [ea, if_pos (by simp at hc; omega)]
    · rw [fileAt_last] at hc ⊢
      rw [ea, if_neg (by simp at hc; omega)]
      have : setD (newD d t []) (d.fs.length : Int) ⟨[] ++ b, 0⟩ = newD d t b := by
        unfold setD newD
        rw [Int.toNat_natCast, set_last]
        rfl
      simp only
      rw [this]
/-- What a disk that is right but for its order has room for. -/
theorem loose_facts {z : Dv} {U : Nat} {w : World} (h : Loose z.d) (hr : RdD U w z) (hl : z.d.fs.length ≤ 21) :
    z.fn = z.d.fs.length ∧ z.nn ≤ 21 ∧ z.kn ≤ 21 ∧ z.now.length + z.kept.length ≤ 1000 ∧ (∀ u ∈ z.xs, u.l.length ≤ 20000) ∧ (∀ f ∈ cameD z.d, 0 ≤ f ∧ f < (z.fn : Int)) := by
  have e : z.d.fs.length = z.fn := by show (fsOf z.xs).length = _; rw [fs_len, hr.f.len]
  have h1 := named_len h.1
  have h2 := named_len h.2.1
  have e1 : z.d.now = z.now := rfl
  have e2 : z.d.kept = z.kept := rfl
  have e3 := hr.n.len
  have e4 := hr.k.len
  rw [e1] at h1
  rw [e2] at h2
  refine ⟨e.symm, by omega, by omega, by omega, fun u hu => ?_, fun f hf => ?_⟩
  · exact (h.2.2 u.f (List.mem_map.2 ⟨u, hu, rfl⟩)).1
  · have := came_range h hf
    rw [e] at this
    exact this
theorem parts2b {w : World} {A B : Option Addr} {n m c d : Nat} {t : TypeId} {l k : List UInt8} (hl : Bs w A n c l) (hk : Bs w B m d k) :
    Cw.PartsAt (w.alloc (.cells #[.slice A n c, .slice B m d] t)) w.heap.size 0 [⟨A, c, l⟩, ⟨B, d, k⟩] := by
  have hcp := Cel.born w t #[.slice A n c, .slice B m d]
  intro i hi
  match i, hi with
  | 0, _ => exact ⟨by rw [hcp.cell]; show _ = some (Value.slice A l.length c); rw [hl.len]; rfl, by show Bs _ A l.length c l; rw [hl.len]; exact hl.alloc _⟩
  | 1, _ => exact ⟨by rw [hcp.cell]; show _ = some (Value.slice B k.length d); rw [hk.len]; rfl, by show Bs _ B k.length d k; rw [hk.len]; exact hk.alloc _⟩
theorem alloc_more (w : World) (o : Obj) : Below w.heap.size w (w.alloc o) := (Below.refl _ _).alloc (Nat.le_refl _) _
theorem St.valid {w w1 w2 : World} {a b c : Value} {y : Dv} (S1 : St w w1 #[a, b, c]) (hb2 : Below w1.heap.size w1 w2) (hry : RdD w.heap.size w2 y) :
    St w (((w2.setCell ⟨w.heap.size, 0, none⟩ (.slice y.fA y.fn y.fc)).setCell ⟨w.heap.size, 1, none⟩ (.slice y.nA y.nn y.nc)).setCell ⟨w.heap.size, 2, none⟩ (.slice y.kA y.kn y.kc)) y.cs ∧
    RdD w.heap.size (((w2.setCell ⟨w.heap.size, 0, none⟩ (.slice y.fA y.fn y.fc)).setCell ⟨w.heap.size, 1, none⟩ (.slice y.nA y.nn y.nc)).setCell ⟨w.heap.size, 2, none⟩ (.slice y.kA y.kn y.kc)) y :=
  ⟨(S1.below hb2 S1.s).put _ _ _, hry.below (below_put3 (Below.refl _ _) (Nat.le_refl _) _ _ _)⟩

set_option maxHeartbeats 4000000 in
theorem append_any (x : Dv) (t : N) (Ab : Option Addr) (nb cb : Nat) (b : List UInt8) (w : World) (h : RdD w.heap.size w x) (hsm : Sm x.d) (ht : t.length ≤ 9223372036854775807) (hb : Bs w Ab nb cb b) (hbn : nb ≤ 1000000) :
    Calls Try.prog 23 #[x.v, .string (ba t), .slice Ab nb cb] w (DE w (appendK x.d t b)) := by
  obtain ⟨w1, hw1⟩ : ∃ w1, w1 = (w.alloc (.cells x.cs 25)).alloc (.cells #[.slice none 0 0, .slice none 0 0, .slice none 0 0] 25) := ⟨_, rfl⟩
  have S1 : St w w1 x.cs := by rw [hw1]; exact St.start x w
  have HV := Lib.hid (valid_any w.heap.size x w1 (h.below S1.b) S1.b.size hsm)
  have HS1 := Lib.hid S1
  have HB := Lib.hid hb
  have HBL := Lib.hid hb.len
  have hbc := hb.cap
  have hbm := hb.max
  clear h S1 hsm hb
  go_enter Try.func23, Try.ntmps23
  go_wp2_with fail
  rw [← hw1]
  clear hw1
  refine HV.out.mono ?_
  rintro e w2 ⟨y, rfl, hy, hry, hb2⟩
  have S2 := HS1.out.below hb2 HS1.out.s
  obtain ⟨q0, q1, q2⟩ := cel3 S2.c0
  obtain ⟨f0, f1, f2⟩ := cel_frs S2.c0
  obtain ⟨S3, hr3⟩ := HS1.out.valid hb2 hry
  obtain ⟨w3, hw3⟩ : ∃ w3, w3 = (((w2.setCell ⟨w.heap.size, 0, none⟩ (.slice y.fA y.fn y.fc)).setCell ⟨w.heap.size, 1, none⟩ (.slice y.nA y.nn y.nc)).setCell ⟨w.heap.size, 2, none⟩ (.slice y.kA y.kn y.kc)) := ⟨_, rfl⟩
  rw [← hw3] at S3 hr3
  have HS3 := Lib.hid S3
  have HR3 := Lib.hid hr3
  have hrd : RightD y.d := by rw [hy]; exact good_right _
  have HY := Lib.hid hy
  have HRN := rightName_any t w3 ht
  clear hry hb2 S2 S3 hr3 hy
  by_cases hfair : FairN t
  rotate_left
  · have H : Hid (appendK x.d t b = (y.d, 1)) := by
      show appendG (goodD x.d) t b = _
      unfold appendG
      rw [if_neg hfair, HY.out]
    have hd : decide (FairN t) = false := decide_eq_false hfair
    rw [hd] at HRN
    clear hd hfair hrd
    go_wp2_with fail
    rw [← hw3]
    clear hw3
    refine HRN.mono ?_
    rintro e w4 ⟨rfl, rfl⟩
    obtain ⟨p0, p1, p2⟩ := cel3 HS3.out.c0
    obtain ⟨t0, t1, t2⟩ := cel3 HS3.out.c1
    obtain ⟨g0, g1, g2⟩ := cel_frs HS3.out.c1
    go_wp2
    (try simp only [Exit.inBlock, Exit.then])
    refine bodyPost_ret (ret_disk2 rfl _ _ (w.heap.size + 1) y.cs rfl (cel_put3 HS3.out.c1) rfl) rfl ?_
    exact ⟨y, by rw [H.out]; rfl, by rw [H.out], HS3.out.rd HR3.out (by omega) _ _ _, HS3.out.out _ _ _⟩
  have hd : decide (FairN t) = true := decide_eq_true hfair
  rw [hd] at HRN
  obtain ⟨k, hfk, hkl, hL, h21, hfull, hroom⟩ := append_math hrd hfair b
  have hyfn : y.fn ≤ 1000 ∧ y.nn ≤ 1000 := by
    have := loose_facts hrd.2.1 HR3.out (by have := hrd.1; omega)
    have := hrd.1
    omega
  have HCR := Lib.hid (created_any y t w3 (HR3.out.mono HS3.out.b.size) hyfn.2 hyfn.1)
  have HG : Hid (appendK x.d t b = appendG y.d t b) := by show appendG (goodD x.d) t b = _; rw [HY.out]
  clear hd hfair hrd hyfn
  go_wp2_with fail
  rw [← hw3]
  clear hw3
  refine HRN.mono ?_
  rintro e w4 ⟨rfl, rfl⟩
  obtain ⟨p0, p1, p2⟩ := cel3 HS3.out.c0
  clear q0 q1 q2 f0 f1 f2
  go_wp2_with fail
  refine HCR.out.mono ?_
  rintro e w4 ⟨z, rfl, hz, hrz, hb4⟩
  rw [← hz] at hfk hkl hL h21 hfull hroom
  obtain ⟨zl, zn, zk, zs, zb, zc⟩ := loose_facts hL hrz h21
  rw [← zl] at hkl h21 hfull hroom
  clear zl
  have S4 := HS3.out.below hb4 HS3.out.s
  have HR4 := Lib.hid (HR3.out.below (hb4.mono HS3.out.b.size))
  obtain ⟨w5, hw5⟩ : ∃ w5, w5 = w4.alloc (.cells z.cs 25) := ⟨_, rfl⟩
  have hal : Below w4.heap.size w4 w5 := by rw [hw5]; exact (Below.refl _ _).alloc (Nat.le_refl _) _
  have hcz : Cel w5 w4.heap.size 25 z.cs := by rw [hw5]; exact Cel.born _ _ _
  have HFO := Lib.hid (fileOf_any z t w5 ((hrz.n.below hal).mono hal.size))
  have hs45 := hal.size
  have S5 := S4.below hal S4.s
  have HR5 := Lib.hid (HR4.out.below (hal.mono (by have := S4.s; omega)))
  have HRZ := Lib.hid (hrz.below hal)
  have HS5 := Lib.hid S5
  have HCZ := Lib.hid hcz
  have hs4 := S4.s
  have HL := Lib.hid hL
  clear hz hrz hb4 S4 S5 hal hcz hL
  go_wp2_with fail
  rw [← hw5]
  clear hw5
  refine HFO.out.mono ?_
  rintro e w6 ⟨rfl, hb6⟩
  rw [show findE z.now t = some (k : Int) from hfk, foV_some]
  have HS6 := Lib.hid (HS5.out.below hb6 (by omega))
  have HR6 := Lib.hid (HR5.out.below (hb6.mono (by omega)))
  have HZ6 := Lib.hid (HRZ.out.below (hb6.mono hs45))
  have HC6 := Lib.hid (HCZ.out.below hb6 HCZ.out.lt)
  obtain ⟨bo, o, v, eA, hbo, HE, hbs, d1, d2⟩ := atF HZ6.out.f hkl
  obtain ⟨c0, c1, c2⟩ := cel3 HC6.out
  rw [eA] at c0
  have HV6 : Hid (fileAt z.d (k : Int) = v.f) := fileAt_get (by omega) (by simpa using HE.out)
  have hvl : v.l.length ≤ 20000 := zb v (List.mem_of_getElem? HE.out)
  have zfc := HZ6.out.f.cap
  have zfm := HZ6.out.f.max
  rw [HV6.out] at hfull hroom
  obtain ⟨w7, hw7⟩ : ∃ w7, w7 = w6.alloc (.cells #[.slice v.A v.l.length v.c, .int .i64 v.s] 58) := ⟨_, rfl⟩
  have hal : Below w6.heap.size w6 w7 := by rw [hw7]; exact (Below.refl _ _).alloc (Nat.le_refl _) _
  have hs67 := hal.size
  have hs56 := hb6.size
  have hs7 : w7.heap.size = w6.heap.size + 1 := by rw [hw7]; simp
  have HS7 := Lib.hid (HS6.out.below hal (by omega))
  have HR7 := Lib.hid (HR6.out.below (hal.mono (by omega)))
  have HZ7 := Lib.hid (HZ6.out.below (hal.mono (by omega)))
  have HC7 := Lib.hid (HC6.out.below hal HC6.out.lt)
  have HF7 : Hid (Cel w7 w6.heap.size 58 #[.slice v.A v.l.length v.c, .int .i64 v.s]) := by show Cel _ _ _ _; rw [hw7]; exact Cel.born _ _ _
  have HVB := Lib.hid (hbs.below (hal.mono (by omega)))
  have hk0 : (0 : Int) ≤ (k : Int) := by omega
  have HFULL := Lib.hid hfull
  have HROOM := Lib.hid hroom
  have HZB := Lib.hid zb
  have HZC := Lib.hid zc
  have HZS := Lib.hid zs
  clear hfull hroom hb6 hal hbs HE zb zc hfk zs
  have hlt45 := HCZ.out.lt
  have hne1 : w.heap.size < w6.heap.size := by omega
  have hne2 : w.heap.size + 1 < w6.heap.size := by omega
  have hne3 : w4.heap.size < w6.heap.size := by omega
  by_cases hbig : 20000 < v.l.length + nb ∨ 20 < z.fn
  · have H := Lib.hid (HG.out.trans (HFULL.out (by rw [HBL.out]; exact hbig)))
    obtain ⟨p0, p1, p2⟩ := cel3 HS6.out.c0
    obtain ⟨t0, t1, t2⟩ := cel3 HS6.out.c1
    obtain ⟨g0, g1, g2⟩ := cel_frs HS6.out.c1
    by_cases h1 : (20000 : Int) < ((v.l.length : Nat) : Int) + (nb : Nat)
    · clear hbig
      go_wp2
      (try simp only [Exit.inBlock, Exit.then])
      have hc := cel_put3 (a' := .slice y.fA y.fn y.fc) (b' := .slice y.nA y.nn y.nc) (c' := .slice y.kA y.kn y.kc) HS6.out.c1
      have hA := alloc_more ((((w6.setCell ⟨w.heap.size + 1, 0, none⟩ (.slice y.fA y.fn y.fc)).setCell ⟨w.heap.size + 1, 1, none⟩ (.slice y.nA y.nn y.nc)).setCell ⟨w.heap.size + 1, 2, none⟩ (.slice y.kA y.kn y.kc))) (.cells #[.slice v.A v.l.length v.c, .int .i64 v.s] 58)
      have hO := HS6.out.out (.slice y.fA y.fn y.fc) (.slice y.nA y.nn y.nc) (.slice y.kA y.kn y.kc)
      refine bodyPost_ret (ret_disk2 rfl _ _ (w.heap.size + 1) y.cs rfl (hc.below hA hc.lt) rfl) rfl ?_
      exact ⟨y, by rw [H.out]; rfl, by rw [H.out], ((HS6.out.rd HR6.out (by omega) _ _ _).below hA).mono hA.size, hO.trans (hA.mono hO.size)⟩
    · have h2 : (20 : Int) < (z.fn : Int) := by omega
      clear hbig
      go_wp2
      (try simp only [Exit.inBlock, Exit.then])
      have hc := cel_put3 (a' := .slice y.fA y.fn y.fc) (b' := .slice y.nA y.nn y.nc) (c' := .slice y.kA y.kn y.kc) HS6.out.c1
      have hA := alloc_more ((((w6.setCell ⟨w.heap.size + 1, 0, none⟩ (.slice y.fA y.fn y.fc)).setCell ⟨w.heap.size + 1, 1, none⟩ (.slice y.nA y.nn y.nc)).setCell ⟨w.heap.size + 1, 2, none⟩ (.slice y.kA y.kn y.kc))) (.cells #[.slice v.A v.l.length v.c, .int .i64 v.s] 58)
      have hO := HS6.out.out (.slice y.fA y.fn y.fc) (.slice y.nA y.nn y.nc) (.slice y.kA y.kn y.kc)
      refine bodyPost_ret (ret_disk2 rfl _ _ (w.heap.size + 1) y.cs rfl (hc.below hA hc.lt) rfl) rfl ?_
      exact ⟨y, by rw [H.out]; rfl, by rw [H.out], ((HS6.out.rd HR6.out (by omega) _ _ _).below hA).mono hA.size, hO.trans (hA.mono hO.size)⟩
  have H := Lib.hid (HG.out.trans (HROOM.out (by rw [HBL.out]; exact hbig)))
  have h1 : ¬ (20000 : Int) < ((v.l.length : Nat) : Int) + (nb : Nat) := by omega
  have h2 : ¬ (20 : Int) < (z.fn : Int) := by omega
  have hP := parts2b (t := 35) HVB.out.bs (HB.out.below HS7.out.b)
  have htot : Cw.totL [⟨v.A, v.c, v.l⟩, ⟨Ab, cb, b⟩] = v.l.length + nb := by simp [Cw.totL, HBL.out]
  have hcat : Cw.catL [⟨v.A, v.c, v.l⟩, ⟨Ab, cb, b⟩] = v.l ++ b := by simp [Cw.catL]
  have hcall := Cw.concat_any w7.heap.size 0 2 2 _ _ hP rfl (by omega) (by omega) (by rw [htot]; omega)
  rw [htot, hcat, hs7] at hcall
  have HCALL := Lib.hid hcall
  have hal8 := alloc_more w7 (.cells #[.slice v.A v.l.length v.c, .slice Ab nb cb] 35)
  have hs8 : (w7.alloc (.cells #[.slice v.A v.l.length v.c, .slice Ab nb cb] 35)).heap.size = w6.heap.size + 2 := by simp [hs7]
  have HAL8 := Lib.hid hal8
  clear hbig hP htot hcat hcall hal8
  go_wp2_with fail
  rw [← hw7]
  clear hw7
  refine HCALL.out.mono ?_
  rintro e w9 ⟨A9, c9, rfl, hown9, hb9⟩
  have hb79 : Below w7.heap.size w7 w9 := HAL8.out.trans (hb9.mono (by omega))
  have HF9 := Lib.hid (HF7.out.below hb79 HF7.out.lt)
  obtain ⟨k0, k1⟩ := cel2 HF9.out
  have f9 := cel_fr HF9.out 0
  have f91 := cel_fr HF9.out 1
  have HC9 := Lib.hid (HC7.out.below hb79 HC7.out.lt)
  obtain ⟨m0, m1, m2⟩ := cel3 HC9.out
  have HZ9 := Lib.hid (HZ7.out.below (hb79.mono (by omega)))
  have HS9 := Lib.hid (HS7.out.below hb79 (by omega))
  rw [eA] at m0
  obtain ⟨w10, hw10⟩ : ∃ w10, w10 = w9.setCell ⟨w6.heap.size, 0, none⟩ (.slice A9 (v.l.length + nb) c9) := ⟨_, rfl⟩
  have hb10 : Below w6.heap.size w9 w10 := by rw [hw10]; exact (Below.refl _ _).setCell (p := ⟨w6.heap.size, 0, none⟩) (Nat.le_refl _) _
  have hown10 : Own 5 w6.heap.size w10 A9 (v.l.length + nb) c9 (v.l ++ b) := by
    rw [hw10]
    exact row_away (hown9.mono (by omega)) HF9.out (by decide) (grown_set _ _ _ _)
  have hr10 := (HZ9.out.below (hb10.mono (by omega))).mono (show w4.heap.size ≤ w10.heap.size by have := hb79.size; have := hb10.size; omega)
  have hll : (v.l ++ b).length = v.l.length + nb := by rw [List.length_append, HBL.out]
  have hcall : Calls Try.prog 55 #[.agg #[.slice z.fA z.fn z.fc, .slice z.nA z.nn z.nc, .slice z.kA z.kn z.kc], .int .i64 (k : Int), .agg #[.slice A9 (v.l.length + nb) c9, .int .i64 v.s]] w10 (DO w10 (orderedD (setD z.d (k : Int) ⟨v.l ++ b, v.s⟩))) := by
    rw [← hll]
    exact withFile_any z k ⟨A9, c9, v.l ++ b, v.s⟩ w10 hr10 (by show BsU _ _ A9 (v.l ++ b).length c9 (v.l ++ b); rw [hll]; exact hown10.bs.upto) hkl HZC.out HZS.out (by omega) (fun u hu => by have := HZB.out u hu; omega) (by show (v.l ++ b).length ≤ _; omega)
  rw [eA] at hcall
  have HCALL2 := Lib.hid hcall
  have HS10 := Lib.hid (HS9.out.below hb10 (by omega))
  have hs10 := hb10.size
  have hs9 := hb79.size
  clear hcall hr10 hown10 hown9 hb79 hb9 hb10 hll
  go_wp2_with fail
  rw [← hw10]
  clear hw10
  refine HCALL2.out.mono ?_
  rintro e w11 ⟨z2, rfl, hz2, hoz, hb11⟩
  have S11 := HS10.out.below hb11 (by omega)
  obtain ⟨t0, t1, t2⟩ := cel3 S11.c1
  obtain ⟨g0, g1, g2⟩ := cel_frs S11.c1
  have HS11 := Lib.hid S11
  have HOZ := Lib.hid hoz
  have HZ2 := Lib.hid hz2
  clear S11 hoz hz2 hb11
  go_wp2
  (try simp only [Exit.inBlock, Exit.then])
  refine bodyPost_ret (ret_disk2 rfl _ _ (w.heap.size + 1) z2.cs rfl (cel_put3 HS11.out.c1) rfl) rfl ?_
  exact ⟨z2, by rw [H.out]; rfl, by rw [H.out]; exact HZ2.out, HS11.out.own HOZ.out _ _ _, HS11.out.out _ _ _⟩
end Go.Proofs.Ytoifdjpflannlaa.Dw
