/- What the document's Append comes to. For disks whose names fit. -/
import Derived.Test.YtoifdjpflannlaaDwRg5
import Derived.Test.YtoifdjpflannlaaDwRg2
import Derived.Test.YtoifdjpflannlaaDwStep
import Derived.Deep.RegionHeld3
set_option maxRecDepth 8000
namespace Go.Proofs.Ytoifdjpflannlaa.Dw
open Go.RowKit By Dk

set_option maxHeartbeats 8000000 in
theorem refAppend_any (x : Dv) (t : N) (B : Option Addr) (d : Nat) (b : List UInt8) (w : World) (h : RdD w.heap.size w x) (hsm : Sm x.d) (hbs0 : Bs w B b.length d b) (ht : t.length ≤ 9223372036854775807) (hbl : b.length ≤ 1000000) :
    Calls Try.prog 33 #[x.v, .string (ba t), .slice B b.length d] w (DE w (appendK x.d t b)) := by
  obtain ⟨w1, hw1⟩ : ∃ w1, w1 = (w.alloc (.cells x.cs 32)).alloc (.cells #[.slice none 0 0, .slice none 0 0, .slice none 0 0] 32) := ⟨_, rfl⟩
  have S1 : Sr w w1 x.cs := by rw [hw1]; exact Sr.start x w
  have HG := Lib.hid (refGood_any w.heap.size x w1 (h.below S1.b) S1.b.size hsm)
  have HS1 := Lib.hid S1
  have HFA := Lib.hid (fun W => refFair_any t W ht)
  have HBB := Lib.hid hbs0.upto
  have hbc := hbs0.cap
  have hbm := hbs0.max
  clear hbs0
  clear h S1 hsm
  go_enter Try.func33, Try.ntmps33
  go_wp2_with fail
  rw [← hw1]
  clear hw1
  refine HG.out.mono ?_
  rintro e w2 ⟨y, rfl, hy, hry, hb2⟩
  have S2 := HS1.out.below hb2 HS1.out.s
  obtain ⟨q0, q1, q2⟩ := ref_cel3 S2.c0
  obtain ⟨f0, f1, f2⟩ := cel_frs S2.c0
  obtain ⟨w3, hw3⟩ : ∃ w3, w3 = (((w2.setCell ⟨w.heap.size, 0, none⟩ (.slice y.fA y.fn y.fc)).setCell ⟨w.heap.size, 1, none⟩ (.slice y.nA y.nn y.nc)).setCell ⟨w.heap.size, 2, none⟩ (.slice y.kA y.kn y.kc)) := ⟨_, rfl⟩
  have S3 : Sr w w3 y.cs := by rw [hw3]; exact S2.put _ _ _
  have hr3 : RdD w.heap.size w3 y := by rw [hw3]; exact hry.below (below_put3 (Below.refl _ _) (Nat.le_refl _) _ _ _)
  have HS3 := Lib.hid S3
  have HR3 := Lib.hid hr3
  have HRD : Hid (RightD y.d) := by show RightD _; rw [hy]; exact good_right _
  have HY := Lib.hid hy
  obtain ⟨zl, zn, zk, zs, zb, zc⟩ := loose_facts HRD.out.2.1 hr3 (by have := HRD.out.1; omega)
  have h20 : y.fn ≤ 20 := by have := HRD.out.1; omega
  have HZB := Lib.hid zb
  have HZC := Lib.hid zc
  have HZS := Lib.hid zs
  have HZL := Lib.hid zl
  have hyfc := hr3.f.cap
  have hyfm := hr3.f.max
  clear hry hb2 S2 S3 hr3 hy zb zc zs zl HG HS1
  have HFO := Lib.hid (refFind_any w.heap.size y.nA y.nn y.nc y.now t w3 HR3.out.n)
  by_cases hfu : FairN t
  rotate_left
  · have H : Hid (appendK x.d t b = (y.d, 1)) := by
      show _ = _
      unfold appendK appendG
      rw [← HY.out]
      exact if_neg hfu
    have hfa := HFA.out w3
    rw [decide_eq_false hfu] at hfa
    have HFB := Lib.hid hfa
    obtain ⟨p0, p1, p2⟩ := ref_cel3 HS3.out.c0
    clear hfa hfu HFA HFO
    go_wp2_with fail
    rw [← hw3]
    clear hw3 q0 q1 q2 f0 f1 f2
    refine HFB.out.mono ?_
    rintro e w4 ⟨rfl, rfl⟩
    obtain ⟨t0, t1, t2⟩ := ref_cel3 HS3.out.c1
    obtain ⟨g0, g1, g2⟩ := cel_frs HS3.out.c1
    go_wp2
    (try simp only [Exit.inBlock, Exit.then])
    refine bodyPost_ret (ret_rdisk2 rfl _ _ (w.heap.size + 1) y.cs rfl (cel_put3 HS3.out.c1) rfl) rfl ?_
    exact ⟨y, by rw [H.out]; rfl, by rw [H.out], HS3.out.rd HR3.out HS3.out.b.size _ _ _, HS3.out.out _ _ _⟩
  have hfa := HFA.out w3
  rw [decide_eq_true hfu] at hfa
  have HFB := Lib.hid hfa
  have HAG : Hid (appendK x.d t b = match findE y.d.now t with
    | none => if 20 ≤ y.d.fs.length ∨ 20000 < b.length then (y.d, 3) else (orderedD (newD y.d t b), 0)
    | some f => if 20000 < (fileAt y.d f).d.length + b.length then (y.d, 3) else (setD y.d f ⟨(fileAt y.d f).d ++ b, (fileAt y.d f).s⟩, 0)) := by
    show _ = _
    unfold appendK appendG
    rw [← HY.out]
    exact if_pos hfu
  have HFU := Lib.hid hfu
  obtain ⟨p0, p1, p2⟩ := ref_cel3 HS3.out.c0
  clear hfa hfu HFA
  go_wp2_with fail
  rw [← hw3]
  clear hw3 q0 q1 q2 f0 f1 f2
  refine HFB.out.mono ?_
  rintro e w4 ⟨rfl, rfl⟩
  go_wp2_with fail
  refine HFO.out.mono ?_
  rintro e w4 ⟨rfl, rfl⟩
  clear HFO HFB
  cases hf : findE y.now t with
  | none =>
    rw [fiV_none]
    have HA2 : Hid (appendK x.d t b = if 20 ≤ y.d.fs.length ∨ 20000 < b.length then (y.d, 3) else (orderedD (newD y.d t b), 0)) := by show _ = _; rw [HAG.out, show findE y.d.now t = none from hf]
    by_cases h20b : 20 ≤ y.fn
    · have H : Hid (appendK x.d t b = (y.d, 3)) := by show _ = _; rw [HA2.out, if_pos (.inl (by have := HZL.out; omega))]
      have hge : (20 : Int) ≤ (y.fn : Int) := by omega
      clear hf HAG HA2
      obtain ⟨t0, t1, t2⟩ := ref_cel3 HS3.out.c1
      obtain ⟨g0, g1, g2⟩ := cel_frs HS3.out.c1
      go_wp2
      (try simp only [Exit.inBlock, Exit.then])
      refine bodyPost_ret (ret_rdisk2 rfl _ _ (w.heap.size + 1) y.cs rfl (cel_put3 HS3.out.c1) rfl) rfl ?_
      exact ⟨y, by rw [H.out]; rfl, by rw [H.out], HS3.out.rd HR3.out HS3.out.b.size _ _ _, HS3.out.out _ _ _⟩
    have hlt20 : ¬ (20 : Int) ≤ (y.fn : Int) := by omega
    by_cases hbig : 20000 < b.length
    · have H : Hid (appendK x.d t b = (y.d, 3)) := by show _ = _; rw [HA2.out, if_pos (.inr hbig)]
      have hge : (20000 : Int) < ((b.length : Nat) : Int) := by omega
      clear hf HAG HA2
      obtain ⟨t0, t1, t2⟩ := ref_cel3 HS3.out.c1
      obtain ⟨g0, g1, g2⟩ := cel_frs HS3.out.c1
      go_wp2
      (try simp only [Exit.inBlock, Exit.then])
      refine bodyPost_ret (ret_rdisk2 rfl _ _ (w.heap.size + 1) y.cs rfl (cel_put3 HS3.out.c1) rfl) rfl ?_
      exact ⟨y, by rw [H.out]; rfl, by rw [H.out], HS3.out.rd HR3.out HS3.out.b.size _ _ _, HS3.out.out _ _ _⟩
    have hnbig : ¬ (20000 : Int) < ((b.length : Nat) : Int) := by omega
    have H : Hid (appendK x.d t b = (orderedD (newD y.d t b), 0)) := by show _ = _; rw [HA2.out, if_neg (by have := HZL.out; omega)]
    have HLN : Hid (Loose (newD y.d t b)) := new_loose HRD.out HFU.out (show findE y.d.now t = none from hf) (by omega)
    have HWI : Hid (∀ W, Below w3.heap.size w3 W → Calls Try.prog 69 #[.slice y.nA y.nn y.nc, .string (ba t), .int .i64 (y.fn : Int)] W (EnR W (withE y.now t (y.fn : Int)))) := fun W hW => refWith_any y.nA y.nn y.nc y.now t (y.fn : Int) W ((HR3.out.n.below (hW.mono HS3.out.b.size)).mono (Nat.le_trans HS3.out.b.size hW.size)) (by omega)
    have K : Hid (∀ W, Below w3.heap.size w3 W → W.cell? ⟨w.heap.size, 0, none⟩ = some (.slice y.fA y.fn y.fc) ∧ W.cell? ⟨w.heap.size, 1, none⟩ = some (.slice y.nA y.nn y.nc) ∧ W.cell? ⟨w.heap.size, 2, none⟩ = some (.slice y.kA y.kn y.kc)) := fun W hW => ref_cel3 (HS3.out.c0.below hW (by have := HS3.out.s; omega))
    clear hf HAG HA2
    go_wp2_with fail
    go_cut [9] from 33 to 42 (fun v wx => ∃ (g : Nat) (A5 : Option Addr) (n5 c5 : Nat), v = .pointer (some ⟨g, 0, none⟩) ∧ Hid (Cel wx g 32 #[.slice none 0 0, .slice A5 n5 c5, .slice y.kA y.kn y.kc]) ∧ Hid (w3.heap.size ≤ g) ∧ Hid (Below w3.heap.size w3 wx) ∧ Hid (RdE wx.heap.size wx A5 n5 c5 (withE y.now t (y.fn : Int))))
    case first =>
      go_region_held3 (fun W => W.cell? ⟨w.heap.size, 0, none⟩ = some (.slice y.fA y.fn y.fc) ∧ W.cell? ⟨w.heap.size, 1, none⟩ = some (.slice y.nA y.nn y.nc) ∧ W.cell? ⟨w.heap.size, 2, none⟩ = some (.slice y.kA y.kn y.kc))
        (first
          | exact K.out _ (Below.refl _ _)
          | exact K.out _ (Below.refl _ _).drew
          | exact K.out _ hb35
          | exact K.out _ (hb35.alloc hb35.size _)
          | exact K.out _ ((Below.refl _ _).alloc (Nat.le_refl _) _)
          | exact K.out _ (below_put3 hb35 (Nat.le_refl _) _ _ _)
          | exact K.out _ ((Below.refl _ _).alloc (Nat.le_refl _) _).drew)
        (first
          | (go_simp; go_at_call 69; (with_reducible refine (HWI.out _ ((Below.refl _ _).drew)).mono ?_); rintro ee w5 ⟨A5, n5, c5, rfl, hown5, hb5⟩; have hb35 : Below w3.heap.size w3 w5 := below_undrew hb5)
          | (go_simp; go_at_call 69; (with_reducible refine (HWI.out _ (((Below.refl _ _).alloc (Nat.le_refl _) _).drew)).mono ?_); rintro ee w5 ⟨A5, n5, c5, rfl, hown5, hb5⟩; have hb35 : Below w3.heap.size w3 w5 := (((Below.refl _ _).alloc (Nat.le_refl _) _).drew).trans (hb5.mono (by simp)); have hcg : Cel w5 w3.heap.size 32 #[.slice none 0 0, .slice none 0 0, .slice none 0 0] := (show Cel ((w3.alloc (.cells #[.slice none 0 0, .slice none 0 0, .slice none 0 0] 32)).drew) w3.heap.size 32 #[.slice none 0 0, .slice none 0 0, .slice none 0 0] from Cel.born w3 _ _).below hb5 (by simp); obtain ⟨j0, j1, j2⟩ := ref_cel3 hcg; obtain ⟨l0, l1, l2⟩ := cel_frs hcg))
      all_goals (
        go_wp2_with fail
        go_meet
        first
          | (have hq := hcg; exact ⟨w3.heap.size, A5, n5, c5, rfl, Lib.hid (cel_put3 hcg), Lib.hid (Nat.le_refl _), Lib.hid (below_put3 hb35 (Nat.le_refl _) _ _ _), Lib.hid ((rdg_away (fun _ => ⟨0, _, rfl, rfl⟩) hown5.rd hcg sl3 (put3_cell _ _ _ _ _)).mono (by simp))⟩)
          | exact ⟨w5.heap.size, A5, n5, c5, rfl, Lib.hid (Cel.born _ _ _), Lib.hid hb35.size, Lib.hid (hb35.alloc hb35.size _), Lib.hid ((hown5.rd.below (alloc_more _ _)).mono (by simp))⟩)
    case rest =>
    obtain ⟨g, A5, n5, c5, rfl, HCG, HGE, HB5, HE5⟩ := hcut
    obtain ⟨w5, hw5⟩ : ∃ q, q = wc := ⟨_, rfl⟩
    subst hw5
    have hs3 := HS3.out.s
    have hge := HGE.out
    have hs5 := HB5.out.size
    have hg5 : g < w5.heap.size := HCG.out.lt
    have HYD : Hid ((⟨fsOf (y.xs ++ [(⟨B, d, b, 0⟩ : Fv)]), withE y.now t (y.fn : Int), y.kept⟩ : D) = newD y.d t b) := by
      show _ = _
      unfold newD
      rw [show y.d.fs.length = y.fn from HZL.out.symm]
      show D.mk ((y.xs ++ [(⟨B, d, b, 0⟩ : Fv)]).map Fv.f) _ _ = D.mk (y.xs.map Fv.f ++ [⟨b, 0⟩]) _ _
      rw [List.map_append]
      rfl
    obtain ⟨r0, r1, r2⟩ := K.out w5 HB5.out
    have hl0 := OwnG.lit0 (Y := layF) 66 w5
    have hal0 := alloc_more w5 (.cells #[] 66)
    have hF0 : RdG layF w.heap.size (w5.alloc (.cells #[] 66)) y.fA y.fn y.fc y.xs := HR3.out.f.1.below ((HB5.out.mono (by omega)).trans (hal0.mono (by omega)))
    have hw5l : w.heap.size < w5.heap.size := by omega
    have hz0 := hal0.size
    clear HWI K
    go_wp2_with (first
      | (at_builtin; refine wpList_appG rfilP (by decide) (by decide) (by kernel_rfl) rfl (.tmp 43) (.tmp 45) rfl rfl hl0 rfl hF0 (by omega) hz0 ?_; intro A6 c6 w6 happ6; have ho6 := happ6.1; simp only [Nat.zero_add, List.nil_append] at ho6; have hb56 : Below w5.heap.size w5 w6 := hal0.trans happ6.2.1; have hlit6 := litF 66 w6 ⟨B, d, b, 0⟩; have hba6 := alloc_more w6 (.cells #[.slice B b.length d, .int .i64 0] 66); have hz6 : w5.heap.size ≤ (w6.alloc (.cells #[.slice B b.length d, .int .i64 0] 66)).heap.size := Nat.le_trans hb56.size hba6.size)
      | (at_builtin; refine wpList_appG rfilP (by decide) (by decide) (by kernel_rfl) rfl (.tmp 46) (.tmp 49) rfl rfl (ho6.below hba6) rfl hlit6 (by omega) hz6 ?_; intro A7 c7 w7 happ7; have hb57 : Below w5.heap.size w5 w7 := hb56.trans ((hba6.mono hb56.size).trans happ7.2.1); have hcg7 := HCG.out.below hb57 hg5; obtain ⟨u0, u1, u2⟩ := ref_cel3 hcg7; have v0 := cel_fr hcg7 0; have hcg8 : Cel (w7.setCell ⟨g, 0, none⟩ (.slice A7 (y.fn + 1) c7)) g 32 #[.slice A7 (y.fn + 1) c7, .slice A5 n5 c5, .slice y.kA y.kn y.kc] := cel_put hcg7 0 _; obtain ⟨s0, s1, s2⟩ := ref_cel3 hcg8))
    obtain ⟨w8, hw8⟩ : ∃ w8, w8 = w7.setCell ⟨g, 0, none⟩ (.slice A7 (y.fn + 1) c7) := ⟨_, rfl⟩
    have hb37 : Below w3.heap.size w3 w7 := HB5.out.trans (hb57.mono hs5)
    have hb38 : Below w3.heap.size w3 w8 := by rw [hw8]; exact hb37.setCell (p := ⟨g, 0, none⟩) hge _
    have HS8 : Hid (Sr w w8 y.cs) := HS3.out.below hb38 hs3
    have hr8 : RdD w8.heap.size w8 ⟨A7, y.fn + 1, c7, y.xs ++ [⟨B, d, b, 0⟩], A5, n5, c5, withE y.now t (y.fn : Int), y.kA, y.kn, y.kc, y.kept⟩ := by
      have hbw : Below w.heap.size w3 w8 := hb38.mono HS3.out.b.size
      refine ⟨⟨?_, fun u hu => ?_⟩, ?_, (HR3.out.k.below hbw).mono HS8.out.b.size⟩
      · rw [show w8.heap.size = w7.heap.size by rw [hw8]; simp, hw8]
        exact rdg_away (fun _ => ⟨1, _, rfl, rfl⟩) happ7.1.rd hcg7 sl3 (cell_put1 _ _ _ _)
      · rcases List.mem_append.1 hu with q | q
        · exact bsu_mono ((HR3.out.f.below hbw).2 u q) HS8.out.b.size
        · rw [List.mem_singleton.1 q]
          exact bsu_mono (HBB.out.below HS8.out.b) HS8.out.b.size
      · rw [show w8.heap.size = w7.heap.size by rw [hw8]; simp, hw8]
        exact rdg_away (fun _ => ⟨0, _, rfl, rfl⟩) ((HE5.out.below hb57).mono hb57.size) hcg7 sl3 (cell_put1 _ _ _ _)
    have hL8 : Loose (⟨A7, y.fn + 1, c7, y.xs ++ [⟨B, d, b, 0⟩], A5, n5, c5, withE y.now t (y.fn : Int), y.kA, y.kn, y.kc, y.kept⟩ : Dv).d := by
      have e : (⟨A7, y.fn + 1, c7, y.xs ++ [⟨B, d, b, 0⟩], A5, n5, c5, withE y.now t (y.fn : Int), y.kA, y.kn, y.kc, y.kept⟩ : Dv).d = newD y.d t b := HYD.out
      rw [e]
      exact HLN.out
    have hlen8 : (withE y.now t (y.fn : Int)).length + y.kept.length ≤ 1000 := by
      have h1 := withE_len y.now t (y.fn : Int)
      have h2 := HR3.out.k.len
      have h3 := HR3.out.n.len
      omega
    have hcall := refOrdered_any ⟨A7, y.fn + 1, c7, y.xs ++ [⟨B, d, b, 0⟩], A5, n5, c5, withE y.now t (y.fn : Int), y.kA, y.kn, y.kc, y.kept⟩ w8 hr8 (came_all hL8 hr8) hlen8
    have HCALL := Lib.hid hcall
    have hs8 := HS8.out.s
    clear hcall hL8 hr8 happ6 ho6 hlit6 hba6 happ7 hb57 hb37 hcg7 hcg8 hl0 hal0 hF0 hb56
    rw [← hw8]
    clear hw8 u0 u1 u2 v0 s0 s1 s2 r0 r1 r2
    refine HCALL.out.mono ?_
    rintro e w9 ⟨z, rfl, hz, hrz, hb9⟩
    have S9 := HS8.out.below hb9 hs8
    obtain ⟨t0, t1, t2⟩ := ref_cel3 S9.c1
    obtain ⟨g0, g1, g2⟩ := cel_frs S9.c1
    have HS9 := Lib.hid S9
    have HRZ := Lib.hid hrz
    have HZ := Lib.hid hz
    clear S9 hrz hz hb9
    go_wp2
    (try simp only [Exit.inBlock, Exit.then])
    refine bodyPost_ret (ret_rdisk2 rfl _ _ (w.heap.size + 1) z.cs rfl (cel_put3 HS9.out.c1) rfl) rfl ?_
    have HYE : Hid ((⟨A7, y.fn + 1, c7, y.xs ++ [⟨B, d, b, 0⟩], A5, n5, c5, withE y.now t (y.fn : Int), y.kA, y.kn, y.kc, y.kept⟩ : Dv).d = newD y.d t b) := HYD.out
    exact ⟨z, by rw [H.out]; rfl, by rw [H.out, ← HYE.out]; exact HZ.out, HS9.out.rd HRZ.out (Nat.le_refl _) _ _ _, HS9.out.out _ _ _⟩
  | some f =>
    obtain ⟨g0, g1⟩ := find_range HRD.out (show findE y.d.now t = some f from hf)
    obtain ⟨k, rfl⟩ := Int.eq_ofNat_of_zero_le g0
    have hkl : k < y.fn := by have := HZL.out; omega
    rw [fiV_some]
    obtain ⟨bo, o, v, eA, hbo, HE, hbs, d1, d2⟩ := atF HR3.out.f hkl
    have HV4 : Hid (fileAt y.d (k : Int) = v.f) := fileAt_get (by omega) (by simpa using HE.out)
    have hvl : v.l.length ≤ 20000 := HZB.out v (List.mem_of_getElem? HE.out)
    have eA2 := Lib.hid eA
    have hlen : (fileAt y.d (k : Int)).d.length = v.l.length := by rw [HV4.out]; rfl
    rw [eA] at p0
    have hk0 : (0 : Int) ≤ (k : Int) := by omega
    have hkz : (k : Int) < (y.fn : Int) := by omega
    have hs3 := HS3.out.s
    have hvc := hbs.bs.cap
    have hvm := hbs.bs.max
    have HCM : Hid (appendK x.d t b = if 20000 < v.l.length + b.length then (y.d, 3) else (setD y.d (k : Int) ⟨v.l ++ b, v.s⟩, 0)) := by
      show _ = _
      rw [HAG.out, show findE y.d.now t = some (k : Int) from hf]
      simp only
      rw [HV4.out]
      rfl
    obtain ⟨w5, hw5⟩ : ∃ w5, w5 = w3.alloc (.cells #[.slice v.A v.l.length v.c, .int .i64 v.s] 66) := ⟨_, rfl⟩
    have hb35 : Below w3.heap.size w3 w5 := by rw [hw5]; exact alloc_more _ _
    have hcg : Cel w5 w3.heap.size 66 #[.slice v.A v.l.length v.c, .int .i64 v.s] := by rw [hw5]; exact Cel.born _ _ _
    have HS5 := Lib.hid (HS3.out.below hb35 hs3)
    have HR5 := Lib.hid (HR3.out.below (hb35.mono HS3.out.b.size))
    have HCG := Lib.hid hcg
    have HBV := Lib.hid (hbs.below (hb35.mono HS3.out.b.size))
    have HB35 := Lib.hid hb35
    have hbl2 : b.length ≤ 9223372036854775807 := by omega
    obtain ⟨j0, j1⟩ := cel2 hcg
    obtain ⟨r0, r1, r2⟩ := ref_cel3 HS5.out.c0
    rw [hw5] at j0 j1 r0 r1 r2
    rw [eA] at r0
    clear HAG hf HE hbs hlen g0 g1 hcg hb35
    by_cases hbig : 20000 < v.l.length + b.length
    · have H : Hid (appendK x.d t b = (y.d, 3)) := by show _ = _; rw [HCM.out, if_pos hbig]
      have hbz : (20000 : Int) < ((v.l.length : Nat) : Int) + ((b.length : Nat) : Int) := by omega
      obtain ⟨t0, t1, t2⟩ := ref_cel3 HS5.out.c1
      obtain ⟨u0, u1, u2⟩ := cel_frs HS5.out.c1
      rw [hw5] at t0 t1 t2 u0 u1 u2
      clear eA
      go_wp2
      rw [← hw5]
      (try simp only [Exit.inBlock, Exit.then])
      refine bodyPost_ret (ret_rdisk2 rfl _ _ (w.heap.size + 1) #[.slice (some ⟨bo, o, none⟩) y.fn y.fc, .slice y.nA y.nn y.nc, .slice y.kA y.kn y.kc] rfl (cel_put3 HS5.out.c1) rfl) rfl ?_
      exact ⟨y, by rw [H.out, eA2.out]; rfl, by rw [H.out], HS5.out.rd HR5.out HS5.out.b.size _ _ _, HS5.out.out _ _ _⟩
    have hnbz : ¬ (20000 : Int) < ((v.l.length : Nat) : Int) + ((b.length : Nat) : Int) := by omega
    have H : Hid (appendK x.d t b = (setD y.d (k : Int) ⟨v.l ++ b, v.s⟩, 0)) := by show _ = _; rw [HCM.out, if_neg hbig]
    have hs5 := HS5.out.s
    have hsz5 : w.heap.size + 2 ≤ w5.heap.size := hs5
    have KK : Hid (∀ W, Below w5.heap.size w5 W → W.cell? ⟨w.heap.size, 0, none⟩ = some (.slice (some ⟨bo, o, none⟩) y.fn y.fc) ∧ W.cell? ⟨w.heap.size, 1, none⟩ = some (.slice y.nA y.nn y.nc) ∧ W.cell? ⟨w.heap.size, 2, none⟩ = some (.slice y.kA y.kn y.kc) ∧ W.cell? ⟨w3.heap.size, 0, none⟩ = some (.slice v.A v.l.length v.c) ∧ W.cell? ⟨w3.heap.size, 1, none⟩ = some (.int .i64 v.s)) := fun W hW => by
      obtain ⟨a0, a1, a2⟩ := ref_cel3 (HS5.out.c0.below hW (by omega))
      obtain ⟨c0, c1⟩ := cel2 (HCG.out.below hW HCG.out.lt)
      rw [eA] at a0
      exact ⟨a0, a1, a2, c0, c1⟩
    have hw32 := HS3.out.s
    have KP : Hid (∀ (W : World) (a' b' c' : Value), (W.cell? ⟨w.heap.size, 0, none⟩ = some (.slice (some ⟨bo, o, none⟩) y.fn y.fc) ∧ W.cell? ⟨w.heap.size, 1, none⟩ = some (.slice y.nA y.nn y.nc) ∧ W.cell? ⟨w.heap.size, 2, none⟩ = some (.slice y.kA y.kn y.kc) ∧ W.cell? ⟨w3.heap.size, 0, none⟩ = some (.slice v.A v.l.length v.c) ∧ W.cell? ⟨w3.heap.size, 1, none⟩ = some (.int .i64 v.s)) → ((((W.setCell ⟨w.heap.size + 1, 0, none⟩ a').setCell ⟨w.heap.size + 1, 1, none⟩ b').setCell ⟨w.heap.size + 1, 2, none⟩ c').cell? ⟨w.heap.size, 0, none⟩ = some (.slice (some ⟨bo, o, none⟩) y.fn y.fc) ∧ (((W.setCell ⟨w.heap.size + 1, 0, none⟩ a').setCell ⟨w.heap.size + 1, 1, none⟩ b').setCell ⟨w.heap.size + 1, 2, none⟩ c').cell? ⟨w.heap.size, 1, none⟩ = some (.slice y.nA y.nn y.nc) ∧ (((W.setCell ⟨w.heap.size + 1, 0, none⟩ a').setCell ⟨w.heap.size + 1, 1, none⟩ b').setCell ⟨w.heap.size + 1, 2, none⟩ c').cell? ⟨w.heap.size, 2, none⟩ = some (.slice y.kA y.kn y.kc) ∧ (((W.setCell ⟨w.heap.size + 1, 0, none⟩ a').setCell ⟨w.heap.size + 1, 1, none⟩ b').setCell ⟨w.heap.size + 1, 2, none⟩ c').cell? ⟨w3.heap.size, 0, none⟩ = some (.slice v.A v.l.length v.c) ∧ (((W.setCell ⟨w.heap.size + 1, 0, none⟩ a').setCell ⟨w.heap.size + 1, 1, none⟩ b').setCell ⟨w.heap.size + 1, 2, none⟩ c').cell? ⟨w3.heap.size, 1, none⟩ = some (.int .i64 v.s))) := fun W a' b' c' hS => ⟨(cell_put3 W _ a' b' c' _ (by show w.heap.size ≠ _; omega)).trans hS.1, (cell_put3 W _ a' b' c' _ (by show w.heap.size ≠ _; omega)).trans hS.2.1, (cell_put3 W _ a' b' c' _ (by show w.heap.size ≠ _; omega)).trans hS.2.2.1, (cell_put3 W _ a' b' c' _ (by show w3.heap.size ≠ _; omega)).trans hS.2.2.2.1, (cell_put3 W _ a' b' c' _ (by show w3.heap.size ≠ _; omega)).trans hS.2.2.2.2⟩
    have HSET : Hid (∀ W A c, Below w5.heap.size w5 W → Bs W A (v.l.length + b.length) c (v.l ++ b) → Calls Try.prog 71 #[.agg #[.slice (some ⟨bo, o, none⟩) y.fn y.fc, .slice y.nA y.nn y.nc, .slice y.kA y.kn y.kc], .int .i64 (k : Int), .agg #[.slice A (v.l.length + b.length) c, .int .i64 v.s]] W (DR W (fun v => v) (setD y.d (k : Int) ⟨v.l ++ b, v.s⟩))) := fun W A c hW hbw => by
      have hl : (v.l ++ b).length = v.l.length + b.length := List.length_append
      have := refSet_any y k ⟨A, c, v.l ++ b, v.s⟩ W ((HR5.out.below (hW.mono HS5.out.b.size)).mono (Nat.le_trans HS5.out.b.size hW.size)) (by show BsU _ _ A (v.l ++ b).length c (v.l ++ b); rw [hl]; exact hbw.upto) hkl (by omega)
      rw [show (⟨A, c, v.l ++ b, v.s⟩ : Fv).l.length = v.l.length + b.length from hl] at this
      rw [show y.v = .agg #[.slice (some ⟨bo, o, none⟩) y.fn y.fc, .slice y.nA y.nn y.nc, .slice y.kA y.kn y.kc] by rw [← eA]] at this
      exact this
    have hl0 := Own.lit0 5 w5.drew
    have hal0 : Below w5.heap.size w5 (w5.drew.alloc (.cells #[] 5)) := (Below.refl _ _).drew.alloc (Nat.le_refl _) _
    have HBc := Lib.hid ((HBV.out.below (hal0.mono (by omega))).bs)
    have HBq : Hid (∀ W, Below w5.heap.size w5 W → Bs W B b.length d b) := fun W hW => (HBB.out.below (HS5.out.b.trans (hW.mono HS5.out.b.size))).bs
    clear eA HCM hbig
    go_wp2_with fail
    rw [← hw5]
    clear hw5 r0 r1 r2 j0 j1 p0 p1 p2
    go_region_held3 (fun W => W.cell? ⟨w.heap.size, 0, none⟩ = some (.slice (some ⟨bo, o, none⟩) y.fn y.fc) ∧ W.cell? ⟨w.heap.size, 1, none⟩ = some (.slice y.nA y.nn y.nc) ∧ W.cell? ⟨w.heap.size, 2, none⟩ = some (.slice y.kA y.kn y.kc) ∧ W.cell? ⟨w3.heap.size, 0, none⟩ = some (.slice v.A v.l.length v.c) ∧ W.cell? ⟨w3.heap.size, 1, none⟩ = some (.int .i64 v.s))
      (first
        | exact KK.out _ (Below.refl _ _)
        | exact KK.out _ (Below.refl _ _).drew
        | exact KK.out _ hal0
        | exact KK.out _ hb9'
        | exact KK.out _ hb10'
        | exact KK.out _ hb9u
        | exact KP.out _ _ _ _ (KK.out _ hb9u))
      (first
        | (refine step_appE byP (by rfl) (.tmp 69) (.tmp 71) (by rfl) (by rfl) hl0 (by rfl) HBc.out (by omega) (by exact hal0.size) ?_; intro A9 c9 wq9 hown9 hb9 hgr9; simp only [List.nil_append] at hown9; have hown9r := hown9; simp only [Nat.zero_add] at hown9; have hb9' : Below w5.heap.size w5 wq9 := hal0.trans (hb9.mono (Nat.le_refl _)); obtain ⟨k0, k1, k2, k3, k4⟩ := KK.out wq9 hb9'; have hbq9 := HBq.out wq9 hb9')
        | (refine step_appE byP (by rfl) (.tmp 72) (.tmp 73) (by rfl) (by rfl) hown9 (by rfl) hbq9 (by omega) (by exact hb9'.size) ?_; intro A10 c10 w10 hown10 hb10 hgr10; have hb10' : Below w5.heap.size w5 w10 := hb9'.trans (hb10.mono (Nat.le_refl _)); obtain ⟨m0, m1, m2, m3, m4⟩ := KK.out w10 hb10')
        | (refine step_appE byP (by rfl) (.tmp 72) (.tmp 73) (by rfl) (by rfl) hown9r (by rfl) hbq9 (by omega) (by exact hb9'.size) ?_; intro A10 c10 w10 hown10 hb10 hgr10; simp only [Nat.zero_add] at hown10; have hb10' : Below w5.heap.size w5 w10 := hb9'.trans (hb10.mono (Nat.le_refl _)); obtain ⟨m0, m1, m2, m3, m4⟩ := KK.out w10 hb10')
        | (go_simp; go_at_call 71; refine (HSET.out _ _ _ hb10' hown10.bs).mono ?_; rintro ee w9 ⟨z, rfl, hz, hrz, hb9z⟩; have hb9u := hb10'.trans (hb9z.mono hb10'.size); have S9 := HS5.out.below hb9u hs5; obtain ⟨t0, t1, t2⟩ := ref_cel3 S9.c1; obtain ⟨u0, u1, u2⟩ := cel_frs S9.c1))
    all_goals (
      have HS9 := Lib.hid S9
      have HRZ := Lib.hid hrz
      have HZ := Lib.hid hz
      clear S9 hrz hz
      go_wp2
      (try simp only [Exit.inBlock, Exit.then])
      refine bodyPost_ret (ret_rdisk2 rfl _ _ (w.heap.size + 1) z.cs rfl (cel_put3 HS9.out.c1) rfl) rfl ?_
      exact ⟨z, by rw [H.out]; rfl, by rw [H.out]; exact HZ.out, HS9.out.rd HRZ.out (Nat.le_refl _) _ _ _, HS9.out.out _ _ _⟩)
end Go.Proofs.Ytoifdjpflannlaa.Dw
