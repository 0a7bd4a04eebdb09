/- What alloc.May and alloc.Choose come to. Conditions: the configuration is small and the keys fit (Nd.ok); what is wanted is a number of 64 bits. -/
import Derived.Test.YtpdjdaoclpeffaaGreatXwMath
import Derived.Deep.QuietTactic
set_option maxRecDepth 8000
namespace Go.Proofs.YtpdjdaoclpeffaaGreat.Xw
open Go.RowKit Co By Ky Rc Ew Jw La Tb Lw Cf Al Bw
open Vw (Cx RdPl layP atP FiR AdR KeR isI app1)
open Dw (ba ba_size ba_data ba_list alloc_more)

/-- Memory that has a configuration and a need in two new blocks. -/
theorem boxedT (w : World) (d : Nd) : ∃ w0, w0 = (w.alloc (.cells d.x.cs 24)).alloc (.cells d.cs 44) ∧ Cel w0 (w.heap.size + 1) 44 d.cs ∧ Below w.heap.size w w0 := by
  have hs : (w.alloc (.cells d.x.cs 24)).heap.size = w.heap.size + 1 := by simp
  have c1 := Cel.born (w.alloc (.cells d.x.cs 24)) 44 d.cs
  rw [hs] at c1
  exact ⟨_, rfl, c1, (alloc_more _ _).trans ((alloc_more _ _).mono (alloc_more _ _).size)⟩
set_option maxHeartbeats 4000000 in
theorem May_any (d : Nd) (a : Int) (U : Nat) (w : World) (h : d.ok U w) (hU : U ≤ w.heap.size) :
    Calls Tryz.prog 9 #[d.x.v, .slice d.A d.n d.c, .int .i64 d.net, .string (ba d.k), .int .i64 a, .int .i64 d.now] w (isB (mayA d.x.cf d.l d.net d.k a d.now) w) := by
  obtain ⟨w0, hw0, hcn, hb0⟩ := boxedT w d
  have HR := Lib.hid (right_any d U w0 (h.below (hb0.mono hU)) (Nat.le_trans hU hb0.size))
  have HL := Lib.hid (fun W (hW : Below w.heap.size w W) => leased_any d U W (h.below (hW.mono hU)) (Nat.le_trans hU hW.size))
  have HP := Lib.hid (fun A n c W (hW : Below w.heap.size w W) => permission_any d U A n c W (h.below (hW.mono hU)) (Nat.le_trans hU hW.size))
  have HM := Lib.hid (fun A n c g1 g2 g3 g4 W (hW : Below w.heap.size w W) => may_any d U A n c (heldL d) (keptC d.x.cf d.net d.k).1 (keptC d.x.cf d.net d.k).2 g1 g2 g3 g4 a W (h.below (hW.mono hU)) (Nat.le_trans hU hW.size))
  have HB0 := Lib.hid hb0
  have HCN := Lib.hid hcn
  clear h hU hb0 hcn
  by_cases hf : FairA d.x.cf d.l d.net d.k
  · have HF := Lib.hid (may_eq hf a)
    rw [decide_eq_true hf] at HR
    generalize mayA d.x.cf d.l d.net d.k a d.now = m at HF ⊢
    generalize keptC d.x.cf d.net d.k = u at HF HM HP
    generalize heldL d = hl at HF HM HL
    clear hf
    go_enter Tryz.func9, Tryz.ntmps9
    go_upto_region 2 with fail
    rw [← hw0]
    clear hw0
    obtain ⟨c0, c1, c2, c3, c4, c5, c6⟩ := cel7N HCN.out
    go_wp2_with fail
    refine HR.out.mono ?_
    rintro e w1 ⟨rfl, hb1⟩
    have HB1 := Lib.hid (HB0.out.trans (hb1.mono HB0.out.size))
    have HCN1 := Lib.hid (HCN.out.below hb1 HCN.out.lt)
    clear c0 c1 c2 c3 c4 c5 c6 HCN hb1 HR
    obtain ⟨c0, c1, c2, c3, c4, c5, c6⟩ := cel7N HCN1.out
    go_wp2_with fail
    refine (HL.out _ HB1.out).mono ?_
    rintro e w2 ⟨A1, n1, k1, A2, n2, k2, rfl, ho1, ho2, hb2⟩
    have HB2 := Lib.hid (HB1.out.trans (hb2.mono HB1.out.size))
    have HCN2 := Lib.hid (HCN1.out.below hb2 HCN1.out.lt)
    have HO1 := Lib.hid ho1.rd
    clear c0 c1 c2 c3 c4 c5 c6 HCN1 hb2 HL ho1 ho2
    obtain ⟨c0, c1, c2, c3, c4, c5, c6⟩ := cel7N HCN2.out
    go_wp2_with fail
    refine (HP.out A1 n1 k1 _ HB2.out).mono ?_
    rintro e w3 ⟨gH, gN, gK, gO, rfl, hcH, hcN, hcK, hcO, hb3⟩
    have HB3 := Lib.hid (HB2.out.trans (hb3.mono HB2.out.size))
    have HC := Lib.hid (HM.out A1 n1 k1 gH gN gK gO w3 HB3.out ((HO1.out.below hb3).mono hb3.size) hcH hcN hcK hcO)
    rw [← HF.out, app4] at HC
    clear c0 c1 c2 c3 c4 c5 c6 HCN2 hb3 HP HM HF hcH hcN hcK hcO HO1
    go_wp2_with fail
    refine HC.out.mono ?_
    rintro e w4 ⟨rfl, hb4⟩
    go_wp2
    go_ret
    exact ⟨rfl, HB3.out.trans (hb4.mono HB3.out.size)⟩
  · have HF := Lib.hid (may_unfair hf a d.now)
    rw [decide_eq_false hf] at HR
    generalize mayA d.x.cf d.l d.net d.k a d.now = m at HF ⊢
    clear hf
    go_enter Tryz.func9, Tryz.ntmps9
    go_upto_region 2 with fail
    rw [← hw0]
    clear hw0
    obtain ⟨c0, c1, c2, c3, c4, c5, c6⟩ := cel7N HCN.out
    go_wp2_with fail
    refine HR.out.mono ?_
    rintro e w1 ⟨rfl, hb1⟩
    go_wp2
    go_ret
    exact ⟨ret_bool HF.out.symm, HB0.out.trans (hb1.mono HB0.out.size)⟩
set_option maxHeartbeats 8000000 in
theorem Choose_any (d : Nd) (want : Int) (U : Nat) (w : World) (h : d.ok U w) (hU : U ≤ w.heap.size) (hw1 : -9223372036854775808 ≤ want) (hw2 : want ≤ 9223372036854775807) :
    Calls Tryz.prog 11 #[d.x.v, .slice d.A d.n d.c, .int .i64 d.net, .string (ba d.k), .int .i64 want, .int .i64 d.now] w (AdR (chooseA d.x.cf d.l d.net d.k want d.now) w) := by
  obtain ⟨w0, hw0, hcn, hb0⟩ := boxedT w d
  have HR := Lib.hid (right_any d U w0 (h.below (hb0.mono hU)) (Nat.le_trans hU hb0.size))
  have HB0 := Lib.hid hb0
  have HCN := Lib.hid hcn
  by_cases hf : FairA d.x.cf d.l d.net d.k
  · have HL := Lib.hid (fun W (hW : Below w.heap.size w W) => leased_any d U W (h.below (hW.mono hU)) (Nat.le_trans hU hW.size))
    have HP := Lib.hid (fun A n c W (hW : Below w.heap.size w W) => permission_any d U A n c W (h.below (hW.mono hU)) (Nat.le_trans hU hW.size))
    have HM := Lib.hid (fun x A n c g1 g2 g3 g4 W (hW : Below w.heap.size w W) => may_any d U A n c (heldL d) (keptC d.x.cf d.net d.k).1 (keptC d.x.cf d.net d.k).2 g1 g2 g3 g4 x W (h.below (hW.mono hU)) (Nat.le_trans hU hW.size))
    obtain ⟨k, hk⟩ : ∃ k : Nat, d.net = (k : Int) := ⟨d.net.toNat, by have := hf.2.2.2.1; omega⟩
    have hkn : k < d.x.n := by have := hf.2.2.2.2; rw [h.x.nets] at this; omega
    have HS := Lib.hid (fun oA on oc W (hW : Below w.heap.size w W) (hr : RdZ W.heap.size W oA on oc (restL d)) hon => sources_any d k U oA on oc (restL d) want W (h.below (hW.mono hU)) (Nat.le_trans hU hW.size) hf.1 hk hkn hr hon)
    have HLN := Lib.hid (held_len d)
    have HLM := Lib.hid (rest_len d)
    rw [decide_eq_true hf] at HR
    by_cases hne : heldL d = []
    · have HF := Lib.hid (choose_rest hf hne want)
      have HOK := Lib.hid (okr_src (c := d.x.cf) (net := d.net) (k := d.k) hw1 hw2 (rest_right hf))
      have HNE := Lib.hid hne
      generalize chooseA d.x.cf d.l d.net d.k want d.now = m at HF ⊢
      generalize srcL d.x.cf d.net d.k (restL d) want = sr at HF HOK HS
      generalize hq : mayB d (heldL d) (keptC d.x.cf d.net d.k).1 (keptC d.x.cf d.net d.k).2 = q at HF HM
      generalize keptC d.x.cf d.net d.k = u at HP HM
      generalize heldL d = hl at HL HM HLN HNE
      generalize restL d = rl at HL HS HLM
      clear hf hne h hU hb0 hcn hq hk hkn
      go_enter Tryz.func11, Tryz.ntmps11
      go_upto_region 2 with fail
      rw [← hw0]
      clear hw0
      obtain ⟨c0, c1, c2, c3, c4, c5, c6⟩ := cel7N HCN.out
      go_wp2_with fail
      refine HR.out.mono ?_
      rintro e w1 ⟨rfl, hb1⟩
      have HB1 := Lib.hid (HB0.out.trans (hb1.mono HB0.out.size))
      have HCN1 := Lib.hid (HCN.out.below hb1 HCN.out.lt)
      clear c0 c1 c2 c3 c4 c5 c6 HCN hb1 HR
      obtain ⟨c0, c1, c2, c3, c4, c5, c6⟩ := cel7N HCN1.out
      go_wp2_with fail
      refine (HL.out _ HB1.out).mono ?_
      rintro e w2 ⟨A1, n1, k1, A2, n2, k2, rfl, ho1, ho2, hb2⟩
      have HB2 := Lib.hid (HB1.out.trans (hb2.mono HB1.out.size))
      have HCN2 := Lib.hid (HCN1.out.below hb2 HCN1.out.lt)
      have hl1 := ho1.len
      have hl2 := ho2.len
      have hn1 : n1 ≤ 64 := by rw [← hl1]; exact HLN.out
      have hn2 : n2 ≤ 64 := by rw [← hl2]; exact HLM.out
      have HO1 := Lib.hid ho1.rd
      have HO2 := Lib.hid ho2.rd
      clear c0 c1 c2 c3 c4 c5 c6 HCN1 hb2 HL ho1 ho2
      obtain ⟨c0, c1, c2, c3, c4, c5, c6⟩ := cel7N HCN2.out
      go_wp2_with fail
      refine (HP.out A1 n1 k1 _ HB2.out).mono ?_
      rintro e w3 ⟨gH, gN, gK, gO, rfl, hcH, hcN, hcK, hcO, hb3⟩
      have HB3 := Lib.hid (HB2.out.trans (hb3.mono HB2.out.size))
      have HCN3 := Lib.hid (HCN2.out.below hb3 HCN2.out.lt)
      have HR1 := Lib.hid ((HO1.out.below hb3).mono hb3.size)
      have HR2 := Lib.hid ((HO2.out.below hb3).mono hb3.size)
      have HC := Lib.hid (fun x W (hW : Below w3.heap.size w3 W) => HM.out x A1 n1 k1 gH gN gK gO W (HB3.out.trans (hW.mono HB3.out.size)) ((HR1.out.below hW).mono hW.size) (hcH.below hW hcH.lt) (hcN.below hW hcN.lt) (hcK.below hW hcK.lt) (hcO.below hW hcO.lt))
      clear c0 c1 c2 c3 c4 c5 c6 HCN2 hb3 HP HM hcH hcN hcK hcO HO1 HO2
      obtain ⟨c0, c1, c2, c3, c4, c5, c6⟩ := cel7N HCN3.out
      have hpos : ¬ ((n1 : Int) > 0) := by
        rw [HNE.out] at hl1
        have : n1 = 0 := hl1.symm
        omega
      have HSG := Lib.hid (HS.out A2 n2 k2 w3 HB3.out HR2.out hn2)
      clear hl1 hl2
      go_wp2_with fail
      refine HSG.out.mono ?_
      rintro e w4 ⟨A4, n4, k4, rfl, hown, hb4⟩
      have HB4 := Lib.hid (HB3.out.trans (hb4.mono HB3.out.size))
      have HTR := Lib.hid (try_any 45 (fun args W => by rfl) #[.pointer (some ⟨gH, 0, none⟩), .pointer (some ⟨gN, 0, none⟩), .pointer (some ⟨gK, 0, none⟩), .pointer (some ⟨gO, 0, none⟩)] q A4 n4 k4 w4.heap.size _ w4 hown.rd (Nat.le_refl _) HOK.out (fun x W hW => HC.out x W (hb4.trans (hW.mono hb4.size))))
      rw [← HF.out] at HTR
      clear c0 c1 c2 c3 c4 c5 c6 HCN3 hown hb4 HC HSG HR1 HR2 HOK HF
      go_wp2_with fail
      refine HTR.out.mono ?_
      rintro e w5 ⟨rfl, hb5⟩
      go_wp2
      go_ret2
      exact ⟨rfl, HB4.out.trans (hb5.mono HB4.out.size)⟩
    · have HF := Lib.hid (choose_held hf hne want)
      have HOK : Hid (∀ p ∈ (heldL d).map sgl, Okr p) := fun p hp => by
        obtain ⟨a, ha, rfl⟩ := List.mem_map.1 hp
        have := held_right hf a ha
        exact okr_sgl (by omega) (by omega)
      have HNE := Lib.hid hne
      generalize chooseA d.x.cf d.l d.net d.k want d.now = m at HF ⊢
      generalize hq : mayB d (heldL d) (keptC d.x.cf d.net d.k).1 (keptC d.x.cf d.net d.k).2 = q at HF HM
      generalize keptC d.x.cf d.net d.k = u at HP HM
      generalize heldL d = hl at HL HM HLN HNE HF HOK
      generalize restL d = rl at HL HLM
      clear hf hne h hU hb0 hcn hq HS hk hkn
      go_enter Tryz.func11, Tryz.ntmps11
      go_upto_region 2 with fail
      rw [← hw0]
      clear hw0
      obtain ⟨c0, c1, c2, c3, c4, c5, c6⟩ := cel7N HCN.out
      go_wp2_with fail
      refine HR.out.mono ?_
      rintro e w1 ⟨rfl, hb1⟩
      have HB1 := Lib.hid (HB0.out.trans (hb1.mono HB0.out.size))
      have HCN1 := Lib.hid (HCN.out.below hb1 HCN.out.lt)
      clear c0 c1 c2 c3 c4 c5 c6 HCN hb1 HR
      obtain ⟨c0, c1, c2, c3, c4, c5, c6⟩ := cel7N HCN1.out
      go_wp2_with fail
      refine (HL.out _ HB1.out).mono ?_
      rintro e w2 ⟨A1, n1, k1, A2, n2, k2, rfl, ho1, ho2, hb2⟩
      have HB2 := Lib.hid (HB1.out.trans (hb2.mono HB1.out.size))
      have HCN2 := Lib.hid (HCN1.out.below hb2 HCN1.out.lt)
      have hl1 := ho1.len
      have hl2 := ho2.len
      have hn1 : n1 ≤ 64 := by rw [← hl1]; exact HLN.out
      have hn2 : n2 ≤ 64 := by rw [← hl2]; exact HLM.out
      have HO1 := Lib.hid ho1.rd
      have HO2 := Lib.hid ho2.rd
      clear c0 c1 c2 c3 c4 c5 c6 HCN1 hb2 HL ho1 ho2
      obtain ⟨c0, c1, c2, c3, c4, c5, c6⟩ := cel7N HCN2.out
      go_wp2_with fail
      refine (HP.out A1 n1 k1 _ HB2.out).mono ?_
      rintro e w3 ⟨gH, gN, gK, gO, rfl, hcH, hcN, hcK, hcO, hb3⟩
      have HB3 := Lib.hid (HB2.out.trans (hb3.mono HB2.out.size))
      have HCN3 := Lib.hid (HCN2.out.below hb3 HCN2.out.lt)
      have HR1 := Lib.hid ((HO1.out.below hb3).mono hb3.size)
      have HR2 := Lib.hid ((HO2.out.below hb3).mono hb3.size)
      have HC := Lib.hid (fun x W (hW : Below w3.heap.size w3 W) => HM.out x A1 n1 k1 gH gN gK gO W (HB3.out.trans (hW.mono HB3.out.size)) ((HR1.out.below hW).mono hW.size) (hcH.below hW hcH.lt) (hcN.below hW hcN.lt) (hcK.below hW hcK.lt) (hcO.below hW hcO.lt))
      clear c0 c1 c2 c3 c4 c5 c6 HCN2 hb3 HP HM hcH hcN hcK hcO HO1 HO2
      obtain ⟨c0, c1, c2, c3, c4, c5, c6⟩ := cel7N HCN3.out
      have hpos : (n1 : Int) > 0 := by
        rcases Nat.eq_zero_or_pos n1 with h0 | h0
        · rw [h0] at hl1
          exact absurd (List.length_eq_zero_iff.1 hl1) HNE.out
        · omega
      have HSG := Lib.hid (singly_any A1 n1 k1 w3.heap.size hl w3 HR1.out (Nat.le_refl _) (by omega))
      clear hl1 hl2
      go_wp2_with fail
      refine HSG.out.mono ?_
      rintro e w4 ⟨A4, k4, rfl, hown, hb4⟩
      have HB4 := Lib.hid (HB3.out.trans (hb4.mono HB3.out.size))
      have HTR := Lib.hid (try_any 45 (fun args W => by rfl) #[.pointer (some ⟨gH, 0, none⟩), .pointer (some ⟨gN, 0, none⟩), .pointer (some ⟨gK, 0, none⟩), .pointer (some ⟨gO, 0, none⟩)] q A4 n1 k4 w4.heap.size _ w4 hown.rd (Nat.le_refl _) HOK.out (fun x W hW => HC.out x W (hb4.trans (hW.mono hb4.size))))
      rw [← HF.out] at HTR
      clear c0 c1 c2 c3 c4 c5 c6 HCN3 hown hb4 HC HSG HR1 HR2 HOK HF
      go_wp2_with fail
      refine HTR.out.mono ?_
      rintro e w5 ⟨rfl, hb5⟩
      go_wp2
      go_ret2
      exact ⟨rfl, HB4.out.trans (hb5.mono HB4.out.size)⟩
  · have HF := Lib.hid (choose_unfair hf want d.now)
    rw [decide_eq_false hf] at HR
    rw [HF.out]
    clear hf h hU hb0 hcn
    go_enter Tryz.func11, Tryz.ntmps11
    go_upto_region 2 with fail
    rw [← hw0]
    clear hw0
    obtain ⟨c0, c1, c2, c3, c4, c5, c6⟩ := cel7N HCN.out
    go_wp2_with fail
    refine HR.out.mono ?_
    rintro e w1 ⟨rfl, hb1⟩
    go_wp2
    go_ret2
    exact ⟨rfl, HB0.out.trans (hb1.mono HB0.out.size)⟩
end Go.Proofs.YtpdjdaoclpeffaaGreat.Xw
