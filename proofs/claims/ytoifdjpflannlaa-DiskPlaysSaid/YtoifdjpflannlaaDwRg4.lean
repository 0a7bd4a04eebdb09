/- What the document's Ordered comes to. For disks of up to 1000 entries. -/
import Derived.Test.YtoifdjpflannlaaDwRg3
import Derived.Deep.RegionLaw
set_option maxRecDepth 8000
namespace Go.Proofs.Ytoifdjpflannlaa.Dw
open Go.RowKit By Dk

/-- The files that numbers stand for, as they lie. -/
def pickF (xs : List Fv) (zs : List Int) : List Fv := zs.map fun z => xs.getD z.toNat ⟨none, 0, [], 0⟩
theorem pick_next {xs : List Fv} {zs : List Int} {k : Nat} {u : Fv} (hk : k < zs.length) (h : xs[(zs[k]).toNat]? = some u) : pickF xs (zs.take (k + 1)) = pickF xs (zs.take k) ++ [u] := by
  rw [List.take_succ_eq_append_getElem hk, pickF, List.map_append]
  show _ ++ [xs.getD (zs[k]).toNat _] = _
  rw [List.getD_eq_getElem?_getD, h]
  rfl
theorem pick_fs (xs : List Fv) (now kept : List E) (zs : List Int) : fsOf (pickF xs zs) = zs.map (fileAt ⟨fsOf xs, now, kept⟩) := by
  unfold pickF fsOf
  rw [List.map_map]
  apply List.map_congr_left
  intro z _
  show (xs.getD z.toNat ⟨none, 0, [], 0⟩).f = (xs.map Fv.f).getD z.toNat ⟨[], 0⟩
  rw [List.getD_eq_getElem?_getD, List.getD_eq_getElem?_getD, List.getElem?_map]
  cases xs[z.toNat]? <;> rfl
theorem pick_mem {xs : List Fv} {zs : List Int} {u : Fv} (hr : ∀ f ∈ zs, 0 ≤ f ∧ f < (xs.length : Int)) (h : u ∈ pickF xs zs) : u ∈ xs := by
  obtain ⟨z, hz, rfl⟩ := List.mem_map.1 h
  have h1 := hr z hz
  have h2 : z.toNat < xs.length := by omega
  rw [List.getD_eq_getElem?_getD, List.getElem?_eq_getElem h2]
  exact List.getElem_mem h2
theorem from_len : ∀ (l acc : List Int), (firstsFrom acc l).length ≤ acc.length + l.length
  | [], acc => by simp [firstsFrom]
  | f :: l, acc => by
    have h1 := from_len l (addF acc f)
    have h2 : (addF acc f).length ≤ acc.length + 1 := by
      unfold addF
      split
      · omega
      · simp
    rw [from_cons, List.length_cons]
    omega
theorem came_length (d : D) : (cameD d).length ≤ d.now.length + d.kept.length := by
  have h := from_len (filesOf (d.now ++ d.kept)) []
  rw [filesOf, List.length_map, List.length_append, List.length_nil, Nat.zero_add] at h
  exact h
def StOd (g : Nat) (w3 : World) (xs : List Fv) (zs : List Int) (m : Nat) (i : Value) (wr : World) : Prop :=
  ∃ (k : Nat) (A1 : Option Addr) (c1 : Nat), k ≤ m ∧ i = .int .i64 k ∧ Cel wr g 32 #[.slice A1 k c1, .slice none 0 0, .slice none 0 0] ∧ OwnG layF 66 (g + 1) wr A1 k c1 (pickF xs (zs.take k)) ∧ Below g w3 wr
set_option maxHeartbeats 20000000 in
theorem refOrdered_any (x : Dv) (w : World) (h : RdD w.heap.size w x) (hin : ∀ f ∈ cameD x.d, 0 ≤ f ∧ f < (x.fn : Int)) (hn : x.now.length + x.kept.length ≤ 1000) :
    Calls Try.prog 70 #[x.v] w (DR w (fun v => v) (orderedD x.d)) := by
  obtain ⟨w1, hw1⟩ : ∃ w1, w1 = (w.alloc (.cells x.cs 32)).alloc (.cells #[.slice none 0 0, .slice none 0 0, .slice none 0 0] 32) := ⟨_, rfl⟩
  have hb1 : Below w.heap.size w w1 := by rw [hw1]; exact (alloc_more _ _).alloc (by simp) _
  have hs1 : w1.heap.size = w.heap.size + 2 := by rw [hw1]; simp
  have HC0 := Lib.hid (show Cel w1 w.heap.size 32 x.cs by rw [hw1]; exact (Cel.born w _ _).below (alloc_more _ _) (by simp))
  have HR0 : Hid (Cel w1 (w.heap.size + 1) 32 #[.slice none 0 0, .slice none 0 0, .slice none 0 0]) := by
    show Cel _ _ _ _
    rw [hw1]
    have := Cel.born (w.alloc (.cells x.cs 32)) 32 #[.slice none 0 0, .slice none 0 0, .slice none 0 0]
    simpa using this
  have HCA := Lib.hid (refCame_any x w1 ((h.below hb1).mono hb1.size) hn)
  have hnl := h.n.len
  have hkl := h.k.len
  have hnn : x.nn ≤ 1000 := by omega
  have hkn : x.kn ≤ 1000 := by omega
  have hfc := h.f.cap
  have hfm := h.f.max
  have HXL : Hid (x.xs.length = x.fn) := h.f.len
  have HN : Hid ((cameD x.d).Nodup) := nodup_firsts _
  have HIN := Lib.hid hin
  have HI1 : Hid (∀ e ∈ x.now, e.2 ∈ cameD x.d) := fun e he => now_came (d := x.d) he
  have HI2 : Hid (∀ e ∈ x.kept, e.2 ∈ cameD x.d) := fun e he => kept_came (d := x.d) he
  have HO : Hid (orderedD x.d = ⟨fsOf (pickF x.xs (cameD x.d)), renum x.now (cameD x.d), renum x.kept (cameD x.d)⟩) := by
    show _ = D.mk _ _ _
    rw [pick_fs x.xs x.now x.kept]
    rfl
  have hml : (cameD x.d).length ≤ 1000 := by
    have h1 : (cameD x.d).length ≤ x.now.length + x.kept.length := came_length x.d
    omega
  have HR := Lib.hid h
  have HB1 := Lib.hid hb1
  have HS1 := Lib.hid hs1
  generalize cameD x.d = zs at HCA HN HIN HI1 HI2 HO hml hin
  clear h hb1 hs1 hin hnl hkl hn
  go_enter Try.func70, Try.ntmps70
  go_wp2_with fail
  rw [← hw1]
  clear hw1
  refine HCA.out.mono ?_
  rintro e w2 ⟨lA, ln, lc, rfl, hrl, hb2⟩
  have hln : zs.length = ln := by have := hrl.len; rw [intV_len] at this; exact this
  have hlc := hrl.cap
  have hlm := hrl.max
  have HC2 := Lib.hid (HC0.out.below hb2 HC0.out.lt)
  have HR2 := Lib.hid (HR0.out.below hb2 HR0.out.lt)
  have HB2 := Lib.hid (HB1.out.trans (hb2.mono HB1.out.size))
  have hg2 : w.heap.size + 2 ≤ w2.heap.size := by have := HS1.out; have := hb2.size; omega
  obtain ⟨w3, hw3⟩ : ∃ w3, w3 = w2.alloc (.cells #[.slice none 0 0, .slice none 0 0, .slice none 0 0] 32) := ⟨_, rfl⟩
  have hb3 : Below w2.heap.size w2 w3 := by rw [hw3]; exact alloc_more _ _
  have HG3 := Lib.hid (show Cel w3 w2.heap.size 32 #[.slice none 0 0, .slice none 0 0, .slice none 0 0] by rw [hw3]; exact Cel.born _ _ _)
  have hs3 : w3.heap.size = w2.heap.size + 1 := by rw [hw3]; simp
  have HLL := Lib.hid (hrl.below hb3)
  have HL2 := Lib.hid hrl
  have HB3 := Lib.hid hb3
  have HS3 := Lib.hid hs3
  have HLN := Lib.hid hln
  clear hb2 hrl hb3 hs3 HCA
  go_wp2
  rw [← hw3]
  clear hw3
  go_loopw [5] (fun i wr => StOd w2.heap.size w3 x.xs zs ln i wr) (fun i _ => ln - (intOf i).toNat)
  case atStart => exact ⟨0, none, 0, by omega, rfl, HG3.out, OwnG.nil _ _ _, Below.refl _ _⟩
  case round =>
    obtain ⟨k, A1, c1, hk, rfl, hco, hown, hbw⟩ := hrel
    have hsb : w3.heap.size ≤ wr.heap.size := hbw.size
    have HB23 := Lib.hid (HB3.out.trans hbw)
    have hd := HC2.out.below HB23.out HC2.out.lt
    obtain ⟨d0, d1, d2⟩ := ref_cel3 hd
    obtain ⟨o0, o1, o2⟩ := ref_cel3 hco
    have fo := cel_fr hco 0
    by_cases hlt : k < ln
    · obtain ⟨b2, o2', z, hzk, rfl, hze, g1⟩ := ints_at (HL2.out.below HB23.out) hlt
      have hz := HIN.out z (by rw [← hze]; exact List.getElem_mem hzk)
      obtain ⟨j, rfl⟩ := Int.eq_ofNat_of_zero_le hz.1
      have hj : j < x.fn := by omega
      have hbr := HB2.out.trans (HB23.out.mono HB2.out.size)
      obtain ⟨b, o, v, eA, hbl, HE, hbs, r1, r2⟩ := atF (HR.out.f.below hbr) hj
      rw [eA] at d0
      have HT := Lib.hid (pick_next (xs := x.xs) hzk (u := v) (by rw [hze, Int.toNat_natCast]; exact HE.out))
      have hkz : (k : Int) < (ln : Int) := by omega
      have hjz : (j : Int) < (x.fn : Int) := by omega
      have hlit := litF 66 wr.drew v
      have hal : Below wr.heap.size wr (wr.drew.alloc (.cells #[.slice v.A v.l.length v.c, .int .i64 v.s] 66)) := (Below.refl _ _).drew.alloc (Nat.le_refl _) _
      have HO1 := Lib.hid (hown.below hal)
      have hbr2 : b < wr.heap.size := World.block_lt_of_cell? wr _ r1
      have hbr3 : b2 < wr.heap.size := World.block_lt_of_cell? wr _ g1
      have hgo : w2.heap.size < wr.heap.size := hco.lt
      have hgd : w.heap.size < wr.heap.size := hd.lt
      have hgw : w2.heap.size + 1 ≤ wr.heap.size := by omega
      have HCO := Lib.hid hco
      have hoa : (wr.alloc (.cells #[.slice v.A v.l.length v.c, .int .i64 v.s] 66)).cell? ⟨w2.heap.size, 0, none⟩ = some (.slice A1 k c1) := ((alloc_more wr _).cell (p := ⟨w2.heap.size, 0, none⟩) hgo).trans o0
      clear HE hbs hco hd hown d1 d2 o1 o2 hz hze hzk hbl eA HB23 hbr
      go_wp2_with fail
      go_region_law (first
          | (refine step_appG rfilP (by decide) (by decide) (by kernel_rfl) (by rfl) (.tmp 15) (.tmp 24) (by rfl) (by rfl) HO1.out (by rfl) hlit (by omega) (by simp; omega) ?_; intro A3 c3 w4 happ; have hcw := (HCO.out.below hal HCO.out.lt).grown happ.2.2.1 ((HCO.out.below hal HCO.out.lt).not_row HO1.out.1 (by decide)); obtain ⟨e0, e1, e2⟩ := ref_cel3 hcw; have fe := cel_fr hcw 0))
      all_goals (
        go_wp2
        go_roundw
        case rel =>
          refine ⟨k + 1, A3, c3, by omega, by go_num, cel_put hcw 0 _, by rw [HT.out]; exact ⟨ownsRow_setCell_below happ.1.1 (Nat.lt_succ_self _) _, happ.1.2⟩, (hbw.trans ((hal.mono (by omega)).trans (happ.2.1.mono (by omega)))).setCell (p := ⟨w2.heap.size, 0, none⟩) (Nat.le_refl _) _⟩
        case measure => simp [intOf]; omega)
    · obtain rfl : k = ln := by omega
      rw [List.take_of_length_le (Nat.le_of_eq HLN.out)] at hown
      have hbr := HB2.out.trans (HB23.out.mono HB2.out.size)
      have HBR := Lib.hid hbr
      have HF := Lib.hid hown.rd
      have HCO := Lib.hid hco
      have HD := Lib.hid hd
      have hgo : w2.heap.size < wr.heap.size := hco.lt
      have HE1 := Lib.hid (refRenumbered_any x.nA x.nn x.nc x.now lA k lc zs wr ((HR.out.n.below hbr).mono hbr.size) (HL2.out.below HB23.out) hnn (by omega) HN.out HI1.out)
      clear hown hco hd hbr fo
      go_wp2_with fail
      refine HE1.out.mono ?_
      rintro e w5 ⟨A2, n2, c2, rfl, hown2, hb5⟩
      have hco5 := HCO.out.below hb5 HCO.out.lt
      have hd5 := HD.out.below hb5 HD.out.lt
      obtain ⟨s0, s1, s2⟩ := ref_cel3 hco5
      obtain ⟨t0, t1, t2⟩ := ref_cel3 hd5
      obtain ⟨f0, f1, f2⟩ := cel_frs hco5
      obtain ⟨w6, hw6⟩ : ∃ w6, w6 = w5.setCell ⟨w2.heap.size, 1, none⟩ (.slice A2 n2 c2) := ⟨_, rfl⟩
      have hb26 : Below w2.heap.size w2 w6 := by rw [hw6]; exact (HB23.out.trans (hb5.mono (by omega))).setCell (p := ⟨w2.heap.size, 1, none⟩) (Nat.le_refl _) _
      have hc6 : Cel w6 w2.heap.size 32 #[.slice A1 k c1, .slice A2 n2 c2, .slice none 0 0] := by rw [hw6]; exact cel_put hco5 1 _
      have hs6 : w6.heap.size = w5.heap.size := by rw [hw6]; simp
      have hff6 : RdG layF w6.heap.size w6 A1 k c1 (pickF x.xs zs) := by
        rw [hs6]
        have h1 := (HF.out.below hb5).mono hb5.size
        rw [hw6]
        exact rdg_away (fun _ => ⟨1, _, rfl, rfl⟩) h1 hco5 sl3 (cell_put1 _ _ _ _)
      have hee6 : RdE w6.heap.size w6 A2 n2 c2 (renum x.now zs) := by
        rw [hs6, hw6]
        exact rdg_away (fun _ => ⟨0, _, rfl, rfl⟩) hown2.rd hco5 sl3 (cell_put1 _ _ _ _)
      have hgs : w2.heap.size < w6.heap.size := hc6.lt
      have hz6 := Lib.hid hs6
      have HB26 := Lib.hid hb26
      have HC6 := Lib.hid hc6
      have HF6 := Lib.hid hff6
      have HE6 := Lib.hid hee6
      have HBR6 := Lib.hid (HB2.out.trans (hb26.mono HB2.out.size))
      have HD6 := Lib.hid (HC2.out.below hb26 HC2.out.lt)
      have HE2 := Lib.hid (refRenumbered_any x.kA x.kn x.kc x.kept lA k lc zs w6 ((HR.out.k.below HBR6.out).mono HBR6.out.size) (HL2.out.below hb26) hkn (by omega) HN.out HI2.out)
      obtain ⟨d0, d1, d2⟩ := ref_cel3 HD6.out
      rw [hw6] at d0 d1 d2
      clear hco5 hd5 hown2 hb5 hb26 hc6 hs6 hff6 hee6 HE1 HF HCO HD HBR
      go_wp2_with fail
      rw [← hw6]
      clear hw6 s0 s1 s2 t0 t1 t2 f0 f1 f2 d0 d1 d2
      refine HE2.out.mono ?_
      rintro e w7 ⟨A3, n3, c3, rfl, hown3, hb7⟩
      have hco7 := HC6.out.below hb7 HC6.out.lt
      obtain ⟨s0, s1, s2⟩ := ref_cel3 hco7
      obtain ⟨f0, f1, f2⟩ := cel_frs hco7
      obtain ⟨w8, hw8⟩ : ∃ w8, w8 = w7.setCell ⟨w2.heap.size, 2, none⟩ (.slice A3 n3 c3) := ⟨_, rfl⟩
      have hb28 : Below w2.heap.size w2 w8 := by rw [hw8]; exact (HB26.out.trans (hb7.mono (by omega))).setCell (p := ⟨w2.heap.size, 2, none⟩) (Nat.le_refl _) _
      have hc8 : Cel w8 w2.heap.size 32 #[.slice A1 k c1, .slice A2 n2 c2, .slice A3 n3 c3] := by rw [hw8]; exact cel_put hco7 2 _
      have hs8 : w8.heap.size = w7.heap.size := by rw [hw8]; simp
      have hff8 : RdG layF w8.heap.size w8 A1 k c1 (pickF x.xs zs) := by
        rw [hs8]
        have h1 := (HF6.out.below hb7).mono hb7.size
        rw [hw8]
        exact rdg_away (fun _ => ⟨1, _, rfl, rfl⟩) h1 hco7 sl3 (cell_put1 _ _ _ _)
      have hee8 : RdE w8.heap.size w8 A2 n2 c2 (renum x.now zs) := by
        rw [hs8]
        have h1 := (HE6.out.below hb7).mono hb7.size
        rw [hw8]
        exact rdg_away (fun _ => ⟨0, _, rfl, rfl⟩) h1 hco7 sl3 (cell_put1 _ _ _ _)
      have hek8 : RdE w8.heap.size w8 A3 n3 c3 (renum x.kept zs) := by
        rw [hs8, hw8]
        exact rdg_away (fun _ => ⟨0, _, rfl, rfl⟩) hown3.rd hco7 sl3 (cell_put1 _ _ _ _)
      have hr8 := HR2.out.below hb28 HR2.out.lt
      have HB28 := Lib.hid hb28
      have HC8 := Lib.hid hc8
      have HR8 := Lib.hid hr8
      have HF8 := Lib.hid hff8
      have HE8 := Lib.hid hee8
      have HK8 := Lib.hid hek8
      have HBW8 := Lib.hid (HB2.out.trans (hb28.mono HB2.out.size))
      obtain ⟨u0, u1, u2⟩ := ref_cel3 hc8
      obtain ⟨z0, z1, z2⟩ := ref_cel3 hr8
      obtain ⟨g0, g1, g2⟩ := cel_frs hr8
      rw [hw8] at u0 u1 u2 z0 z1 z2 g0 g1 g2
      clear hco7 hown3 hb7 hb28 hc8 hs8 hff8 hee8 hek8 hr8 HE2 HF6 HE6 HC6
      go_wp2
      rw [← hw8]
      clear hw8 s0 s1 s2 f0 f1 f2 u0 u1 u2 z0 z1 z2 g0 g1 g2
      (try simp only [Exit.inBlock, Exit.then])
      refine bodyPost_ret (ret_rdisk rfl _ _ (w.heap.size + 1) #[.slice A1 k c1, .slice A2 n2 c2, .slice A3 n3 c3] rfl (cel_put3 HR8.out) rfl) rfl ?_
      have hbo := below_put3 HBW8.out (show w.heap.size ≤ w.heap.size + 1 by omega) (.slice A1 k c1) (.slice A2 n2 c2) (.slice A3 n3 c3)
      have hbx := below_put3 (Below.refl w.heap.size w8) (show w.heap.size ≤ w.heap.size + 1 by omega) (.slice A1 k c1) (.slice A2 n2 c2) (.slice A3 n3 c3)
      refine ⟨⟨A1, k, c1, pickF x.xs zs, A2, n2, c2, renum x.now zs, A3, n3, c3, renum x.kept zs⟩, rfl, HO.out.symm, ⟨⟨?_, ?_⟩, ?_, ?_⟩, hbo⟩
      · exact (rdg_away (fun _ => ⟨1, _, rfl, rfl⟩) HF8.out HR8.out sl3 (put3_cell _ _ _ _ _)).mono (by simp)
      · have hB : Byt w.heap.size w8 (pickF x.xs zs) := fun u hu => (HR.out.f.below HBW8.out).2 u (pick_mem (fun f hf => by have h1 := HIN.out f hf; rw [HXL.out]; exact h1) hu)
        exact (hB.below hbx).mono hbo.size
      · exact (rdg_away (fun _ => ⟨0, _, rfl, rfl⟩) HE8.out HR8.out sl3 (put3_cell _ _ _ _ _)).mono (by simp)
      · exact (rdg_away (fun _ => ⟨0, _, rfl, rfl⟩) HK8.out HR8.out sl3 (put3_cell _ _ _ _ _)).mono (by simp)
end Go.Proofs.Ytoifdjpflannlaa.Dw
