/- What conf's anyTwo comes to at its three types, for whatever function is handed to it that answers for every two elements. -/
import Derived.Test.YtoilljilndmmfaaVwIdx
import Derived.Deep.Cut
import Derived.BigQuiet
import Derived.Deep.QuietTactic
set_option maxRecDepth 8000
namespace Go.Proofs.Ytoilljilndmmfaa.Vw
open Go.RowKit By Cf Ad Ky
open Dw (ba ba_size ba_data ba_list alloc_more)

theorem plxP : RgP Try.prog 51 55 layX (.agg #[.int .i64 0, .int .i64 0, .slice none 0 0, .slice none 0 0, .int .i64 0, .int .i64 0, .int .i64 0, .int .i64 0, .int .i64 0]) 104 := ⟨Try.underlying51, by kernel_rfl⟩
theorem kxP : RgP Try.prog 81 62 layK (.agg #[.string ⟨#[]⟩, .int .i64 0, .int .i64 0]) 32 := ⟨Try.underlying81, by kernel_rfl⟩
theorem plP : RgP Try.prog 42 50 layP (.agg #[.int .i64 0, .int .i64 0]) 16 := ⟨Try.underlying42, by kernel_rfl⟩
theorem celK {w : World} {g : Nat} {t : TypeId} {k : Kx} (h : Cel w g t k.cs) : w.cell? ⟨g, 0, none⟩ = some (.string (ba k.r.key)) ∧ w.cell? ⟨g, 1, none⟩ = some (.int .i64 k.r.addr) ∧ w.cell? ⟨g, 2, none⟩ = some (.int .i64 (k.net : Int)) :=
  ⟨by rw [h.cell]; rfl, by rw [h.cell]; rfl, by rw [h.cell]; rfl⟩
theorem celP {w : World} {g : Nat} {t : TypeId} {p : Pl} (h : Cel w g t #[.int .i64 p.first, .int .i64 p.last]) : w.cell? ⟨g, 0, none⟩ = some (.int .i64 p.first) ∧ w.cell? ⟨g, 1, none⟩ = some (.int .i64 p.last) :=
  ⟨by rw [h.cell]; rfl, by rw [h.cell]; rfl⟩
section
variable {α : Type} {q : α → α → Bool} {l : List α} {k j : Nat} {a d : α}
theorem pair_next (h : l[k]? = some a) (hE : pairB q (l.take k) = false) (hF : (l.take k).any (q a) = false) : pairB q (l.take (k + 1)) = false := by
  rw [take_at h, pair_snoc, hE, hF]
  rfl
theorem pair_hit (h : l[k]? = some a) (hd : l[j]? = some d) (hj : j < k) (hq : q a d = true) : pairB q l = true := by
  rw [← List.take_append_drop (k + 1) l, pair_app, take_at h, pair_snoc]
  have : (l.take k).any (q a) = true := List.any_eq_true.2 ⟨d, List.mem_of_getElem? (i := j) (by rw [List.getElem?_take, if_pos hj]; exact hd), hq⟩
  rw [this, Bool.or_true, Bool.true_or]
theorem any_skip {p : α → Bool} (h : l[j]? = some d) (hE : (l.take j).any p = false) (hq : p d = false) : (l.take (j + 1)).any p = false := by
  rw [take_at h, List.any_append, hE, List.any_cons, hq]
  rfl
end
theorem cutX {U n c : Nat} {w : World} {A : Option Addr} {l : List Px} (h : RdPx U w A n c l) (k : Nat) (hk : k ≤ n) : ∃ A', (RdPx U w A' k c (l.take k)) ∧ ∀ W, (Instr.slice 51 (.slice A n c) none (some (.int .i64 (k : Int))) none).run Try.prog W = .ok (.slice A' k c) W := by
  obtain ⟨A', h1, h2⟩ := plxP.cut_h h.1 k (k : Int) rfl hk
  exact ⟨A', ⟨h1, fun p hp => h.2 p (List.mem_of_mem_take hp)⟩, h2⟩
set_option maxHeartbeats 4000000 in
theorem any2X (K : Nat) (hE : ∀ args W, (callFunc K args).run Try.prog W = .ok (.enter K args) W) (q : Px → Px → Bool) (A : Option Addr) (n c U : Nat) (l : List Px) (w : World) (h : RdPx U w A n c l) (hU : U ≤ w.heap.size)
    (HK : ∀ a ∈ l, ∀ b ∈ l, ∀ pn rn qn sn W, Calls Try.prog K #[a.v pn rn, b.v qn sn] W (isB (q a b) W)) :
    Calls Try.prog 61 #[.slice A n c, .func (.func K) #[] #[]] w (isB (pairB q l) w) := by
  have HX := Lib.hid h
  have HL := Lib.hid h.len
  have HKK := Lib.hid HK
  have HEN := Lib.hid hE
  have HUU := Lib.hid hU
  have hcp := h.cap
  have hmx := h.max
  clear h HK hE hU
  go_enter Try.func61, Try.ntmps61
  go_wp2
  go_loopw [11] (fun v wr => ∃ k : Nat, v = .int .i64 k ∧ k ≤ n ∧ Hid (pairB q (l.take k) = false) ∧ Hid (Below w.heap.size w wr)) (fun v _ => n - (intOf v).toNat)
  case atStart => exact ⟨0, rfl, by omega, rfl, Below.refl _ _⟩
  case round =>
    obtain ⟨k, rfl, hk2, HE, HB⟩ := hrel
    by_cases hlt : k < n
    · obtain ⟨A2, hr2, hs2⟩ := cutX HX.out k (by omega)
      obtain ⟨b, o, a, pn, rn, rfl, hbU, HA, hok, HP, HR, c0, c1, c2, c3, c4, c5, c6, c7, c8⟩ := atX (HX.out.below (HB.out.mono HUU.out)) hlt
      have hkz : (k : Int) < (n : Int) := by omega
      obtain ⟨w1, hw1⟩ : ∃ w1, w1 = wr.alloc (.cells (a.cs pn rn) 55) := ⟨_, rfl⟩
      have hc1 : Cel w1 wr.heap.size 55 (a.cs pn rn) := by rw [hw1]; exact Cel.born _ _ _
      have hb1 : Below wr.heap.size wr w1 := by rw [hw1]; exact alloc_more _ _
      have HC1 := Lib.hid hc1
      have HB1 := Lib.hid (HB.out.trans (hb1.mono HB.out.size))
      have HR2 := Lib.hid hr2
      have hcp2 := hr2.cap
      have hsx := HB.out.size
      have HLT : Hid (wr.heap.size < w1.heap.size) := hc1.lt
      clear hr2 hc1 hb1
      go_wp2_with fail
      rw [← hw1]
      clear hw1
      generalize wr.heap.size = gg at HC1 HLT ⊢
      go_loopw [20] (fun v wr => ∃ j : Nat, v = .int .i64 j ∧ j ≤ k ∧ Hid ((l.take j).any (q a) = false) ∧ Hid (Below w1.heap.size w1 wr)) (fun v _ => k - (intOf v).toNat)
      case atStart => exact ⟨0, rfl, by omega, rfl, Below.refl _ _⟩
      case round =>
        obtain ⟨j, rfl, hj, HF, HB2⟩ := hrel
        have HBW := Lib.hid (HB1.out.trans (HB2.out.mono HB1.out.size))
        by_cases hlt2 : j < k
        · obtain ⟨b2, o2, d, qn, sn, rfl, hbU2, HD, hok2, HP2, HR2, d0, d1, d2, d3, d4, d5, d6, d7, d8⟩ := atX (HR2.out.below (HBW.out.mono HUU.out)) hlt2
          have hjz : (j : Int) < (k : Int) := by omega
          have HDL : Hid (l[j]? = some d) := by
            have := HD.out
            rw [List.getElem?_take, if_pos hlt2] at this
            exact this
          have hlg := HLT.out
          have hsw := HB2.out.size
          have hne : gg ≠ wr.heap.size := by omega
          obtain ⟨w2, hw2⟩ : ∃ w2, w2 = wr.alloc (.cells (d.cs qn sn) 55) := ⟨_, rfl⟩
          have hb2 : Below wr.heap.size wr w2 := by rw [hw2]; exact alloc_more _ _
          have HC5 := Lib.hid (show Cel w2 wr.heap.size 55 (d.cs qn sn) by rw [hw2]; exact Cel.born _ _ _)
          have HB4 := Lib.hid (HB2.out.trans (hb2.mono HB2.out.size))
          have HC := Lib.hid (HKK.out a (List.mem_of_getElem? HA.out) d (List.mem_of_getElem? HDL.out) pn rn qn sn w2)
          clear hb2
          cases hq : q a d with
          | true =>
            have HT : Hid (pairB q l = true) := pair_hit HA.out HDL.out hlt2 hq
            rw [hq] at HC
            clear hq HE HA HD HDL
            go_upto_region 7 with fail
            rw [← hw2]
            clear hw2
            obtain ⟨g0, g1, g2, g3, g4, g5, g6, g7, g8⟩ := cel9 HC5.out
            obtain ⟨f0, f1, f2, f3, f4, f5, f6, f7, f8⟩ := cel9 (HC1.out.below HB4.out HLT.out)
            go_wp2_with fail
            rw [HEN.out, Oper.upon_enter]
            refine HC.out.mono ?_
            rintro e w3 ⟨rfl, hb3⟩
            go_wp2
            go_ret
            exact ⟨ret_bool HT.out.symm, (HB1.out.trans (HB4.out.mono HB1.out.size)).trans (hb3.mono (Nat.le_trans HB1.out.size HB4.out.size))⟩
          | false =>
            have HT : Hid ((l.take (j + 1)).any (q a) = false) := any_skip HDL.out HF.out hq
            rw [hq] at HC
            clear hq HE HA HD HDL
            go_upto_region 7 with fail
            rw [← hw2]
            clear hw2
            obtain ⟨g0, g1, g2, g3, g4, g5, g6, g7, g8⟩ := cel9 HC5.out
            obtain ⟨f0, f1, f2, f3, f4, f5, f6, f7, f8⟩ := cel9 (HC1.out.below HB4.out HLT.out)
            go_wp2_with fail
            rw [HEN.out, Oper.upon_enter]
            refine HC.out.mono ?_
            rintro e w3 ⟨rfl, hb3⟩
            go_wp2
            go_roundw
            case rel => exact ⟨j + 1, by go_num, by omega, HT.out, HB4.out.trans (hb3.mono HB4.out.size)⟩
            case measure => simp [intOf]; omega
        · obtain rfl : j = k := by omega
          have HT : Hid (pairB q (l.take (j + 1)) = false) := pair_next HA.out HE.out HF.out
          have hjz : ¬ (j : Int) < (j : Int) := by omega
          clear hlt2 HE HA HF
          go_wp2
          go_roundw
          case rel => exact ⟨j + 1, by go_num, by omega, HT.out, HBW.out⟩
          case measure => simp [intOf]; omega
    · obtain rfl : k = n := by omega
      have HT : Hid (pairB q l = false) := by rw [← HL.out] at HE; rw [List.take_length] at HE; exact HE
      have hkz : ¬ (k : Int) < (k : Int) := by omega
      clear hlt HE
      go_wp2
      go_ret
      exact ⟨ret_bool HT.out.symm, HB.out⟩
theorem cutK {U n c : Nat} {w : World} {A : Option Addr} {l : List Kx} (h : RdKx U w A n c l) (k : Nat) (hk : k ≤ n) : ∃ A', (RdKx U w A' k c (l.take k)) ∧ ∀ W, (Instr.slice 81 (.slice A n c) none (some (.int .i64 (k : Int))) none).run Try.prog W = .ok (.slice A' k c) W := by
  obtain ⟨A', h1, h2⟩ := kxP.cut_h h k (k : Int) rfl hk
  exact ⟨A', h1, h2⟩
set_option maxHeartbeats 4000000 in
theorem any2K (K : Nat) (hE : ∀ args W, (callFunc K args).run Try.prog W = .ok (.enter K args) W) (q : Kx → Kx → Bool) (A : Option Addr) (n c U : Nat) (l : List Kx) (w : World) (h : RdKx U w A n c l) (hU : U ≤ w.heap.size)
    (HK : ∀ a ∈ l, ∀ b ∈ l, ∀ W, Calls Try.prog K #[a.v, b.v] W (isB (q a b) W)) :
    Calls Try.prog 63 #[.slice A n c, .func (.func K) #[] #[]] w (isB (pairB q l) w) := by
  have HX := Lib.hid h
  have HL := Lib.hid h.len
  have HKK := Lib.hid HK
  have HEN := Lib.hid hE
  have HUU := Lib.hid hU
  have hcp := h.cap
  have hmx := h.max
  clear h HK hE hU
  go_enter Try.func63, Try.ntmps63
  go_wp2
  go_loopw [11] (fun v wr => ∃ k : Nat, v = .int .i64 k ∧ k ≤ n ∧ Hid (pairB q (l.take k) = false) ∧ Hid (Below w.heap.size w wr)) (fun v _ => n - (intOf v).toNat)
  case atStart => exact ⟨0, rfl, by omega, rfl, Below.refl _ _⟩
  case round =>
    obtain ⟨k, rfl, hk2, HE, HB⟩ := hrel
    by_cases hlt : k < n
    · obtain ⟨A2, hr2, hs2⟩ := cutK HX.out k (by omega)
      obtain ⟨b, o, a, rfl, hbU, HA, c0, c1, c2⟩ := atK (HX.out.below (HB.out.mono HUU.out)) hlt
      have hkz : (k : Int) < (n : Int) := by omega
      obtain ⟨w1, hw1⟩ : ∃ w1, w1 = wr.alloc (.cells (a.cs) 62) := ⟨_, rfl⟩
      have hc1 : Cel w1 wr.heap.size 62 (a.cs) := by rw [hw1]; exact Cel.born _ _ _
      have hb1 : Below wr.heap.size wr w1 := by rw [hw1]; exact alloc_more _ _
      have HC1 := Lib.hid hc1
      have HB1 := Lib.hid (HB.out.trans (hb1.mono HB.out.size))
      have HR2 := Lib.hid hr2
      have hcp2 := hr2.cap
      have hsx := HB.out.size
      have HLT : Hid (wr.heap.size < w1.heap.size) := hc1.lt
      clear hr2 hc1 hb1
      go_wp2_with fail
      rw [← hw1]
      clear hw1
      generalize wr.heap.size = gg at HC1 HLT ⊢
      go_loopw [20] (fun v wr => ∃ j : Nat, v = .int .i64 j ∧ j ≤ k ∧ Hid ((l.take j).any (q a) = false) ∧ Hid (Below w1.heap.size w1 wr)) (fun v _ => k - (intOf v).toNat)
      case atStart => exact ⟨0, rfl, by omega, rfl, Below.refl _ _⟩
      case round =>
        obtain ⟨j, rfl, hj, HF, HB2⟩ := hrel
        have HBW := Lib.hid (HB1.out.trans (HB2.out.mono HB1.out.size))
        by_cases hlt2 : j < k
        · obtain ⟨b2, o2, d, rfl, hbU2, HD, d0, d1, d2⟩ := atK (HR2.out.below (HBW.out.mono HUU.out)) hlt2
          have hjz : (j : Int) < (k : Int) := by omega
          have HDL : Hid (l[j]? = some d) := by
            have := HD.out
            rw [List.getElem?_take, if_pos hlt2] at this
            exact this
          have hlg := HLT.out
          have hsw := HB2.out.size
          have hne : gg ≠ wr.heap.size := by omega
          obtain ⟨w2, hw2⟩ : ∃ w2, w2 = wr.alloc (.cells (d.cs) 62) := ⟨_, rfl⟩
          have hb2 : Below wr.heap.size wr w2 := by rw [hw2]; exact alloc_more _ _
          have HC5 := Lib.hid (show Cel w2 wr.heap.size 62 (d.cs) by rw [hw2]; exact Cel.born _ _ _)
          have HB4 := Lib.hid (HB2.out.trans (hb2.mono HB2.out.size))
          have HC := Lib.hid (HKK.out a (List.mem_of_getElem? HA.out) d (List.mem_of_getElem? HDL.out)  w2)
          clear hb2
          cases hq : q a d with
          | true =>
            have HT : Hid (pairB q l = true) := pair_hit HA.out HDL.out hlt2 hq
            rw [hq] at HC
            clear hq HE HA HD HDL
            go_upto_region 7 with fail
            rw [← hw2]
            clear hw2
            obtain ⟨g0, g1, g2⟩ := celK HC5.out
            obtain ⟨f0, f1, f2⟩ := celK (HC1.out.below HB4.out HLT.out)
            go_wp2_with fail
            rw [HEN.out, Oper.upon_enter]
            refine HC.out.mono ?_
            rintro e w3 ⟨rfl, hb3⟩
            go_wp2
            go_ret
            exact ⟨ret_bool HT.out.symm, (HB1.out.trans (HB4.out.mono HB1.out.size)).trans (hb3.mono (Nat.le_trans HB1.out.size HB4.out.size))⟩
          | false =>
            have HT : Hid ((l.take (j + 1)).any (q a) = false) := any_skip HDL.out HF.out hq
            rw [hq] at HC
            clear hq HE HA HD HDL
            go_upto_region 7 with fail
            rw [← hw2]
            clear hw2
            obtain ⟨g0, g1, g2⟩ := celK HC5.out
            obtain ⟨f0, f1, f2⟩ := celK (HC1.out.below HB4.out HLT.out)
            go_wp2_with fail
            rw [HEN.out, Oper.upon_enter]
            refine HC.out.mono ?_
            rintro e w3 ⟨rfl, hb3⟩
            go_wp2
            go_roundw
            case rel => exact ⟨j + 1, by go_num, by omega, HT.out, HB4.out.trans (hb3.mono HB4.out.size)⟩
            case measure => simp [intOf]; omega
        · obtain rfl : j = k := by omega
          have HT : Hid (pairB q (l.take (j + 1)) = false) := pair_next HA.out HE.out HF.out
          have hjz : ¬ (j : Int) < (j : Int) := by omega
          clear hlt2 HE HA HF
          go_wp2
          go_roundw
          case rel => exact ⟨j + 1, by go_num, by omega, HT.out, HBW.out⟩
          case measure => simp [intOf]; omega
    · obtain rfl : k = n := by omega
      have HT : Hid (pairB q l = false) := by rw [← HL.out] at HE; rw [List.take_length] at HE; exact HE
      have hkz : ¬ (k : Int) < (k : Int) := by omega
      clear hlt HE
      go_wp2
      go_ret
      exact ⟨ret_bool HT.out.symm, HB.out⟩
theorem cutP {U n c : Nat} {w : World} {A : Option Addr} {l : List Pl} (h : RdPl U w A n c l) (k : Nat) (hk : k ≤ n) : ∃ A', (RdPl U w A' k c (l.take k)) ∧ ∀ W, (Instr.slice 42 (.slice A n c) none (some (.int .i64 (k : Int))) none).run Try.prog W = .ok (.slice A' k c) W := by
  obtain ⟨A', h1, h2⟩ := plP.cut_h h k (k : Int) rfl hk
  exact ⟨A', h1, h2⟩
set_option maxHeartbeats 4000000 in
theorem any2P (K : Nat) (hE : ∀ args W, (callFunc K args).run Try.prog W = .ok (.enter K args) W) (q : Pl → Pl → Bool) (A : Option Addr) (n c U : Nat) (l : List Pl) (w : World) (h : RdPl U w A n c l) (hU : U ≤ w.heap.size)
    (HK : ∀ a ∈ l, ∀ b ∈ l, ∀ W, Calls Try.prog K #[.agg #[.int .i64 a.first, .int .i64 a.last], .agg #[.int .i64 b.first, .int .i64 b.last]] W (isB (q a b) W)) :
    Calls Try.prog 67 #[.slice A n c, .func (.func K) #[] #[]] w (isB (pairB q l) w) := by
  have HX := Lib.hid h
  have HL := Lib.hid h.len
  have HKK := Lib.hid HK
  have HEN := Lib.hid hE
  have HUU := Lib.hid hU
  have hcp := h.cap
  have hmx := h.max
  clear h HK hE hU
  go_enter Try.func67, Try.ntmps67
  go_wp2
  go_loopw [11] (fun v wr => ∃ k : Nat, v = .int .i64 k ∧ k ≤ n ∧ Hid (pairB q (l.take k) = false) ∧ Hid (Below w.heap.size w wr)) (fun v _ => n - (intOf v).toNat)
  case atStart => exact ⟨0, rfl, by omega, rfl, Below.refl _ _⟩
  case round =>
    obtain ⟨k, rfl, hk2, HE, HB⟩ := hrel
    by_cases hlt : k < n
    · obtain ⟨A2, hr2, hs2⟩ := cutP HX.out k (by omega)
      obtain ⟨b, o, a, rfl, hbU, HA, c0, c1⟩ := atP (HX.out.below (HB.out.mono HUU.out)) hlt
      have hkz : (k : Int) < (n : Int) := by omega
      obtain ⟨w1, hw1⟩ : ∃ w1, w1 = wr.alloc (.cells (#[.int .i64 a.first, .int .i64 a.last]) 50) := ⟨_, rfl⟩
      have hc1 : Cel w1 wr.heap.size 50 (#[.int .i64 a.first, .int .i64 a.last]) := by rw [hw1]; exact Cel.born _ _ _
      have hb1 : Below wr.heap.size wr w1 := by rw [hw1]; exact alloc_more _ _
      have HC1 := Lib.hid hc1
      have HB1 := Lib.hid (HB.out.trans (hb1.mono HB.out.size))
      have HR2 := Lib.hid hr2
      have hcp2 := hr2.cap
      have hsx := HB.out.size
      have HLT : Hid (wr.heap.size < w1.heap.size) := hc1.lt
      clear hr2 hc1 hb1
      go_wp2_with fail
      rw [← hw1]
      clear hw1
      generalize wr.heap.size = gg at HC1 HLT ⊢
      go_loopw [20] (fun v wr => ∃ j : Nat, v = .int .i64 j ∧ j ≤ k ∧ Hid ((l.take j).any (q a) = false) ∧ Hid (Below w1.heap.size w1 wr)) (fun v _ => k - (intOf v).toNat)
      case atStart => exact ⟨0, rfl, by omega, rfl, Below.refl _ _⟩
      case round =>
        obtain ⟨j, rfl, hj, HF, HB2⟩ := hrel
        have HBW := Lib.hid (HB1.out.trans (HB2.out.mono HB1.out.size))
        by_cases hlt2 : j < k
        · obtain ⟨b2, o2, d, rfl, hbU2, HD, d0, d1⟩ := atP (HR2.out.below (HBW.out.mono HUU.out)) hlt2
          have hjz : (j : Int) < (k : Int) := by omega
          have HDL : Hid (l[j]? = some d) := by
            have := HD.out
            rw [List.getElem?_take, if_pos hlt2] at this
            exact this
          have hlg := HLT.out
          have hsw := HB2.out.size
          have hne : gg ≠ wr.heap.size := by omega
          obtain ⟨w2, hw2⟩ : ∃ w2, w2 = wr.alloc (.cells (#[.int .i64 d.first, .int .i64 d.last]) 50) := ⟨_, rfl⟩
          have hb2 : Below wr.heap.size wr w2 := by rw [hw2]; exact alloc_more _ _
          have HC5 := Lib.hid (show Cel w2 wr.heap.size 50 (#[.int .i64 d.first, .int .i64 d.last]) by rw [hw2]; exact Cel.born _ _ _)
          have HB4 := Lib.hid (HB2.out.trans (hb2.mono HB2.out.size))
          have HC := Lib.hid (HKK.out a (List.mem_of_getElem? HA.out) d (List.mem_of_getElem? HDL.out)  w2)
          clear hb2
          cases hq : q a d with
          | true =>
            have HT : Hid (pairB q l = true) := pair_hit HA.out HDL.out hlt2 hq
            rw [hq] at HC
            clear hq HE HA HD HDL
            go_upto_region 7 with fail
            rw [← hw2]
            clear hw2
            obtain ⟨g0, g1⟩ := celP HC5.out
            obtain ⟨f0, f1⟩ := celP (HC1.out.below HB4.out HLT.out)
            go_wp2_with fail
            rw [HEN.out, Oper.upon_enter]
            refine HC.out.mono ?_
            rintro e w3 ⟨rfl, hb3⟩
            go_wp2
            go_ret
            exact ⟨ret_bool HT.out.symm, (HB1.out.trans (HB4.out.mono HB1.out.size)).trans (hb3.mono (Nat.le_trans HB1.out.size HB4.out.size))⟩
          | false =>
            have HT : Hid ((l.take (j + 1)).any (q a) = false) := any_skip HDL.out HF.out hq
            rw [hq] at HC
            clear hq HE HA HD HDL
            go_upto_region 7 with fail
            rw [← hw2]
            clear hw2
            obtain ⟨g0, g1⟩ := celP HC5.out
            obtain ⟨f0, f1⟩ := celP (HC1.out.below HB4.out HLT.out)
            go_wp2_with fail
            rw [HEN.out, Oper.upon_enter]
            refine HC.out.mono ?_
            rintro e w3 ⟨rfl, hb3⟩
            go_wp2
            go_roundw
            case rel => exact ⟨j + 1, by go_num, by omega, HT.out, HB4.out.trans (hb3.mono HB4.out.size)⟩
            case measure => simp [intOf]; omega
        · obtain rfl : j = k := by omega
          have HT : Hid (pairB q (l.take (j + 1)) = false) := pair_next HA.out HE.out HF.out
          have hjz : ¬ (j : Int) < (j : Int) := by omega
          clear hlt2 HE HA HF
          go_wp2
          go_roundw
          case rel => exact ⟨j + 1, by go_num, by omega, HT.out, HBW.out⟩
          case measure => simp [intOf]; omega
    · obtain rfl : k = n := by omega
      have HT : Hid (pairB q l = false) := by rw [← HL.out] at HE; rw [List.take_length] at HE; exact HE
      have hkz : ¬ (k : Int) < (k : Int) := by omega
      clear hlt HE
      go_wp2
      go_ret
      exact ⟨ret_bool HT.out.symm, HB.out⟩
end Go.Proofs.Ytoilljilndmmfaa.Vw
