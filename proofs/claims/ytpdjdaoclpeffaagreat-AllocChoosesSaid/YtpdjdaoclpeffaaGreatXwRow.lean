/- What slices.IndexFunc and ContainsFunc at numbers, slices.Concat at ranges, and alloc.singly come to. Conditions: 1000 ranges together at most. -/
import Derived.Test.YtpdjdaoclpeffaaGreatXwKit
import Derived.Test.YtpdjdaoclpeffaaGreatVwA
import Derived.Lib.AppendZeros
import Derived.Lib.SliceRun
import Derived.BigQuiet
import Derived.Deep.QuietTactic
set_option maxRecDepth 8000
namespace Go.Proofs.YtpdjdaoclpeffaaGreat.Xw
open Go.RowKit Co By Ky Rc Ew Jw La Tb Lw Cf Al
open Vw (Cx RdPl layP atP idxI idxB idx_hit idx_miss idx_any take_skip)
open Dw (ba ba_size ba_data ba_list alloc_more)

set_option maxHeartbeats 2000000 in
theorem indexZ (K : Nat) (hE : ∀ args W, (callFunc K args).run Tryz.prog W = .ok (.enter K args) W) (bs : Array Value) (q : Int → Bool) (A : Option Addr) (n c U : Nat) (l : List Int) (w : World) (h : RdZ U w A n c l) (hU : U ≤ w.heap.size)
    (HK : ∀ a ∈ l, ∀ W, Below w.heap.size w W → Calls Tryz.prog K (#[.int .i64 a] ++ bs) W (isB (q a) W)) :
    Calls Tryz.prog 72 #[.slice A n c, .func (.func K) #[] bs] w (idxB q l w) := by
  have HX := Lib.hid h
  have HL := Lib.hid h.len
  have HKK := Lib.hid HK
  have HEN := Lib.hid hE
  have HUU := Lib.hid hU
  have hcp := h.cap
  have hmx := h.max
  clear h HK hE hU
  go_enter Tryz.func72, Tryz.ntmps72
  go_wp2
  go_loopw [8] (fun v wr => ∃ k : Nat, v = .int .i64 k ∧ k ≤ n ∧ Hid (∀ a ∈ l.take k, q a = false) ∧ Hid (Below w.heap.size w wr)) (fun v _ => n - (intOf v).toNat)
  case atStart => exact ⟨0, rfl, by omega, fun a ha => by simp at ha, Below.refl _ _⟩
  case round =>
    obtain ⟨k, rfl, hk2, HE, HB⟩ := hrel
    by_cases hlt : k < n
    · obtain ⟨b, o, a, rfl, hbU, HA, c0⟩ := atZ (HX.out.below (HB.out.mono HUU.out)) hlt
      have hkz : (k : Int) < (n : Int) := by omega
      have HC := Lib.hid (HKK.out a (List.mem_of_getElem? HA.out)  wr HB.out)
      cases hq : q a with
      | true =>
        have HT : Hid (idxI q l = (k : Int)) := idx_hit HA.out HE.out hq
        rw [hq] at HC
        clear hq HE HA
        go_wp2_with fail
        rw [HEN.out, Oper.upon_enter]
        refine HC.out.mono ?_
        rintro e w3 ⟨rfl, hb3⟩
        go_wp2
        go_ret
        exact ⟨ret_int HT.out.symm, HB.out.trans (hb3.mono HB.out.size)⟩
      | false =>
        have HT : Hid (∀ a ∈ l.take (k + 1), q a = false) := take_skip HA.out HE.out hq
        rw [hq] at HC
        clear hq HE HA
        go_wp2_with fail
        rw [HEN.out, Oper.upon_enter]
        refine HC.out.mono ?_
        rintro e w3 ⟨rfl, hb3⟩
        go_wp2
        go_roundw
        case rel => exact ⟨k + 1, by go_num, by omega, HT.out, HB.out.trans (hb3.mono HB.out.size)⟩
        case measure => simp [intOf]; omega
    · obtain rfl : k = n := by omega
      have HT : Hid (idxI q l = -1) := idx_miss (by rw [← HL.out] at HE; rw [List.take_length] at HE; exact HE.out)
      have hkz : ¬ (k : Int) < (k : Int) := by omega
      clear hlt HE
      go_wp2
      go_ret
      exact ⟨ret_int HT.out.symm, HB.out⟩
set_option maxHeartbeats 1000000 in
theorem hasZ (K : Nat) (hE : ∀ args W, (callFunc K args).run Tryz.prog W = .ok (.enter K args) W) (bs : Array Value) (q : Int → Bool) (A : Option Addr) (n c U : Nat) (l : List Int) (w : World) (h : RdZ U w A n c l) (hU : U ≤ w.heap.size)
    (HK : ∀ a ∈ l, ∀ W, Below w.heap.size w W → Calls Tryz.prog K (#[.int .i64 a] ++ bs) W (isB (q a) W)) :
    Calls Tryz.prog 46 #[.slice A n c, .func (.func K) #[] bs] w (isB (l.any q) w) := by
  have HC := Lib.hid (indexZ K hE bs q A n c U l w h hU HK)
  have HT := Lib.hid (idx_any q l)
  clear h hU HK hE
  go_enter Tryz.func46, Tryz.ntmps46
  go_wp2_with fail
  refine HC.out.mono ?_
  rintro e w1 ⟨rfl, hb1⟩
  go_wp2
  go_ret
  exact ⟨ret_bool HT.out, hb1⟩
/-- A call that answers a slice whose array is its own. -/
def RCP (w : World) (n : Nat) (l : List Pl) (e : Ending) (w' : World) : Prop := ∃ A c, e = .returned (.slice A n c) ∧ OwnPl w.heap.size w' A n c l ∧ Below w.heap.size w w'
theorem growP_nil (n : Nat) (w : World) (hn : n ≤ 1000) :
    Calls Tryz.prog 77 #[.slice none 0 0, .int .i64 (n : Int)] w (RCP w 0 []) := by
  by_cases h0 : n = 0
  · subst h0
    go_enter Tryz.func77, Tryz.ntmps77
    go_wp2
    go_ret
    exact ⟨none, 0, rfl, OwnG.nil _ _ _, Below.refl _ _⟩
  · have hpos : 0 < n := by omega
    obtain ⟨i0, hi0, hz0, hz1, hz2⟩ := info_parts plP.hi
    have hrun := fun ty => Lib.run_append_nil_zeros (P := Tryz.prog) w 53 3 ty 63 i0 _ .i64 .i64 Tryz.underlying53 Tryz.underlying3 hi0 hz0 n hpos (by rw [hz1]; decide) (by omega) (by rw [hz2]; omega)
    have hge := grownCap_ge w n 0 63
    have hcm := grownCap_le_maxLen w n 0 63 (by unfold maxLen; omega)
    generalize grownCap w n 0 63 = G at hrun hge hcm
    generalize hcs : (Builtin.zeroCells (Value.agg #[.int .i64 0, .int .i64 0]).cells n ++ Builtin.zeroCells (Value.agg #[.int .i64 0, .int .i64 0]).cells (G - n)) = cs at hrun
    have hsz : cs.size = G * 2 := by
      rw [← hcs, Array.size_append, size_zeroCells, size_zeroCells]
      show n * 2 + (G - n) * 2 = G * 2
      omega
    have HR := Lib.hid hrun
    have HS := Lib.hid hsz
    have HM := Lib.hid hcm
    have hcm2 : G ≤ 9223372036854775807 := by unfold maxLen at hcm; omega
    clear hrun hsz hcm hcs hi0 hz0 hz1 hz2 h0
    go_enter Tryz.func77, Tryz.ntmps77
    go_wp2_with (at_builtin; refine Lib.wpList_append_run _ rfl (.tmp 20) (.tmp 21) _ _ rfl _ _ rfl rfl _ _ (HR.out _) ?_)
    go_ret
    exact ⟨some ⟨w.heap.size, 0, none⟩, G, rfl, ⟨(World.ownsRow_made w cs G (Nat.le_refl _) HM.out HS.out).drew, rfl⟩, ((Below.refl _ _).alloc (Nat.le_refl _) _).drew⟩

/-- A part of a list of ranges. -/
structure PartQ where
  A : Option Addr
  c : Nat
  l : List Pl
def PartsQ (w : World) (b o : Nat) (qs : List PartQ) : Prop :=
  ∀ i (h : i < qs.length), w.cell? ⟨b, o + i, none⟩ = some (.slice qs[i].A qs[i].l.length qs[i].c) ∧ RdPl w.heap.size w qs[i].A qs[i].l.length qs[i].c qs[i].l
theorem PartsQ.below {w w' : World} {b o : Nat} {qs : List PartQ} (h : PartsQ w b o qs) (hb : Below w.heap.size w w') : PartsQ w' b o qs := fun i hi =>
  ⟨(hb.cell (World.block_lt_of_cell? w _ (h i hi).1)).trans (h i hi).1, ((h i hi).2.below hb).mono hb.size⟩
def totQ (qs : List PartQ) : Nat := (qs.map fun p => p.l.length).sum
def catQ (qs : List PartQ) : List Pl := qs.flatMap (·.l)
theorem totQ_next {qs : List PartQ} {k : Nat} (h : k < qs.length) : totQ (qs.take (k + 1)) = totQ (qs.take k) + (qs[k]).l.length := by
  unfold totQ
  rw [List.take_succ_eq_append_getElem h]
  simp only [List.map_append, List.sum_append, List.map_cons, List.map_nil, List.sum_cons, List.sum_nil, Nat.add_zero]
theorem catQ_next {qs : List PartQ} {k : Nat} (h : k < qs.length) : catQ (qs.take (k + 1)) = catQ (qs.take k) ++ (qs[k]).l := by
  unfold catQ
  rw [List.take_succ_eq_append_getElem h, List.flatMap_append]
  simp only [List.flatMap_cons, List.flatMap_nil, List.append_nil]
theorem totQ_le (qs : List PartQ) (k : Nat) : totQ (qs.take k) ≤ totQ qs := by
  have h : totQ (qs.take k) + totQ (qs.drop k) = totQ qs := by
    unfold totQ
    rw [← List.sum_append, ← List.map_append, List.take_append_drop]
  omega
set_option maxHeartbeats 1000000 in
theorem concatQ_any (b o N c : Nat) (qs : List PartQ) (w : World) (h : PartsQ w b o qs) (hN : qs.length = N) (hc : c ≤ 9223372036854775807) (hNc : N ≤ c) (ht : totQ qs ≤ 1000) :
    Calls Tryz.prog 50 #[.slice (some ⟨b, o, none⟩) N c] w (RCP w (totQ qs) (catQ qs)) := by
  have HN := Lib.hid hN
  clear hN
  go_enter Tryz.func50, Tryz.ntmps50
  go_wp2
  go_loop [3, 11] (fun v i => ∃ k : Nat, k ≤ N ∧ i = .int .i64 k ∧ v = .int .i64 (totQ (qs.take k) : Nat)) (fun _ i => N - (intOf i).toNat)
  case atStart => exact ⟨0, by omega, rfl, rfl⟩
  case round =>
    obtain ⟨k, hk, rfl, rfl⟩ := hrel
    have hle := totQ_le qs k
    by_cases hlt : k < N
    · have hkl : k < qs.length := by have := HN.out; omega
      have hcell := (h k hkl).1
      have H := Lib.hid (totQ_next hkl)
      have hle2 := totQ_le qs (k + 1)
      rw [totQ_next hkl] at hle2
      generalize qs[k].l.length = m at hcell H hle2
      generalize qs[k].A = A' at hcell
      generalize qs[k].c = c' at hcell
      generalize totQ (qs.take k) = x at H hle hle2
      clear hkl
      go_wp2
      go_round
      case rel => exact ⟨k + 1, by omega, by go_num, by rw [H.out]; go_num⟩
      case measure => simp [intOf]; omega
    · obtain rfl : k = N := by omega
      have H := Lib.hid (show qs.take k = qs from List.take_of_length_le (by have := HN.out; omega))
      rw [H.out]
      go_wp2_with fail
      refine (growP_nil _ _ ht).mono ?_
      rintro e w1 ⟨A1, c1, rfl, hown0, hb1⟩
      go_wp2
      go_loopw [6, 27] (fun v i wr => ∃ (j : Nat) (A2 : Option Addr) (c2 : Nat), j ≤ k ∧ i = .int .i64 j ∧ v = .slice A2 (totQ (qs.take j)) c2 ∧ OwnPl w.heap.size wr A2 (totQ (qs.take j)) c2 (catQ (qs.take j)) ∧ Below w.heap.size w wr) (fun _ i _ => k - (intOf i).toNat)
      case atStart => exact ⟨0, A1, c1, by omega, rfl, rfl, hown0, hb1⟩
      case round =>
        obtain ⟨j, A2, c2, hj, rfl, rfl, hown, hb⟩ := hrel
        have hle3 := totQ_le qs j
        by_cases hlt2 : j < k
        · have hkl : j < qs.length := by have := HN.out; omega
          have hP := h.below hb
          have hcell := (hP j hkl).1
          have hbs := (hP j hkl).2
          have H1 := Lib.hid (totQ_next hkl)
          have H2 := Lib.hid (catQ_next hkl)
          have hle2 := totQ_le qs (j + 1)
          rw [totQ_next hkl] at hle2
          generalize qs[j] = p at hcell H1 H2 hle2 hbs
          clear hP
          clear hkl
          generalize totQ (qs.take j) = x at H1 hle3 hle2 hown
          generalize catQ (qs.take j) = y at H2 hown
          go_wp2_with (at_builtin; refine wpList_appG plP (by decide) (by decide) (by kernel_rfl) rfl (.tmp 31) (.tmp 32) rfl rfl hown rfl hbs (by omega) (by have := hb.size; omega) ?_; intro A3 c3 w3 happ)
          go_roundw
          case rel => exact ⟨j + 1, A3, c3, by omega, by go_num, by rw [H1.out], by rw [H1.out, H2.out]; exact happ.1, hb.trans happ.2.1⟩
          case measure => simp [intOf]; omega
        · obtain rfl : j = k := by omega
          go_wp2
          go_ret
          rw [H.out] at hown
          exact ⟨A2, c2, by rw [H.out]; rfl, hown, hb⟩
def sgl (a : Int) : Pl := ⟨a, a⟩
set_option maxHeartbeats 1000000 in
theorem singly_any (A : Option Addr) (n c U : Nat) (l : List Int) (w : World) (h : RdZ U w A n c l) (hU : U ≤ w.heap.size) (hn : n ≤ 1000) :
    Calls Tryz.prog 30 #[.slice A n c] w (RCP w n (l.map sgl)) := by
  have HX := Lib.hid h
  have HL := Lib.hid h.len
  have HUU := Lib.hid hU
  have hcp := h.cap
  have hmx := h.max
  clear h hU
  go_enter Tryz.func30, Tryz.ntmps30
  go_wp2
  go_loopw [3, 8] (fun v i wr => ∃ (j : Nat) (A2 : Option Addr) (c2 : Nat), j ≤ n ∧ i = .int .i64 j ∧ v = .slice A2 j c2 ∧ Hid (OwnPl w.heap.size wr A2 j c2 ((l.take j).map sgl)) ∧ Hid (Below w.heap.size w wr)) (fun _ i _ => n - (intOf i).toNat)
  case atStart => exact ⟨0, none, 0, by omega, rfl, rfl, OwnG.nil _ _ _, Below.refl _ _⟩
  case round =>
    obtain ⟨j, A2, c2, hj, rfl, rfl, HO, HB⟩ := hrel
    by_cases hlt : j < n
    · obtain ⟨b, o, a, rfl, _, HA, d0⟩ := atZ (HX.out.below (HB.out.mono HUU.out)) hlt
      have hkz : (j : Int) < (n : Int) := by omega
      have HT : Hid ((l.take (j + 1)).map sgl = (l.take j).map sgl ++ [⟨a, a⟩]) := by show _ = _; rw [take_nextL HA.out, List.map_append]; rfl
      have hlit := litP wr a a
      have hba : Below wr.heap.size wr (wr.alloc (.cells #[.int .i64 a, .int .i64 a] 63)) := alloc_more _ _
      have hown := HO.out.below hba
      have hsz := HB.out.size
      clear HA HO
      go_wp2_with (at_builtin; refine wpList_appG plP (by decide) (by decide) (by kernel_rfl) rfl (.tmp 12) (.tmp 16) rfl rfl hown rfl hlit (by omega) (by simp; omega) ?_; intro A5 c5 w5 happ)
      go_roundw
      case rel =>
        refine ⟨j + 1, A5, c5, by omega, by go_num, rfl, ?_, HB.out.trans ((hba.mono hsz).trans happ.2.1)⟩
        rw [HT.out]
        exact happ.1
      case measure => simp [intOf]; omega
    · obtain rfl : j = n := by omega
      have HT : Hid (l.take j = l) := List.take_of_length_le (by rw [HL.out]; exact Nat.le_refl _)
      have hkz : ¬ (j : Int) < (j : Int) := by omega
      clear hlt
      go_wp2
      go_ret
      rw [HT.out] at HO
      exact ⟨A2, c2, rfl, HO.out, HB.out⟩
end Go.Proofs.YtpdjdaoclpeffaaGreat.Xw
