/- What those, Of, Sweep and the document's own come to: a slice of the call's own that holds what a filter keeps. For all leases whose keys fit. -/
import Derived.Test.YtoldppbakapohaaGreatDoorBwA
import Derived.Test.YtoldppbakapohaaGreatDoorEwA
import Derived.Lib.AppendZeros
import Derived.Lib.SliceRun
section
set_option maxRecDepth 8000
namespace Go.Proofs.YtoldppbakapohaaGreatDoor.Bw
open Go.RowKit Co By Ky Rc Ew Jw La Tb Lw
open Dw (ba ba_size ba_data ba_list alloc_more)

set_option maxHeartbeats 2000000 in
theorem those_gen (K : Nat) (hE : ∀ args W, (callFunc K args).run Tryz.prog W = .ok (.enter K args) W) (x : Value) (q : L → Bool) (A : Option Addr) (n c U : Nat) (l : List L) (w : World) (h : RdLs U w A n c l) (hU : U ≤ w.heap.size) (hk : ∀ a ∈ l, Fk a)
    (hK : ∀ a W, Below w.heap.size w W → Calls Tryz.prog K #[lv a, x] W (isB (q a) W)) :
    Calls Tryz.prog 163 #[.slice A n c, .func (.func K) #[] #[x]] w (OwL w.heap.size w ((goodT l).filter q)) := by
  have HV := Lib.hid (valid_any A n c U l w h hU hk)
  have HK := Lib.hid hK
  have HEN := Lib.hid hE
  have HUU := Lib.hid hU
  clear h hU hk hK hE
  go_enter Tryz.func163, Tryz.ntmps163
  go_wp2_with fail
  refine HV.out.mono ?_
  rintro e w1 ⟨A1, n1, c1, rfl, hr1, hb1⟩
  have hn1 : n1 ≤ 64 := by have := good_len l; have := hr1.len; omega
  have HL := Lib.hid hr1.len
  have hcp := hr1.cap
  have hmx := hr1.max
  have HR1 := Lib.hid hr1
  have HB1 := Lib.hid hb1
  clear hr1 hb1 HV
  go_wp2
  go_loopw [5, 11] (fun v i wr => ∃ (k : Nat) (A2 : Option Addr) (c2 : Nat) (ks : List L), k ≤ n1 ∧ ks.length ≤ k ∧ i = .int .i64 k ∧ v = .slice A2 ks.length c2 ∧ Hid (OwnLs w1.heap.size wr A2 ks.length c2 ks) ∧ Hid (ks = ((goodT l).take k).filter q) ∧ Hid (Below w1.heap.size w1 wr)) (fun _ i _ => n1 - (intOf i).toNat)
  case atStart => exact ⟨0, none, 0, [], by omega, Nat.le_refl _, rfl, rfl, OwnG.nil _ _ _, rfl, Below.refl _ _⟩
  case round =>
    obtain ⟨k, A2, c2, ks, hk, hkl, rfl, rfl, HO, HE, HB⟩ := hrel
    by_cases hlt : k < n1
    · have hU1 : U ≤ w1.heap.size := by have := HB1.out.size; have := HUU.out; omega
      obtain ⟨b, o, a, rfl, _, HA, d0, d1, d2, d3⟩ := atL (HR1.out.below (HB.out.mono hU1)) hlt
      have hkz : (k : Int) < (n1 : Int) := by omega
      obtain ⟨w2, hw2⟩ : ∃ w2, w2 = wr.alloc (.cells (lcs a) 35) := ⟨_, rfl⟩
      have hc2 : Cel w2 wr.heap.size 35 (lcs a) := by rw [hw2]; exact Cel.born _ _ _
      have hb2 : Below wr.heap.size wr w2 := by rw [hw2]; exact alloc_more _ _
      obtain ⟨z0, z1, z2, z3⟩ := cel4L hc2
      have HC2 := Lib.hid hc2
      have HO2 := Lib.hid (HO.out.below hb2)
      have HB2 := Lib.hid (HB.out.trans (hb2.mono HB.out.size))
      have HBW := Lib.hid (HB1.out.trans (HB2.out.mono HB1.out.size))
      have HC := Lib.hid (HK.out a w2 HBW.out)
      cases hq : q a with
      | true =>
        have HT := Lib.hid (filter_put HE.out HA.out hq)
        rw [hq] at HC
        clear hq hc2 hb2 HE HA HO
        go_wp2_with fail
        rw [← hw2]
        clear hw2
        rw [HEN.out, Oper.upon_enter]
        refine HC.out.mono ?_
        rintro e w3 ⟨rfl, hb3⟩
        obtain ⟨y0, y1, y2, y3⟩ := cel4L (HC2.out.below hb3 HC2.out.lt)
        have hlit := litL w3 a
        have hba : Below w3.heap.size w3 (w3.alloc (.cells (lcs a) 35)) := alloc_more _ _
        have hown := (HO2.out.below hb3).below hba
        have hsz := HB2.out.size
        have hs3 := hb3.size
        have HB3 := Lib.hid hb3
        go_wp2_with (at_builtin; refine wpList_appG lesP (by decide) (by decide) (by kernel_rfl) rfl (.tmp 18) (.tmp 20) rfl rfl hown rfl hlit (by omega) (by simp; omega) ?_; intro A5 c5 w5 happ)
        go_roundw
        case rel =>
          have hb4 : Below w1.heap.size w1 w5 := by
            have h1 := HB2.out.trans (HB3.out.mono HB2.out.size)
            have h2 := h1.trans (hba.mono h1.size)
            exact h2.trans happ.2.1
          refine ⟨k + 1, A5, c5, ks ++ [a], by omega, by rw [List.length_append]; simp; omega, by go_num, by rw [List.length_append]; rfl, ?_, HT.out, hb4⟩
          rw [List.length_append]
          exact happ.1
        case measure => simp [intOf]; omega
      | false =>
        have HT := Lib.hid (filter_skip HE.out HA.out hq)
        rw [hq] at HC
        clear hq hc2 hb2 HE HA HO
        go_wp2_with fail
        rw [← hw2]
        clear hw2
        rw [HEN.out, Oper.upon_enter]
        refine HC.out.mono ?_
        rintro e w3 ⟨rfl, hb3⟩
        go_wp2
        go_roundw
        case rel => exact ⟨k + 1, A2, c2, ks, by omega, by omega, by go_num, rfl, HO2.out.below hb3, HT.out, HB2.out.trans (hb3.mono HB2.out.size)⟩
        case measure => simp [intOf]; omega
    · obtain rfl : k = n1 := by omega
      have HT : Hid (ks = (goodT l).filter q) := filter_end (by rw [HL.out]; exact HE.out)
      have hkz : ¬ (k : Int) < (k : Int) := by omega
      clear hlt HE
      go_wp2
      go_ret
      exact ⟨A2, ks.length, c2, rfl, by rw [← HT.out]; exact HO.out.mono HB1.out.size, HB1.out.trans (HB.out.mono HB1.out.size)⟩
end Go.Proofs.YtoldppbakapohaaGreatDoor.Bw
end
/- What Of, Sweep and the document's own come to: a slice of the call's own that holds what is told. For all leases whose keys fit. -/
section
set_option maxRecDepth 8000
namespace Go.Proofs.YtoldppbakapohaaGreatDoor.Bw
open Go.RowKit Co By Ky Rc Ew Jw La Tb Lw
open Dw (ba ba_size ba_data ba_list alloc_more)

theorem keyIs_any (a : L) (k : List UInt8) (g : Nat) (w : World) (hg : g < w.heap.size) (hc : w.cell? ⟨g, 0, none⟩ = some (.string (ba k))) :
    Calls Tryz.prog 164 #[lv a, .pointer (some ⟨g, 0, none⟩)] w (isB (decide (a.key = k)) w) := by
  have hne : g ≠ w.heap.size := by omega
  by_cases hk : a.key = k
  · have H : Hid (decide (a.key = k) = true) := decide_eq_true hk
    have hkz := beq_key hk
    clear hk
    go_enter Tryz.func164, Tryz.ntmps164
    go_wp2
    go_ret
    exact ⟨ret_bool H.out.symm, (Below.refl _ _).alloc (Nat.le_refl _) _⟩
  · have H : Hid (decide (a.key = k) = false) := decide_eq_false hk
    have hkz := bne_key hk
    clear hk
    go_enter Tryz.func164, Tryz.ntmps164
    go_wp2
    go_ret
    exact ⟨ret_bool H.out.symm, (Below.refl _ _).alloc (Nat.le_refl _) _⟩
set_option maxHeartbeats 1000000 in
theorem of_any (A : Option Addr) (n c U : Nat) (l : List L) (k : List UInt8) (w : World) (h : RdLs U w A n c l) (hU : U ≤ w.heap.size) (hk : ∀ a ∈ l, Fk a) :
    Calls Tryz.prog 114 #[.slice A n c, .string (ba k)] w (OwL w.heap.size w (ofT l k)) := by
  obtain ⟨w0, hw0⟩ : ∃ w0, w0 = w.alloc (.cells #[.string (ba k)] 9) := ⟨_, rfl⟩
  have hc0 : Cel w0 w.heap.size 9 #[.string (ba k)] := by rw [hw0]; exact Cel.born _ _ _
  have hb0 : Below w.heap.size w w0 := by rw [hw0]; exact alloc_more _ _
  have HC := Lib.hid (those_gen 164 (fun args W => by rfl) (.pointer (some ⟨w.heap.size, 0, none⟩)) (fun a => decide (a.key = k)) A n c U l w0 (h.below (hb0.mono hU)) (Nat.le_trans hU hb0.size) hk
    (fun a W hW => keyIs_any a k w.heap.size W (Nat.lt_of_lt_of_le hc0.lt hW.size) (by rw [(hc0.below hW hc0.lt).cell]; rfl)))
  have HB0 := Lib.hid hb0
  clear h hU hk hc0 hb0
  go_enter Tryz.func114, Tryz.ntmps114
  go_wp2_with fail
  rw [← hw0]
  clear hw0
  refine HC.out.mono ?_
  rintro e w1 ⟨A1, n1, c1, rfl, ho, hb1⟩
  go_wp2
  go_ret
  exact ⟨A1, n1, c1, rfl, ho.mono HB0.out.size, HB0.out.trans (hb1.mono HB0.out.size)⟩
end Go.Proofs.YtoldppbakapohaaGreatDoor.Bw
end
/- What boarderlaw12's Great comes to: at most 200 leases, of keys of at most 1000 bytes. -/
section
set_option maxRecDepth 8000
namespace Go.Proofs.YtoldppbakapohaaGreatDoor.Bw
open Go.RowKit Co By Ky Rc Ew Jw La Tb Lw
open Dw (ba ba_size ba_data ba_list alloc_more)

theorem greatT_any (A : Option Addr) (n c U : Nat) (l : List L) (w : World) (h : RdLs U w A n c l) (hk : ∀ a ∈ l, Fk a) :
    Calls Tryz.prog 73 #[.slice A n c] w fun e w' => e = .returned (.bool (greatL l)) ∧ w = w' := by
  have HX := Lib.hid h
  have HL := Lib.hid h.len
  have HF := Lib.hid hk
  have hm := h.max
  have hc := h.cap
  clear h hk
  go_enter Tryz.func73, Tryz.ntmps73
  go_wp2
  go_loopw [3] (fun v wr => ∃ k : Nat, v = .int .i64 k ∧ k ≤ n ∧ Hid (∀ a ∈ l.take k, a.key.length ≤ 1000) ∧ w = wr) (fun v _ => n - (intOf v).toNat)
  case atStart => exact ⟨0, rfl, by omega, fun a ha => by simp at ha, rfl⟩
  case round =>
    obtain ⟨k, rfl, hk2, HE, rfl⟩ := hrel
    by_cases hlt : k < n
    · obtain ⟨b, o, a, rfl, _, HA, _, _, _, c3⟩ := atL HX.out hlt
      have hkz : (k : Int) < (n : Int) := by omega
      have hfa : a.key.length ≤ 9223372036854775807 := HF.out a (List.mem_of_getElem? HA.out)
      have hbs := ba_size a.key
      by_cases hv : 1000 < a.key.length
      · have HT : Hid (greatL l = true) := by
          show _ = _
          unfold greatL
          rw [decide_eq_true (show ∃ a ∈ l, 1000 < a.key.length from ⟨a, List.mem_of_getElem? HA.out, hv⟩)]
          rfl
        have hvz : ((ba a.key).size : Int) > 1000 := by rw [hbs]; omega
        clear hv HE HA
        go_wp2
        go_ret
        exact ⟨ret_bool HT.out.symm, rfl⟩
      · have HT : Hid (∀ a ∈ l.take (k + 1), a.key.length ≤ 1000) := by
          show ∀ a ∈ _, _
          rw [take_nextL HA.out]
          intro u hu
          rcases List.mem_append.1 hu with hu | hu
          · exact HE.out u hu
          · simp at hu
            subst hu
            omega
        have hvz : ¬ ((ba a.key).size : Int) > 1000 := by rw [hbs]; omega
        clear hv HE HA
        go_wp2
        go_roundw
        case rel => exact ⟨k + 1, by go_num, by omega, HT.out, trivial⟩
        case measure => simp [intOf]; omega
    · have HT : Hid (greatL l = decide (200 < n)) := by
        show _ = _
        obtain rfl : k = n := by omega
        unfold greatL
        rw [HL.out, decide_eq_false (show ¬ ∃ a ∈ l, 1000 < a.key.length from ?_)]
        · rfl
        · rintro ⟨a, ha, hv⟩
          have := HE.out a (by rw [List.take_of_length_le (by rw [HL.out]; exact Nat.le_refl _)]; exact ha)
          omega
      have hkz : ¬ (k : Int) < (n : Int) := by omega
      clear hlt HE
      go_wp2
      go_ret
      exact ⟨by rw [HT.out]; simp; omega, rfl⟩
end Go.Proofs.YtoldppbakapohaaGreatDoor.Bw
end
/- What slices.Grow of nil and slices.Concat at leases come to. Conditions: for Concat, 1000 leases together at most. -/
section
set_option maxRecDepth 8000
namespace Go.Proofs.YtoldppbakapohaaGreatDoor.Bw
open Go.RowKit Co By Ky Rc Ew Jw Lw
open Dw (ba ba_size ba_data ba_list alloc_more)

/-- A call that answers a slice whose array is its own. -/
def RCL (w : World) (n : Nat) (l : List L) (e : Ending) (w' : World) : Prop := ∃ A c, e = .returned (.slice A n c) ∧ OwnLs w.heap.size w' A n c l ∧ Below w.heap.size w w'
theorem growL_nil (n : Nat) (w : World) (hn : n ≤ 1000) :
    Calls Tryz.prog 111 #[.slice none 0 0, .int .i64 (n : Int)] w (RCL w 0 []) := by
  by_cases h0 : n = 0
  · subst h0
    go_enter Tryz.func111, Tryz.ntmps111
    go_wp2
    go_ret
    exact ⟨none, 0, rfl, OwnG.nil _ _ _, Below.refl _ _⟩
  · have hpos : 0 < n := by omega
    obtain ⟨i0, hi0, hz0, hz1, hz2⟩ := info_parts lesP.hi
    have hrun := fun ty => Lib.run_append_nil_zeros (P := Tryz.prog) w 25 3 ty 35 i0 _ .i64 .i64 Tryz.underlying25 Tryz.underlying3 hi0 hz0 n hpos (by rw [hz1]; decide) (by omega) (by rw [hz2]; omega)
    have hge := grownCap_ge w n 0 35
    have hcm := grownCap_le_maxLen w n 0 35 (by unfold maxLen; omega)
    generalize grownCap w n 0 35 = G at hrun hge hcm
    generalize hcs : (Builtin.zeroCells (Value.agg #[.int .i64 0, .int .i64 0, .int .i64 0, .string ⟨#[]⟩]).cells n ++ Builtin.zeroCells (Value.agg #[.int .i64 0, .int .i64 0, .int .i64 0, .string ⟨#[]⟩]).cells (G - n)) = cs at hrun
    have hsz : cs.size = G * 4 := by
      rw [← hcs, Array.size_append, size_zeroCells, size_zeroCells]
      show n * 4 + (G - n) * 4 = G * 4
      omega
    have HR := Lib.hid hrun
    have HS := Lib.hid hsz
    have HM := Lib.hid hcm
    have hcm2 : G ≤ 9223372036854775807 := by unfold maxLen at hcm; omega
    clear hrun hsz hcm hcs hi0 hz0 hz1 hz2 h0
    go_enter Tryz.func111, Tryz.ntmps111
    go_wp2_with (at_builtin; refine Lib.wpList_append_run _ rfl (.tmp 20) (.tmp 21) _ _ rfl _ _ rfl rfl _ _ (HR.out _) ?_)
    go_ret
    exact ⟨some ⟨w.heap.size, 0, none⟩, G, rfl, ⟨(World.ownsRow_made w cs G (Nat.le_refl _) HM.out HS.out).drew, rfl⟩, ((Below.refl _ _).alloc (Nat.le_refl _) _).drew⟩

/-- A part of a list of leases. -/
structure PartL where
  A : Option Addr
  c : Nat
  l : List L
def PartsL (w : World) (b o : Nat) (qs : List PartL) : Prop :=
  ∀ i (h : i < qs.length), w.cell? ⟨b, o + i, none⟩ = some (.slice qs[i].A qs[i].l.length qs[i].c) ∧ RdLs w.heap.size w qs[i].A qs[i].l.length qs[i].c qs[i].l
theorem PartsL.below {w w' : World} {b o : Nat} {qs : List PartL} (h : PartsL w b o qs) (hb : Below w.heap.size w w') : PartsL w' b o qs := fun i hi =>
  ⟨(hb.cell (World.block_lt_of_cell? w _ (h i hi).1)).trans (h i hi).1, ((h i hi).2.below hb).mono hb.size⟩
def totP (qs : List PartL) : Nat := (qs.map fun p => p.l.length).sum
def catP (qs : List PartL) : List L := qs.flatMap (·.l)
theorem totP_next {qs : List PartL} {k : Nat} (h : k < qs.length) : totP (qs.take (k + 1)) = totP (qs.take k) + (qs[k]).l.length := by
  unfold totP
  rw [List.take_succ_eq_append_getElem h]
  simp only [List.map_append, List.sum_append, List.map_cons, List.map_nil, List.sum_cons, List.sum_nil, Nat.add_zero]
theorem catP_next {qs : List PartL} {k : Nat} (h : k < qs.length) : catP (qs.take (k + 1)) = catP (qs.take k) ++ (qs[k]).l := by
  unfold catP
  rw [List.take_succ_eq_append_getElem h, List.flatMap_append]
  simp only [List.flatMap_cons, List.flatMap_nil, List.append_nil]
theorem totP_le (qs : List PartL) (k : Nat) : totP (qs.take k) ≤ totP qs := by
  have h : totP (qs.take k) + totP (qs.drop k) = totP qs := by
    unfold totP
    rw [← List.sum_append, ← List.map_append, List.take_append_drop]
  omega
set_option maxHeartbeats 1000000 in
theorem concatL_any (b o N c : Nat) (qs : List PartL) (w : World) (h : PartsL w b o qs) (hN : qs.length = N) (hc : c ≤ 9223372036854775807) (hNc : N ≤ c) (ht : totP qs ≤ 1000) :
    Calls Tryz.prog 65 #[.slice (some ⟨b, o, none⟩) N c] w (RCL w (totP qs) (catP qs)) := by
  have HN := Lib.hid hN
  clear hN
  go_enter Tryz.func65, Tryz.ntmps65
  go_wp2
  go_loop [3, 11] (fun v i => ∃ k : Nat, k ≤ N ∧ i = .int .i64 k ∧ v = .int .i64 (totP (qs.take k) : Nat)) (fun _ i => N - (intOf i).toNat)
  case atStart => exact ⟨0, by omega, rfl, rfl⟩
  case round =>
    obtain ⟨k, hk, rfl, rfl⟩ := hrel
    have hle := totP_le qs k
    by_cases hlt : k < N
    · have hkl : k < qs.length := by have := HN.out; omega
      have hcell := (h k hkl).1
      have H := Lib.hid (totP_next hkl)
      have hle2 := totP_le qs (k + 1)
      rw [totP_next hkl] at hle2
      generalize qs[k].l.length = m at hcell H hle2
      generalize qs[k].A = A' at hcell
      generalize qs[k].c = c' at hcell
      generalize totP (qs.take k) = x at H hle hle2
      clear hkl
      go_wp2
      go_round
      case rel => exact ⟨k + 1, by omega, by go_num, by rw [H.out]; go_num⟩
      case measure => simp [intOf]; omega
    · obtain rfl : k = N := by omega
      have H := Lib.hid (show qs.take k = qs from List.take_of_length_le (by have := HN.out; omega))
      rw [H.out]
      go_wp2_with fail
      refine (growL_nil _ _ ht).mono ?_
      rintro e w1 ⟨A1, c1, rfl, hown0, hb1⟩
      go_wp2
      go_loopw [6, 27] (fun v i wr => ∃ (j : Nat) (A2 : Option Addr) (c2 : Nat), j ≤ k ∧ i = .int .i64 j ∧ v = .slice A2 (totP (qs.take j)) c2 ∧ OwnLs w.heap.size wr A2 (totP (qs.take j)) c2 (catP (qs.take j)) ∧ Below w.heap.size w wr) (fun _ i _ => k - (intOf i).toNat)
      case atStart => exact ⟨0, A1, c1, by omega, rfl, rfl, hown0, hb1⟩
      case round =>
        obtain ⟨j, A2, c2, hj, rfl, rfl, hown, hb⟩ := hrel
        have hle3 := totP_le qs j
        by_cases hlt2 : j < k
        · have hkl : j < qs.length := by have := HN.out; omega
          have hP := h.below hb
          have hcell := (hP j hkl).1
          have hbs := (hP j hkl).2
          have H1 := Lib.hid (totP_next hkl)
          have H2 := Lib.hid (catP_next hkl)
          have hle2 := totP_le qs (j + 1)
          rw [totP_next hkl] at hle2
          generalize qs[j] = p at hcell H1 H2 hle2 hbs
          clear hP
          clear hkl
          generalize totP (qs.take j) = x at H1 hle3 hle2 hown
          generalize catP (qs.take j) = y at H2 hown
          go_wp2_with (at_builtin; refine wpList_appG lesP (by decide) (by decide) (by kernel_rfl) rfl (.tmp 31) (.tmp 32) rfl rfl hown rfl hbs (by omega) (by have := hb.size; omega) ?_; intro A3 c3 w3 happ)
          go_roundw
          case rel => exact ⟨j + 1, A3, c3, by omega, by go_num, by rw [H1.out], by rw [H1.out, H2.out]; exact happ.1, hb.trans happ.2.1⟩
          case measure => simp [intOf]; omega
        · obtain rfl : j = k := by omega
          go_wp2
          go_ret
          rw [H.out] at hown
          exact ⟨A2, c2, by rw [H.out]; rfl, hown, hb⟩
end Go.Proofs.YtoldppbakapohaaGreatDoor.Bw
end
/- What Set comes to. For all leases whose keys fit. -/
section
set_option maxRecDepth 8000
namespace Go.Proofs.YtoldppbakapohaaGreatDoor.Bw
open Go.RowKit Co By Ky Rc Ew Jw La Tb Lw
open Dw (ba ba_size ba_data ba_list alloc_more)

/-- What a call that answers leases of the call's own and an error answers. -/
def StR (w : World) (p : List L × Int) (e : Ending) (w' : World) : Prop := ∃ A' k c', e = .returned (.tuple #[.slice A' k c', .int .i64 p.2]) ∧ OwnLs w.heap.size w' A' k c' p.1 ∧ Below w.heap.size w w'
theorem cat3_any (U : Nat) (A1 A3 : Option Addr) (n1 c1 n3 c3 : Nat) (l1 l3 : List L) (a : L) (w : World) (h1 : RdLs U w A1 n1 c1 l1) (h3 : RdLs U w A3 n3 c3 l3) (hU : U ≤ w.heap.size) (hn : n1 + n3 ≤ 900) :
    Calls Tryz.prog 65 #[.slice (some ⟨w.heap.size + 1, 0, none⟩) 3 3] ((w.alloc (.cells (lcs a) 35)).alloc (.cells #[.slice A1 n1 c1, .slice (some ⟨w.heap.size, 0, none⟩) 1 1, .slice A3 n3 c3] 25)) (OwL w.heap.size w (l1 ++ a :: l3)) := by
  have e1 := h1.len
  have e3 := h3.len
  have hsz : ((w.alloc (.cells (lcs a) 35)).alloc (.cells #[.slice A1 n1 c1, .slice (some ⟨w.heap.size, 0, none⟩) 1 1, .slice A3 n3 c3] 25)).heap.size = w.heap.size + 2 := by simp
  have hal : Below w.heap.size w (w.alloc (.cells (lcs a) 35)) := alloc_more _ _
  have hal2 : Below w.heap.size w ((w.alloc (.cells (lcs a) 35)).alloc (.cells #[.slice A1 n1 c1, .slice (some ⟨w.heap.size, 0, none⟩) 1 1, .slice A3 n3 c3] 25)) := hal.alloc (by simp) _
  have hcp := Cel.born (w.alloc (.cells (lcs a) 35)) 25 #[.slice A1 n1 c1, .slice (some ⟨w.heap.size, 0, none⟩) 1 1, .slice A3 n3 c3]
  rw [show (w.alloc (.cells (lcs a) 35)).heap.size = w.heap.size + 1 by simp] at hcp
  have hlit := litL w a
  have hparts : PartsL ((w.alloc (.cells (lcs a) 35)).alloc (.cells #[.slice A1 n1 c1, .slice (some ⟨w.heap.size, 0, none⟩) 1 1, .slice A3 n3 c3] 25)) (w.heap.size + 1) 0 [⟨A1, c1, l1⟩, ⟨some ⟨w.heap.size, 0, none⟩, 1, [a]⟩, ⟨A3, c3, l3⟩] := by
    intro i hi
    rw [hsz]
    match i, hi with
    | 0, _ => exact ⟨by rw [hcp.cell]; show _ = some (Value.slice A1 l1.length c1); rw [e1]; rfl, by show RdLs _ _ A1 l1.length c1 l1; rw [e1]; exact (h1.below (hal2.mono hU)).mono (by omega)⟩
    | 1, _ => exact ⟨by rw [hcp.cell]; rfl, (hlit.below ((Below.refl _ _).alloc (by simp) _)).mono (by omega)⟩
    | 2, _ => exact ⟨by rw [hcp.cell]; show _ = some (Value.slice A3 l3.length c3); rw [e3]; rfl, by show RdLs _ _ A3 l3.length c3 l3; rw [e3]; exact (h3.below (hal2.mono hU)).mono (by omega)⟩
  have htot : totP [(⟨A1, c1, l1⟩ : PartL), ⟨some ⟨w.heap.size, 0, none⟩, 1, [a]⟩, ⟨A3, c3, l3⟩] = n1 + (1 + n3) := by
    simp only [totP, List.map_cons, List.map_nil, List.sum_cons, List.sum_nil, e1, e3, List.length_cons, List.length_nil]
    omega
  have hcat : catP [(⟨A1, c1, l1⟩ : PartL), ⟨some ⟨w.heap.size, 0, none⟩, 1, [a]⟩, ⟨A3, c3, l3⟩] = l1 ++ a :: l3 := by simp [catP]
  refine (concatL_any (w.heap.size + 1) 0 3 3 _ _ hparts rfl (by omega) (by omega) (by rw [htot]; omega)).mono ?_
  rintro e w' ⟨A5, c5, rfl, hown, hb5⟩
  rw [hcat] at hown
  rw [hsz] at hown hb5
  exact ⟨A5, _, c5, rfl, hown.mono (by omega), hal2.trans (hb5.mono (by omega))⟩
/-! ### What is set -/
theorem set_found {t : List L} {l : L} (hr : RightR l) (h : hasT (goodT t) l.addr = true) : posT (goodT t) l.addr < (goodT t).length ∧ setT t l = ((goodT t).take (posT (goodT t) l.addr) ++ l :: (goodT t).drop (posT (goodT t) l.addr + 1), 0) := by
  have hg := good_right t
  rcases has_get (t := goodT t) (a := l.addr) with ⟨_, x, hx, hxa, _⟩ | ⟨hh, _⟩ | hbad
  · have hlt : posT (goodT t) l.addr < (goodT t).length := (List.getElem?_eq_some_iff.1 hx).1
    have hp := put_found hg.2.2 hlt (by rw [getD_of hx]; exact hxa)
    refine ⟨hlt, ?_⟩
    rw [set_ok hr (by rw [hp, found_len hlt]; exact hg.1), hp]
  · rw [hh] at h; cases h
  · exact absurd hg.2.2 hbad
theorem set_gap {t : List L} {l : L} (h : hasT (goodT t) l.addr = false) : putT (goodT t) l = (goodT t).take (posT (goodT t) l.addr) ++ l :: (goodT t).drop (posT (goodT t) l.addr) := by
  have hg := good_right t
  refine put_between hg.2.2 fun k => ?_
  have := first_pos hg.2.2 l.addr
  rw [if_pos k] at this
  unfold hasT at h
  rw [this] at h
  cases h
theorem set_between {t : List L} {l : L} (hr : RightR l) (h : hasT (goodT t) l.addr = false) (hn : ¬ (goodT t).length = 64) : setT t l = ((goodT t).take (posT (goodT t) l.addr) ++ l :: (goodT t).drop (posT (goodT t) l.addr), 0) := by
  have hg := good_len t
  have hp := set_gap h
  rw [set_ok hr (by rw [hp, between_len]; omega), hp]
theorem set_over {t : List L} {l : L} (hr : RightR l) (h : hasT (goodT t) l.addr = false) (hn : (goodT t).length = 64) : setT t l = ([], 3) := by
  rw [set_full hr (by rw [set_gap h, between_len]; omega)]
set_option maxHeartbeats 4000000 in
theorem set_any (A : Option Addr) (n c U : Nat) (l : List L) (x : L) (w : World) (h : RdLs U w A n c l) (hU : U ≤ w.heap.size) (hk : ∀ a ∈ l, Fk a) (hx : Fk x) :
    Calls Tryz.prog 29 #[.slice A n c, lv x] w (StR w (setT l x)) := by
  obtain ⟨w0, hw0⟩ : ∃ w0, w0 = w.alloc (.cells (lcs x) 35) := ⟨_, rfl⟩
  have hc0 : Cel w0 w.heap.size 35 (lcs x) := by rw [hw0]; exact Cel.born _ _ _
  have hb0 : Below w.heap.size w w0 := by rw [hw0]; exact alloc_more _ _
  have HC0 := Lib.hid hc0
  have HB0 := Lib.hid hb0
  have HR := Lib.hid (Ew.right_any x w0 hx)
  cases hr : rightR x with
  | false =>
    rw [hr] at HR
    have HT : Hid (setT l x = ([], 1)) := set_bad (of_decide_eq_false hr)
    clear h hU hk hr hc0 hb0 HC0
    go_enter Tryz.func29, Tryz.ntmps29
    go_wp2_with fail
    rw [← hw0]
    clear hw0
    refine HR.out.mono ?_
    rintro e w1 ⟨rfl, hb1⟩
    go_wp2
    go_ret2
    exact ⟨none, 0, 0, by rw [HT.out]; rfl, by rw [HT.out]; exact OwnG.nil _ _ _, HB0.out.trans (hb1.mono HB0.out.size)⟩
  | true =>
    rw [hr] at HR
    have HRR := Lib.hid (show RightR x from of_decide_eq_true hr)
    have HX := Lib.hid h
    have HK := Lib.hid hk
    have HUU := Lib.hid hU
    clear h hU hk hr hc0 hb0
    go_enter Tryz.func29, Tryz.ntmps29
    go_wp2_with fail
    rw [← hw0]
    clear hw0
    refine HR.out.mono ?_
    rintro e w1 ⟨rfl, hb1⟩
    have hb01 := HB0.out.trans (hb1.mono HB0.out.size)
    have HB1 := Lib.hid hb01
    have HC1 := Lib.hid (HC0.out.below hb1 HC0.out.lt)
    have HV := Lib.hid (valid_any A n c U l w1 (HX.out.below (hb01.mono HUU.out)) (Nat.le_trans HUU.out hb01.size) HK.out)
    clear hb1 hb01 HR HC0 HB0
    go_wp2_with fail
    refine HV.out.mono ?_
    rintro e w2 ⟨A1, n1, c1, rfl, hr1, hb2⟩
    have hn1 : n1 ≤ 64 := by have := good_len l; have := hr1.len; omega
    have hb02 := HB1.out.trans (hb2.mono HB1.out.size)
    have HP := Lib.hid (place_any A1 n1 c1 U (goodT l) x.addr w2 hr1 (Nat.le_trans HUU.out hb02.size) (good_right l).2.2 hn1)
    have hc2 := HC1.out.below hb2 HC1.out.lt
    have z0 : w2.cell? ⟨w.heap.size, 0, none⟩ = some (.int .i64 x.addr) := (cel4L hc2).1
    have HC2 := Lib.hid hc2
    have HR2 := Lib.hid hr1
    have HB2 := Lib.hid hb02
    have HL := Lib.hid hr1.len
    have hcp := hr1.cap
    have hmx := hr1.max
    clear hr1 hb2 hb02 hc2 HV HC1 HB1
    obtain ⟨p, hp⟩ : ∃ p, p = posT (goodT l) x.addr := ⟨_, rfl⟩
    have hpn : p ≤ n1 := by rw [hp, ← HL.out]; exact pos_le _ _
    cases hh : hasT (goodT l) x.addr with
    | true =>
      obtain ⟨hlt, hset⟩ := set_found HRR.out hh
      rw [← hp] at hset hlt
      rw [hh, ← hp] at HP
      have hpl : p < n1 := by rw [← HL.out]; exact hlt
      have HT := Lib.hid hset
      clear hset hh hp hlt
      go_wp2_with fail
      refine HP.out.mono ?_
      rintro e w3 ⟨rfl, hb3⟩
      have hb03 := HB2.out.trans (hb3.mono HB2.out.size)
      have hr3 := HR2.out.below (hb3.mono (Nat.le_trans HUU.out HB2.out.size))
      obtain ⟨A4, hA4, hrun4⟩ := lesP.cut_h hr3 p (p : Int) rfl hpn
      obtain ⟨A5, hA5, hrun5⟩ := lesP.cut_l hr3 p (p : Int) rfl hpn
      obtain ⟨A6, hA6, hrun6⟩ := lesP.cut_l hA5 1 1 rfl (by omega)
      have HC3 := Lib.hid (HC2.out.below hb3 HC2.out.lt)
      have HB3 := Lib.hid hb03
      have HU3 := Lib.hid (Nat.le_trans HUU.out hb03.size)
      have HA4 := Lib.hid hA4
      have HA6 := Lib.hid hA6
      clear hb3 hb03 hr3 hA4 hA5 hA6 HP HR2 HB2 HC2 z0
      go_wp2_with fail
      go_quiet (fail)
      rename_i nq
      obtain ⟨wq, hwq⟩ : ∃ wq, wq = w3.drewN nq := ⟨_, rfl⟩
      have hbq : Below w3.heap.size w3 wq := by rw [hwq]; exact below_drewN (Below.refl _ _) nq
      obtain ⟨z0, z1, z2, z3⟩ := cel4L (HC3.out.below hbq HC3.out.lt)
      have HCC := Lib.hid (cat3_any U A4 A6 p c1 (n1 - p - 1) (c1 - p - 1) _ _ x wq (HA4.out.below (hbq.mono HU3.out)) (HA6.out.below (hbq.mono HU3.out)) (Nat.le_trans HU3.out hbq.size) (by omega))
      have HBQ := Lib.hid (HB3.out.trans (hbq.mono HB3.out.size))
      rw [← hwq]
      clear hwq hbq
      go_wp2_with fail
      refine HCC.out.mono ?_
      rintro e w5 ⟨A7, n7, c7, rfl, ho, hb5⟩
      go_wp2
      go_ret2
      refine ⟨A7, n7, c7, by rw [HT.out]; rfl, ?_, HBQ.out.trans (hb5.mono HBQ.out.size)⟩
      rw [HT.out]
      have e : ((goodT l).drop p).drop 1 = (goodT l).drop (p + 1) := by rw [List.drop_drop]
      rw [e] at ho
      exact ho.mono HBQ.out.size
    | false =>
      rw [hh, ← hp] at HP
      by_cases h64 : n1 = 64
      · have HT : Hid (setT l x = ([], 3)) := set_over HRR.out hh (by rw [HL.out]; exact h64)
        clear hh hp
        subst h64
        go_wp2_with fail
        refine HP.out.mono ?_
        rintro e w3 ⟨rfl, hb3⟩
        have hb03 := HB2.out.trans (hb3.mono HB2.out.size)
        have hr3 := HR2.out.below (hb3.mono (Nat.le_trans HUU.out HB2.out.size))
        obtain ⟨A4, hA4, hrun4⟩ := lesP.cut_h hr3 p (p : Int) rfl hpn
        obtain ⟨A5, hA5, hrun5⟩ := lesP.cut_l hr3 p (p : Int) rfl hpn
        have HB3 := Lib.hid hb03
        clear hb3 hb03 hr3 hA4 hA5 HP HR2 HB2 HC2 z0
        go_wp2_with fail
        go_quiet (fail)
        rename_i nq
        have HBQ := Lib.hid (below_drewN HB3.out nq)
        go_wp2
        go_ret2
        exact ⟨none, 0, 0, by rw [HT.out]; rfl, by rw [HT.out]; exact OwnG.nil _ _ _, HBQ.out⟩
      have hset := set_between HRR.out hh (by rw [HL.out]; exact h64)
      rw [← hp] at hset
      have hz64 : ((n1 : Int) == 64) = false := by simpa using (show ¬ (n1 : Int) = 64 by omega)
      have HT := Lib.hid hset
      clear hset hh hp h64
      go_wp2_with fail
      refine HP.out.mono ?_
      rintro e w3 ⟨rfl, hb3⟩
      have hb03 := HB2.out.trans (hb3.mono HB2.out.size)
      have hr3 := HR2.out.below (hb3.mono (Nat.le_trans HUU.out HB2.out.size))
      obtain ⟨A4, hA4, hrun4⟩ := lesP.cut_h hr3 p (p : Int) rfl hpn
      obtain ⟨A5, hA5, hrun5⟩ := lesP.cut_l hr3 p (p : Int) rfl hpn
      have HC3 := Lib.hid (HC2.out.below hb3 HC2.out.lt)
      have HB3 := Lib.hid hb03
      have HU3 := Lib.hid (Nat.le_trans HUU.out hb03.size)
      have HA4 := Lib.hid hA4
      have HA5 := Lib.hid hA5
      clear hb3 hb03 hr3 hA4 hA5 HP HR2 HB2 HC2 z0
      go_wp2_with fail
      go_quiet (fail)
      rename_i nq
      obtain ⟨wq, hwq⟩ : ∃ wq, wq = w3.drewN nq := ⟨_, rfl⟩
      have hbq : Below w3.heap.size w3 wq := by rw [hwq]; exact below_drewN (Below.refl _ _) nq
      obtain ⟨z0, z1, z2, z3⟩ := cel4L (HC3.out.below hbq HC3.out.lt)
      have HCC := Lib.hid (cat3_any U A4 A5 p c1 (n1 - p) (c1 - p) _ _ x wq (HA4.out.below (hbq.mono HU3.out)) (HA5.out.below (hbq.mono HU3.out)) (Nat.le_trans HU3.out hbq.size) (by omega))
      have HBQ := Lib.hid (HB3.out.trans (hbq.mono HB3.out.size))
      rw [← hwq]
      clear hwq hbq
      go_wp2_with fail
      refine HCC.out.mono ?_
      rintro e w5 ⟨A7, n7, c7, rfl, ho, hb5⟩
      go_wp2
      go_ret2
      refine ⟨A7, n7, c7, by rw [HT.out]; rfl, ?_, HBQ.out.trans (hb5.mono HBQ.out.size)⟩
      rw [HT.out]
      exact ho.mono HBQ.out.size
end Go.Proofs.YtoldppbakapohaaGreatDoor.Bw
end
/- What the document's Set comes to. For all leases whose keys fit. -/
section
set_option maxRecDepth 8000
namespace Go.Proofs.YtoldppbakapohaaGreatDoor.Bw
open Go.RowKit Co By Ky Rc Ew Jw La Tb Lw
open Dw (ba ba_size ba_data ba_list alloc_more)

end Go.Proofs.YtoldppbakapohaaGreatDoor.Bw
end
