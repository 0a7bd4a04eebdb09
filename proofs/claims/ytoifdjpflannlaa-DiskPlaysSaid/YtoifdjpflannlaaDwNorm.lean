/- What disk's normalizer comes to: slices.Index at ints, number, stays, normalized. For disks of up to 1000 entries. -/
import Derived.Test.YtoifdjpflannlaaDwRight
import Derived.Laws.CopyRow
import Derived.Laws.Rows
import Derived.Deep.RegionWith
set_option maxRecDepth 8000
namespace Go.Proofs.Ytoifdjpflannlaa.Dw
open Go.RowKit By Dk

/-! ### Memory -/
theorem cel_fr {w : World} {g : Nat} {t : TypeId} {cs : Array Value} (h : Cel w g t cs) (i : Nat) : w.frozen? ⟨g, i, none⟩ = false := by
  unfold Cel at h
  simp [World.frozen?, h]
theorem cel_put {w : World} {g : Nat} {t : TypeId} {cs : Array Value} (h : Cel w g t cs) (i : Nat) (v : Value) : Cel (w.setCell ⟨g, i, none⟩ v) g t (cs.setIfInBounds i v) := by
  unfold Cel at *
  rw [setCell_eq_setRow w g i cs t (0, 0) v h]
  exact setRow_heap w g cs _ t _ h
theorem grown_set (w : World) (g j : Nat) (v : Value) : w.grownBy (w.setCell ⟨g, j, none⟩ v) (some g) :=
  ⟨rfl, rfl, rfl, by simp, fun k _ hne => Below.heap_setCell w ⟨g, j, none⟩ v k (fun e => hne (by rw [e]))⟩
/-- What a row's own block holds. -/
theorem own_cells {B e s n : Nat} {w : World} {v : Value} {xs : List Value} (h : w.ownsRow B e s v n xs) {k : Nat} (hk : v.ownBlock = some k) : ∃ cur, w.heap[k]? = some (.cells cur e (0, 0)) := by
  rcases h.2 with ⟨rfl, _⟩ | ⟨g, cap, cur, rfl, _, hg, _⟩
  · simp [Value.ownBlock] at hk
  · simp [Value.ownBlock] at hk
    subst hk
    exact ⟨cur, hg⟩
/-- Blocks of other types than ints and normalizers stay. -/
def KeepT (W W' : World) : Prop := ∀ (i : Nat) (cs : Array Value) (t : TypeId) (fr : Nat × Nat), W.heap[i]? = some (.cells cs t fr) → t ≠ 3 → t ≠ 111 → W'.heap[i]? = W.heap[i]?
theorem KeepT.refl (W : World) : KeepT W W := fun _ _ _ _ _ _ _ => rfl
theorem lt_of_heap {W : World} {i : Nat} {o : Obj} (h : W.heap[i]? = some o) : i < W.heap.size := by
  rcases Nat.lt_or_ge i W.heap.size with k | k
  · exact k
  · rw [Array.getElem?_eq_none k] at h; cases h
theorem KeepT.of_below {W W' : World} (h : Below W.heap.size W W') : KeepT W W' := fun i _ _ _ hc _ _ => h.block i (lt_of_heap hc)
theorem KeepT.trans {W W' W'' : World} (h : KeepT W W') (k : KeepT W' W'') : KeepT W W'' := fun i cs t fr hc h1 h2 => (k i cs t fr ((h i cs t fr hc h1 h2).trans hc) h1 h2).trans (h i cs t fr hc h1 h2)
theorem KeepT.grown {W W' : World} {r : Option Nat} (hg : W.grownBy W' r) (hr : ∀ i, r = some i → ∃ cs t, W.heap[i]? = some (.cells cs t (0, 0)) ∧ (t = 3 ∨ t = 111)) : KeepT W W' := fun i cs t fr hc h1 h2 => by
  refine hg.block i (lt_of_heap hc) fun e => ?_
  obtain ⟨cs', t', hc', ht⟩ := hr i e.symm
  rw [hc] at hc'
  injection hc' with hc'
  injection hc' with _ e2
  subst e2
  rcases ht with ht | ht
  · exact h1 ht
  · exact h2 ht
theorem KeepT.cel {W W' : World} (h : KeepT W W') {g : Nat} {t : TypeId} {cs : Array Value} (hc : Cel W g t cs) (h1 : t ≠ 3) (h2 : t ≠ 111) : Cel W' g t cs := (h g cs t (0, 0) hc h1 h2).trans hc
theorem KeepT.own {W W' : World} (h : KeepT W W') {α : Type} {Y : Lay α} {e B : Nat} {A : Option Addr} {n c : Nat} {l : List α} (ho : OwnG Y e B W A n c l) (h1 : e ≠ 3) (h2 : e ≠ 111) : OwnG Y e B W' A n c l := by
  refine ⟨⟨ho.1.1, ?_⟩, ho.2⟩
  rcases ho.1.2 with h' | ⟨g, cap, cur, e1, e2, e3, e4⟩
  · exact .inl h'
  · exact .inr ⟨g, cap, cur, e1, e2, (h g cur e (0, 0) e3 h1 h2).trans e3, e4⟩

/-! ### Ints -/
def intV (l : List Int) : List Value := l.map fun x => .int .i64 x
theorem intV_len (l : List Int) : (intV l).length = l.length := List.length_map ..
theorem intV_get {l : List Int} {k : Nat} (h : k < l.length) : (intV l)[k]'(by rw [intV_len]; exact h) = .int .i64 l[k] := by simp [intV]
theorem elI : ElP Try.prog 36 3 (.int .i64 0) 8 := ⟨Try.underlying36, by kernel_rfl, rfl⟩
def ixI (l : List Int) (f : Int) : Int := if f ∈ l then idx l f else -1
theorem idx_hit {l : List Int} {k : Nat} {f : Int} (h : k < l.length) (he : l[k] = f) (hn : f ∉ l.take k) : f ∈ l ∧ idx l f = (k : Int) := by
  have hm : f ∈ l := he ▸ List.getElem_mem h
  refine ⟨hm, ?_⟩
  unfold idx
  have h1 : l = l.take k ++ l.drop k := (List.take_append_drop k l).symm
  have h2 : l.drop k = f :: l.drop (k + 1) := by rw [List.drop_eq_getElem_cons h, he]
  have h3 : l.idxOf f = k := by
    rw [h1, List.idxOf_append, if_neg hn, h2, List.idxOf_cons_self, List.length_take]
    omega
  rw [h3]
set_option maxHeartbeats 400000 in
theorem indexI_any (A : Option Addr) (n c : Nat) (l : List Int) (f : Int) (w : World) (h : Rd w A n c (intV l)) :
    Calls Try.prog 101 #[.slice A n c, .int .i64 f] w fun e w' => e = .returned (.int .i64 (ixI l f)) ∧ w = w' := by
  have hl : Hid (l.length = n) := by have := h.len; rwa [intV_len] at this
  have hm := h.max
  have hcap := h.cap
  go_enter Try.func101, Try.ntmps101
  go_wp2
  go_loop [8] (fun i => ∃ k : Nat, k ≤ n ∧ i = .int .i64 k ∧ f ∉ l.take k) (fun i => n - (intOf i).toNat)
  case atStart => exact ⟨0, by omega, rfl, by simp⟩
  case round =>
    obtain ⟨k, hk, rfl, hs⟩ := hrel
    have HS := Lib.hid hs
    clear hs
    by_cases hlt : k < n
    · obtain ⟨b, o, rfl, hc⟩ := h.at_ hlt
      have hkl : k < l.length := by have := hl.out; omega
      have hcell := hc k (by rw [intV_len]; exact hkl)
      rw [intV_get hkl] at hcell
      clear hc
      by_cases he : l[k] = f
      · have H : Hid (ixI l f = (k : Int)) := by
          obtain ⟨h1, h2⟩ := idx_hit hkl he HS.out
          show ixI l f = _
          unfold ixI
          rw [if_pos h1, h2]
        rw [he] at hcell
        clear he hkl
        go_wp2
        go_ret
        exact ⟨ret_int H.out.symm, rfl⟩
      · have H : Hid (f ∉ l.take (k + 1)) := by
          show ¬ _
          rw [List.take_succ_eq_append_getElem hkl]
          intro hm
          rcases List.mem_append.1 hm with hm | hm
          · exact HS.out hm
          · simp at hm; exact he hm.symm
        have hb : (f == l[k]) = false := by simp; exact fun e => he e.symm
        clear he
        generalize l[k] = y at hcell hb
        clear hkl
        go_wp2
        go_round
        case rel => exact ⟨k + 1, by omega, by go_num, H.out⟩
        case measure => simp [intOf]; omega
    · obtain rfl : k = n := by omega
      have H : Hid (ixI l f = -1) := if_neg (by have := HS.out; rwa [List.take_of_length_le (by rw [hl.out]; exact Nat.le_refl _)] at this)
      go_wp2
      go_ret
      exact ⟨ret_int H.out.symm, rfl⟩

/-! ### The normalizer -/
/-- The normalizer at g: its disk, and the numbers that have come up, in a row of its own. -/
def Nz (B g : Nat) (W : World) (x : Dv) (acc : List Int) : Prop := g < B ∧ ∃ A n c, Cel W g 111 #[.slice x.fA x.fn x.fc, .slice x.nA x.nn x.nc, .slice x.kA x.kn x.kc, .slice A n c] ∧ OwnV 3 B W A n c (intV acc)
theorem Nz.below {B g : Nat} {W W' : World} {x : Dv} {acc : List Int} (h : Nz B g W x acc) (hb : Below W.heap.size W W') : Nz B g W' x acc := by
  obtain ⟨h1, A, n, c, h2, h3⟩ := h
  exact ⟨h1, A, n, c, h2.below hb h2.lt, h3.below hb⟩
def NumR (B g : Nat) (W : World) (x : Dv) (acc : List Int) (f : Int) (e : Ending) (W' : World) : Prop := e = .returned (.int .i64 (idx acc f)) ∧ Nz B g W' x (addF acc f) ∧ Below g W W' ∧ KeepT W W'
theorem ownV_keep {e B n c : Nat} {w : World} {A : Option Addr} {xs : List Value} (h : OwnV e B w A n c xs) {g : Nat} (hg : g < B) (j : Nat) (v : Value) : OwnV e B (w.setCell ⟨g, j, none⟩ v) A n c xs := by
  refine World.ownsRow.kept h (grown_set w g j v) ?_
  by_cases k : (Value.slice A n c).ownBlock = none
  · exact .inl k
  · refine .inr fun k2 => ?_
    have := (World.ownsRow.lt h g k2).1
    omega
set_option maxHeartbeats 1000000 in
theorem number_any (B g : Nat) (W : World) (x : Dv) (acc : List Int) (f : Int) (h : Nz B g W x acc) (hB : B ≤ W.heap.size) (ha : acc.length ≤ 2000) :
    Calls Try.prog 95 #[.pointer (some ⟨g, 0, none⟩), .int .i64 f] W (NumR B g W x acc f) := by
  obtain ⟨hgB, A, n, c, hc, ho⟩ := h
  have hn : n = acc.length := by have := ho.len; rw [intV_len] at this; omega
  have hglt := hc.lt
  have k3 : W.cell? ⟨g, 3, none⟩ = some (.slice A n c) := by rw [hc.cell]; rfl
  have HI := Lib.hid (indexI_any A n c acc f W ho.rd)
  by_cases hf : f ∈ acc
  · have e1 := idx_in hf
    have H : Hid (ixI acc f = ((acc.idxOf f : Nat) : Int)) := by show ixI acc f = _; unfold ixI; rw [if_pos hf, e1.1]
    rw [H.out] at HI
    have HE := Lib.hid e1.1
    have HA := Lib.hid (add_in hf)
    have HO := Lib.hid ho
    have HC := Lib.hid hc
    clear hf e1 H ho hc hn
    generalize acc.idxOf f = j at HI HE
    go_enter Try.func95, Try.ntmps95
    go_wp2_with fail
    with_reducible refine HI.out.mono ?_
    rintro e w1 ⟨rfl, rfl⟩
    go_wp2
    go_ret
    refine ⟨ret_int HE.out.symm, ?_, Below.refl _ _, KeepT.refl _⟩
    rw [HA.out]
    exact ⟨hgB, A, n, c, HC.out, HO.out⟩
  · have H : Hid (ixI acc f = -1) := if_neg hf
    rw [H.out] at HI
    have HE := Lib.hid (idx_out hf)
    have HA := Lib.hid (add_out hf)
    have HN := Lib.hid hn
    have hnc := ho.rd.cap
    have hcm := ho.rd.max
    have hn2 : n ≤ 2000 := by omega
    clear hf H hn
    have hba : Below W.heap.size W (W.alloc (.cells #[.int .i64 f] 3)) := (Below.refl _ _).alloc (Nat.le_refl _) _
    have hlit := (OwnV.lit1 3 W (.int .i64 f)).rd
    have HO := Lib.hid (ho.below hba)
    have HC := Lib.hid (hc.below hba hglt)
    have HBL := Lib.hid (fun k hk => own_cells ho (k := k) hk)
    clear ho hc
    go_enter Try.func95, Try.ntmps95
    go_wp2_with fail
    with_reducible refine HI.out.mono ?_
    rintro e w1 ⟨rfl, rfl⟩
    go_wp2_with (at_builtin; refine wpList_appV elI rfl (.tmp 23) (.tmp 25) rfl rfl HO.out rfl hlit (by intro u hu; simp at hu; subst hu; rfl) (by unfold maxLen; omega) (by omega) (by simp; omega) ?_; intro A3 c3 w3 hown3 hb3 hg3 hw3; have hc3 : Cel w3 g 111 #[.slice x.fA x.fn x.fc, .slice x.nA x.nn x.nc, .slice x.kA x.kn x.kc, .slice A n c] := HC.out.grown hg3 (HC.out.not_row HO.out (by decide)); have k4 : w3.cell? ⟨g, 3, none⟩ = some (.slice A n c) := (by rw [hc3.cell]; rfl); have f4 := cel_fr hc3 3; have HC3 := Lib.hid hc3; have HO3 := Lib.hid hown3; clear hc3 hown3)
    go_ret
    refine ⟨ret_int (by rw [HE.out, HN.out]), ?_, ?_, ?_⟩
    · rw [HA.out]
      refine ⟨hgB, A3, n + 1, c3, cel_put HC3.out 3 _, ?_⟩
      have := ownV_keep HO3.out hgB 3 (.slice A3 (n + 1) c3)
      simpa [intV] using this
    · have b1 := hba.mono (show g ≤ W.heap.size by omega)
      have b2 := hb3.mono (show g ≤ B by omega)
      exact (b1.trans b2).setCell (p := ⟨g, 3, none⟩) (Nat.le_refl g) _
    · refine (KeepT.of_below hba).trans (KeepT.trans (KeepT.grown hg3 fun i hi => ?_) (KeepT.grown (grown_set _ _ _ _) fun i hi => ?_))
      · obtain ⟨cur, hcur⟩ := own_cells HO.out hi
        exact ⟨cur, _, hcur, .inl rfl⟩
      · injection hi with hi
        subst hi
        exact ⟨_, _, HC3.out, .inr rfl⟩

theorem below_undrewB {B : Nat} {w w' : World} (h : Below B w.drew w') : Below B w w' := ⟨h.os, h.tape, h.output, h.size, h.block⟩
theorem KeepT.undrew {w w' : World} (h : KeepT w.drew w') : KeepT w w' := fun i cs t fr hc h1 h2 => h i cs t fr hc h1 h2
theorem KeepT.cell {w w' : World} (h : KeepT w w') {g : Nat} {t : TypeId} {cs : Array Value} (hc : Cel w g t cs) (h1 : t ≠ 3) (h2 : t ≠ 111) (i : Nat) : w'.cell? ⟨g, i, none⟩ = cs[i]? := (h.cel hc h1 h2).cell i
/-- What one look of 'stays' comes to. -/
def St1R (B g : Nat) (W : World) (x : Dv) (acc : List Int) (f : Int) (e : Ending) (W' : World) : Prop := e = .returned (.bool (idx acc f != f)) ∧ Nz B g W' x (addF acc f) ∧ Below g W W' ∧ KeepT W W'
set_option maxHeartbeats 1000000 in
theorem stays1_any (B g gb : Nat) (W : World) (x : Dv) (acc : List Int) (s : N) (f : Int) (h : Nz B g W x acc) (hB : B ≤ W.heap.size) (ha : acc.length ≤ 2000) (hbx : Cel W gb 125 #[.pointer (some ⟨g, 0, none⟩)]) :
    Calls Try.prog 96 #[.agg #[.string (ba s), .int .i64 f], .pointer (some ⟨gb, 0, none⟩)] W (St1R B g W x acc f) := by
  obtain ⟨w1, hw1⟩ : ∃ w1, w1 = W.alloc (.cells #[.string (ba s), .int .i64 f] 68) := ⟨_, rfl⟩
  have hb1 : Below W.heap.size W w1 := by rw [hw1]; exact (Below.refl _ _).alloc (Nat.le_refl _) _
  have hc1 : Cel w1 W.heap.size 68 #[.string (ba s), .int .i64 f] := by rw [hw1]; exact Cel.born W _ _
  have hbx1 := hbx.below hb1 hbx.lt
  have hgW : g < W.heap.size := Nat.lt_of_lt_of_le h.1 hB
  have HNUM := Lib.hid (number_any B g w1.drew x acc f (h.below hb1.drew) (Nat.le_trans hB hb1.size) ha)
  have r1 : w1.cell? ⟨W.heap.size, 1, none⟩ = some (.int .i64 f) := by rw [hc1.cell]; rfl
  have r2 : w1.cell? ⟨gb, 0, none⟩ = some (.pointer (some ⟨g, 0, none⟩)) := by rw [hbx1.cell]; rfl
  have HB1 := Lib.hid hb1
  clear hbx hbx1 h hb1
  go_enter Try.func96, Try.ntmps96
  go_wp2_with fail
  rw [← hw1]
  clear hw1
  go_region_with ((go_at_call 95; refine HNUM.out.mono ?_; rintro e w2 ⟨rfl, hnz, hb2, hk2⟩; have hk3 := hk2.undrew; have s1 : w2.cell? ⟨W.heap.size, 1, none⟩ = some (.int .i64 f) := hk3.cell hc1 (by decide) (by decide) 1))
  all_goals (
    go_wp2
    go_ret
    exact ⟨rfl, hnz, (HB1.out.mono (by omega)).trans (below_undrewB hb2), (KeepT.of_below HB1.out).trans hk3⟩)

/-- Do the numbers of a list stay, from what has come up? -/
def staysB (acc : List Int) (l : List E) : Bool := decide (∀ i, i < l.length → hitE (fun e => idx (accAt acc l i) e.2 != e.2) l i = false)
def StR (B g : Nat) (W : World) (x : Dv) (acc : List Int) (l : List E) (e : Ending) (W' : World) : Prop :=
  ∃ acc', e = .returned (.bool (staysB acc l)) ∧ Nz B g W' x acc' ∧ (staysB acc l = true → acc' = firstsFrom acc (filesOf l)) ∧ Below g W W' ∧ KeepT W W'
theorem stays_any (B g : Nat) (W : World) (x : Dv) (acc : List Int) (A : Option Addr) (n c : Nat) (l : List E) (h : Nz B g W x acc) (hB : B ≤ W.heap.size) (ha : acc.length + l.length ≤ 2000) (hl : RdE g W A n c l) :
    Calls Try.prog 84 #[.pointer (some ⟨g, 0, none⟩), .slice A n c] W (StR B g W x acc l) := by
  have hgW : g < W.heap.size := Nat.lt_of_lt_of_le h.1 hB
  obtain ⟨w1, hw1⟩ : ∃ w1, w1 = W.alloc (.cells #[.pointer (some ⟨g, 0, none⟩)] 125) := ⟨_, rfl⟩
  have hb1 : Below W.heap.size W w1 := by rw [hw1]; exact (Below.refl _ _).alloc (Nat.le_refl _) _
  have hc1 : Cel w1 W.heap.size 125 #[.pointer (some ⟨g, 0, none⟩)] := by rw [hw1]; exact Cel.born W _ _
  have hn := hl.len
  have HC := Lib.hid (containsE_gen 96 W.heap.size Try.call96 g A n c l (fun i => hitE (fun e => idx (accAt acc l i) e.2 != e.2) l i)
    (fun k V => Nz B g V x (accAt acc l k) ∧ Below g W V ∧ KeepT w1 V ∧ B ≤ V.heap.size) w1 (hl.below (hb1.mono (by omega))) (fun k V hV => hl.below hV.2.1) ⟨h.below hb1, hb1.mono (by omega), KeepT.refl _, Nat.le_trans hB hb1.size⟩
    (fun k s f V hk hV => by
      refine (stays1_any B g W.heap.size V x (accAt acc l k) s f hV.1 hV.2.2.2 (by have := acc_len acc l k; omega) (hV.2.2.1.cel hc1 (by decide) (by decide))).mono ?_
      rintro e V' ⟨rfl, h1, h2, h3⟩
      refine ⟨by rw [hit_at hk], by rw [acc_next hk]; exact h1, hV.2.1.trans h2, hV.2.2.1.trans h3, Nat.le_trans hV.2.2.2 h2.size⟩))
  have HB1 := Lib.hid hb1
  have HL := Lib.hid hn
  clear hb1 hl h hc1 hn
  go_enter Try.func84, Try.ntmps84
  go_wp2_with fail
  rw [← hw1]
  clear hw1
  refine HC.out.mono ?_
  rintro e w2 (⟨j, hj, rfl, h1, h2, h3⟩ | ⟨rfl, h2, h3⟩)
  · have H : Hid (staysB acc l = false) := decide_eq_false fun k => absurd ((k j (by rw [HL.out]; exact hj)).symm.trans h1) (by decide)
    have H3 := Lib.hid h3
    clear h1 h2 h3
    go_wp2
    go_ret
    exact ⟨_, ret_bool H.out.symm, H3.out.1, fun k => absurd (H.out.symm.trans k) (by decide), H3.out.2.1, (KeepT.of_below HB1.out).trans H3.out.2.2.1⟩
  · have H : Hid (staysB acc l = true) := decide_eq_true (by rw [HL.out]; exact h2)
    have H3 := Lib.hid h3
    clear h2 h3
    go_wp2
    go_ret
    exact ⟨_, ret_bool H.out.symm, H3.out.1, fun _ => acc_end (by rw [HL.out]; exact Nat.le_refl _), H3.out.2.1, (KeepT.of_below HB1.out).trans H3.out.2.2.1⟩
end Go.Proofs.Ytoifdjpflannlaa.Dw
