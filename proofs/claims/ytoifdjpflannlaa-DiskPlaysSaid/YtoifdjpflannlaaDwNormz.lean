/- What disk's renumbered and normalize come to. For disks of up to 1000 entries. -/
import Derived.Test.YtoifdjpflannlaaDwGet
import Derived.Deep.RegionLaw
set_option maxRecDepth 8000
namespace Go.Proofs.Ytoifdjpflannlaa.Dw
open Go.RowKit By Dk

theorem KeepT.low {W V V' : World} (h : KeepT W V) (hb : Below W.heap.size V V') : KeepT W V' := fun i cs t fr hc h1 h2 => (hb.block i (lt_of_heap hc)).trans (h i cs t fr hc h1 h2)
theorem Nz.grown {B g B' e s n : Nat} {w w' : World} {x : Dv} {acc : List Int} {v : Value} {xs : List Value} (h : Nz B g w x acc) (ho : w.ownsRow B' e s v n xs) (h1 : e ≠ 3) (h2 : e ≠ 111) (hg : w.grownBy w' v.ownBlock) : Nz B g w' x acc := by
  obtain ⟨hgB, A, m, c, hc, hr⟩ := h
  refine ⟨hgB, A, m, c, hc.grown hg (hc.not_row ho (Ne.symm h2)), World.ownsRow.kept hr hg ?_⟩
  by_cases k : (Value.slice A m c).ownBlock = none
  · exact .inl k
  · refine .inr fun k2 => ?_
    cases hb : (Value.slice A m c).ownBlock with
    | none => exact k hb
    | some i =>
      obtain ⟨cur, e1⟩ := own_cells hr hb
      rw [hb] at k2
      obtain ⟨cur2, e2⟩ := own_cells ho k2.symm
      rw [e1] at e2
      injection e2 with e2
      injection e2 with _ e3
      exact h1 e3.symm
theorem litE (V : World) (s : N) (q : Int) : RdE (V.heap.size + 1) (V.alloc (.cells #[.string (ba s), .int .i64 q] 68)) (some ⟨V.heap.size, 0, none⟩) 1 1 [(s, q)] := by
  have := (OwnG.lit (Y := layE) 68 V [(s, q)] (by simp)).rd
  rw [show (V.alloc (.cells (layE.cells [(s, q)]).toArray 68)).heap.size = V.heap.size + 1 by simp] at this
  exact this
def ReR (B g : Nat) (W : World) (x : Dv) (acc : List Int) (l : List E) (e : Ending) (W' : World) : Prop :=
  ∃ A n c, e = .returned (.slice A n c) ∧ OwnE 68 W.heap.size W' A n c (renum l (firstsFrom acc (filesOf l))) ∧ Nz B g W' x (firstsFrom acc (filesOf l)) ∧ Below g W W' ∧ KeepT W W'
def StRe (B g : Nat) (W : World) (x : Dv) (acc : List Int) (l : List E) (n : Nat) (v i : Value) (wr : World) : Prop :=
  ∃ (k : Nat) (A1 : Option Addr) (c1 : Nat), k ≤ n ∧ i = .int .i64 k ∧ v = .slice A1 k c1 ∧ OwnE 68 W.heap.size wr A1 k c1 (renumK acc l k) ∧ Nz B g wr x (accAt acc l k) ∧ Below g W wr ∧ KeepT W wr
set_option maxHeartbeats 2000000 in
theorem renumbered_any (B g : Nat) (W : World) (x : Dv) (acc : List Int) (A : Option Addr) (n c : Nat) (l : List E) (h : Nz B g W x acc) (hB : B ≤ W.heap.size) (ha : acc.length + l.length ≤ 2000) (hl : RdE g W A n c l) :
    Calls Try.prog 80 #[.pointer (some ⟨g, 0, none⟩), .slice A n c] W (ReR B g W x acc l) := by
  have hgW : g < W.heap.size := Nat.lt_of_lt_of_le h.1 hB
  have HL := Lib.hid hl.len
  have hm := hl.max
  have hcap := hl.cap
  have hn : n ≤ 2000 := by have := hl.len; omega
  have HA := Lib.hid ha
  clear ha
  go_enter Try.func80, Try.ntmps80
  go_wp2
  go_loopw [5, 10] (fun v i wr => StRe B g W x acc l n v i wr) (fun _ i _ => n - (intOf i).toNat)
  case atStart => exact ⟨0, none, 0, by omega, rfl, rfl, OwnG.nil _ _ _, h, Below.refl _ _, KeepT.refl _⟩
  case round =>
    obtain ⟨k, A1, c1, hk, rfl, rfl, hown, hnz, hbw, hkt⟩ := hrel
    have hsz := hbw.size
    by_cases hlt : k < n
    · obtain ⟨b, o, s, f, rfl, hbg, HE, d1, d2⟩ := atE (hl.below hbw) hlt
      have H := Lib.hid (renumK_next (acc := acc) HE.out)
      have H2 := Lib.hid (acc_next (acc := acc) HE.out)
      have hlen : (accAt acc l k).length ≤ 2000 := by have := acc_len acc l k; have := HA.out; omega
      obtain ⟨w1, hw1⟩ : ∃ w1, w1 = wr.alloc (.cells #[.string (ba s), .int .i64 f] 68) := ⟨_, rfl⟩
      have hb1 : Below wr.heap.size wr w1 := by rw [hw1]; exact (Below.refl _ _).alloc (Nat.le_refl _) _
      have hc1 : Cel w1 wr.heap.size 68 #[.string (ba s), .int .i64 f] := by rw [hw1]; exact Cel.born wr _ _
      have HNUM := Lib.hid (number_any B g w1.drew x (accAt acc l k) f (hnz.below hb1.drew) (Nat.le_trans hB (Nat.le_trans hsz hb1.size)) hlen)
      have r0 : w1.cell? ⟨wr.heap.size, 0, none⟩ = some (.string (ba s)) := by rw [hc1.cell]; rfl
      have r1 : w1.cell? ⟨wr.heap.size, 1, none⟩ = some (.int .i64 f) := by rw [hc1.cell]; rfl
      have HO1 := Lib.hid (hown.below hb1)
      have hbw1 := hbw.trans (hb1.mono (Nat.le_trans (Nat.le_of_lt hgW) hsz))
      have hs1 := hb1.size
      have HK1 := Lib.hid (hkt.trans (KeepT.of_below hb1))
      have hblit : ∀ (V : World) (q : Int), RdE (V.heap.size + 1) (V.alloc (.cells #[.string (ba s), .int .i64 q] 68)) (some ⟨V.heap.size, 0, none⟩) 1 1 [(s, q)] := fun V q => litE V s q
      clear HE hown hnz hbw hkt hlen
      go_wp2_with fail
      rw [← hw1]
      clear hw1
      go_region_law (first
        | (refine step_appG entP (by decide) (by decide) (by kernel_rfl) (by rfl) (.tmp 14) (.tmp 22) (by rfl) (by rfl) hownb (by rfl) (hblit w2 _) (by omega) hszb ?_; intro A3 c3 w3 happ)
        | (go_simp; go_at_call 95; refine HNUM.out.mono ?_; rintro e w2 ⟨rfl, hnz, hb2, hk2⟩; have hk3 := hk2.undrew; have s0 : w2.cell? ⟨wr.heap.size, 0, none⟩ = some (.string (ba s)) := hk3.cell hc1 (by decide) (by decide) 0; have hown2 := hk3.own HO1.out (by decide) (by decide); have hownb := hown2.below ((Below.refl w2.heap.size w2).alloc (Nat.le_refl _) (.cells #[.string (ba s), .int .i64 (idx (accAt acc l k) f)] 68)); have hszb : W.heap.size ≤ (w2.alloc (.cells #[.string (ba s), .int .i64 (idx (accAt acc l k) f)] 68)).heap.size := (by have := hb2.size; simp; exact Nat.le_succ_of_le (Nat.le_trans hsz (Nat.le_trans hs1 this)))))
      all_goals (
        go_wp2
        go_roundw
        case rel =>
          have hal : Below w2.heap.size w2 (w2.alloc (.cells #[.string (ba s), .int .i64 (idx (accAt acc l k) f)] 68)) := (Below.refl _ _).alloc (Nat.le_refl _) _
          have hgw2 : W.heap.size ≤ w2.heap.size := by have := hb2.size; exact Nat.le_trans hsz (Nat.le_trans hs1 this)
          refine ⟨k + 1, A3, c3, by omega, by go_num, rfl, by rw [H.out]; exact happ.1, ?_, ?_, ?_⟩
          · rw [H2.out]
            exact (hnz.below hal).grown hownb.1 (by decide) (by decide) happ.2.2.1
          · exact ((hbw1.trans (below_undrewB hb2)).trans (hal.mono (by omega))).trans (happ.2.1.mono (by omega))
          · exact (HK1.out.trans (hk3.trans (KeepT.of_below hal))).low happ.2.1
        case measure => simp [intOf]; omega)
    · obtain rfl : k = n := by omega
      have H1 := Lib.hid (renumK_end (acc := acc) (l := l) (k := k) (by rw [HL.out]; exact Nat.le_refl _))
      have H2 := Lib.hid (acc_end (acc := acc) (l := l) (k := k) (by rw [HL.out]; exact Nat.le_refl _))
      rw [H1.out] at hown
      rw [H2.out] at hnz
      go_wp2
      go_ret
      exact ⟨A1, k, c1, rfl, hown, hnz, hbw, hkt⟩
end Go.Proofs.Ytoifdjpflannlaa.Dw
