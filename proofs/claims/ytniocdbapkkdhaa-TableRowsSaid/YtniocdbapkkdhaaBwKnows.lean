/- What boarderlaw12's Great and knows come to. -/
import Derived.Test.YtniocdbapkkdhaaBwSet
import Derived.Test.YtniocdbapkkdhaaBwOf
import Derived.Test.YtniocdbapkkdhaaLwRl
import Derived.Test.YtniocdbapkkdhaaEwEq
import Derived.BigQuiet
import Derived.Deep.QuietTactic
import Derived.Deep.RegionHeld3
set_option maxRecDepth 8000
namespace Go.Proofs.Ytniocdbapkkdhaa.Bw
open Go.RowKit Co By Ky Rc Ew Jw La Tb Lw
open Dw (ba ba_size ba_data ba_list alloc_more)

theorem greatT_any (A : Option Addr) (n c U : Nat) (l : List L) (w : World) (h : RdLs U w A n c l) (hk : ∀ a ∈ l, Fk a) :
    Calls Try.prog 9 #[.slice A n c] w fun e w' => e = .returned (.bool (greatL l)) ∧ w = w' := by
  have HX := Lib.hid h
  have HL := Lib.hid h.len
  have HF := Lib.hid hk
  have hm := h.max
  have hc := h.cap
  clear h hk
  go_enter Try.func9, Try.ntmps9
  go_wp2
  go_loopw [3] (fun v wr => ∃ k : Nat, v = .int .i64 k ∧ k ≤ n ∧ Hid (∀ a ∈ l.take k, a.key.length ≤ 1000) ∧ w = wr) (fun v _ => n - (intOf v).toNat)
  case atStart => exact ⟨0, rfl, by omega, fun a ha => by simp at ha, rfl⟩
  case round =>
    obtain ⟨k, rfl, hk2, HE, rfl⟩ := hrel
    by_cases hlt : k < n
    · obtain ⟨b, o, a, rfl, _, HA, _, _, _, c3⟩ := atL HX.out hlt
      have hkz : (k : Int) < (n : Int) := by omega
      have hfa : a.key.length ≤ 9223372036854775807 := HF.out a (List.mem_of_getElem? HA.out)
      have hbs := ba_size a.key
      by_cases hv : 1000 < a.key.length
      · have HT : Hid (greatL l = true) := by
          show _ = _
          unfold greatL
          rw [decide_eq_true (show ∃ a ∈ l, 1000 < a.key.length from ⟨a, List.mem_of_getElem? HA.out, hv⟩)]
          rfl
        have hvz : ((ba a.key).size : Int) > 1000 := by rw [hbs]; omega
        clear hv HE HA
        go_wp2
        go_ret
        exact ⟨ret_bool HT.out.symm, rfl⟩
      · have HT : Hid (∀ a ∈ l.take (k + 1), a.key.length ≤ 1000) := by
          show ∀ a ∈ _, _
          rw [take_nextL HA.out]
          intro u hu
          rcases List.mem_append.1 hu with hu | hu
          · exact HE.out u hu
          · simp at hu
            subst hu
            omega
        have hvz : ¬ ((ba a.key).size : Int) > 1000 := by rw [hbs]; omega
        clear hv HE HA
        go_wp2
        go_roundw
        case rel => exact ⟨k + 1, by go_num, by omega, HT.out, trivial⟩
        case measure => simp [intOf]; omega
    · have HT : Hid (greatL l = decide (200 < n)) := by
        show _ = _
        obtain rfl : k = n := by omega
        unfold greatL
        rw [HL.out, decide_eq_false (show ¬ ∃ a ∈ l, 1000 < a.key.length from ?_)]
        · rfl
        · rintro ⟨a, ha, hv⟩
          have := HE.out a (by rw [List.take_of_length_le (by rw [HL.out]; exact Nat.le_refl _)]; exact ha)
          omega
      have hkz : ¬ (k : Int) < (n : Int) := by omega
      clear hlt HE
      go_wp2
      go_ret
      exact ⟨by rw [HT.out]; simp; omega, rfl⟩
def eD : L := ⟨8, 3, 10, [105, 48, 49]⟩
def eB : L := ⟨7, 1, 10, [105, 48, 49]⟩
theorem e_d : setT [] eD = ([eD], 0) := by
  rw [set_ok (by decide +kernel) (by decide +kernel)]
  kernel_rfl
theorem e_b : setT [eD] eB = ([eB, eD], 0) := by
  rw [set_ok (by decide +kernel) (by decide +kernel)]
  kernel_rfl
theorem e_h9 : holdsT eB 9 = true := by decide +kernel
theorem e_h10 : holdsT eB 10 = false := by decide +kernel
theorem e_r9 : restsT eD 9 = true := by decide +kernel
theorem e_f1 : freeT [eB, eD] 8 [105, 48, 49] 9 = false := by decide +kernel
theorem e_f2 : freeT [eB, eD] 8 [105, 48, 50] 10 = true := by decide +kernel
theorem e_f3 : freeT [eB, eD] 7 [105, 48, 49] 9 = true := by decide +kernel
theorem e_f4 : freeT [eB, eD] 7 [105, 48, 50] 9 = false := by decide +kernel
theorem e_rt : rightT [eB, eD] = true := by decide +kernel
theorem e_fk : ∀ a ∈ [eB, eD], Fk a := by
  intro a ha
  simp only [List.mem_cons, List.not_mem_nil, or_false] at ha
  unfold Fk
  rcases ha with rfl | rfl <;> decide
set_option maxHeartbeats 8000000 in
theorem knows_yes (w : World) : Calls Try.prog 10 #[] w (isB true w) := by
  obtain ⟨w1, hw1⟩ : ∃ w1, w1 = (w.alloc (.cells #[.int .i64 7, .int .i64 1, .int .i64 10, .string ⟨#[105, 48, 49]⟩] 26)).alloc (.cells #[.int .i64 8, .int .i64 3, .int .i64 10, .string ⟨#[105, 48, 49]⟩] 26) := ⟨_, rfl⟩
  have hb1 : Below w.heap.size w w1 := by rw [hw1]; exact ((Below.refl _ _).alloc (Nat.le_refl _) _).alloc (by simp) _
  have hB : Cel w1 w.heap.size 26 (lcs eB) := by
    rw [hw1]
    have h := Cel.born w 26 (lcs eB)
    exact h.below (alloc_more _ _) (by simp)
  have hD : Cel w1 (w.heap.size + 1) 26 (lcs eD) := by
    rw [hw1]
    have h := Cel.born (w.alloc (.cells (lcs eB) 26)) 26 (lcs eD)
    rw [show (w.alloc (.cells (lcs eB) 26)).heap.size = w.heap.size + 1 by simp] at h
    exact h
  have hst := set_any none 0 0 w1.heap.size [] eD w1 (RdG.nil _ _) (Nat.le_refl _) (fun a ha => by cases ha) (e_fk eD (.tail _ (.head _)))
  rw [e_d] at hst
  have HST := Lib.hid hst
  have HB1 := Lib.hid hB
  have HD1 := Lib.hid hD
  have BB1 := Lib.hid hb1
  obtain ⟨x0, x1, x2, x3⟩ : w1.cell? ⟨w.heap.size + 1, 0, none⟩ = some (.int .i64 8) ∧ w1.cell? ⟨w.heap.size + 1, 1, none⟩ = some (.int .i64 3) ∧ w1.cell? ⟨w.heap.size + 1, 2, none⟩ = some (.int .i64 10) ∧ w1.cell? ⟨w.heap.size + 1, 3, none⟩ = some (.string ⟨#[105, 48, 49]⟩) := cel4L hD
  rw [hw1] at x0 x1 x2 x3
  clear hb1 hB hD hst
  go_enter Try.func10, Try.ntmps10
  go_wp2_with fail
  rw [← hw1]
  clear hw1 x0 x1 x2 x3
  refine HST.out.mono ?_
  rintro e w2 ⟨A2, n2, c2, rfl, ho2, hb2⟩
  obtain rfl : n2 = 1 := by rw [← ho2.2]; rfl
  have hB2 := HB1.out.below hb2 HB1.out.lt
  have HD2 := Lib.hid (HD1.out.below hb2 HD1.out.lt)
  have BB2 := Lib.hid (BB1.out.trans (hb2.mono BB1.out.size))
  have hst := set_any A2 1 c2 w2.heap.size [eD] eB w2 ho2.rd (Nat.le_refl _) (fun a ha => e_fk a (.tail _ ha)) (e_fk eB (.head _))
  rw [e_b] at hst
  have HST2 := Lib.hid hst
  obtain ⟨x0, x1, x2, x3⟩ := cel4L hB2
  have HB2 := Lib.hid hB2
  clear hst ho2 hb2 hB2 HST HB1 HD1 BB1
  go_wp2_with fail
  refine HST2.out.mono ?_
  rintro e w3 ⟨A3, n3, c3, rfl, ho3, hb3⟩
  clear x0 x1 x2 x3
  obtain rfl : n3 = 2 := by rw [← ho3.2]; rfl
  have hB3 := HB2.out.below hb3 HB2.out.lt
  have hD3 := HD2.out.below hb3 HD2.out.lt
  have BB3 := Lib.hid (BB2.out.trans (hb3.mono BB2.out.size))
  rcases own_cases2 ho3 with ⟨_, e3⟩ | ⟨g, rfl⟩
  · cases e3
  have hg3 := (own_lt ho3).1
  have hrd := ho3.rd
  have hcp3 := hrd.cap
  have hmx3 := hrd.max
  obtain ⟨b', o', a', eA, _, HA, o0, o1, o2, o3⟩ := atL hrd (k := 0) (by omega)
  obtain rfl : a' = eB := by have := HA.out; injection this with this; exact this.symm
  have eb : g = b' ∧ 0 = o' := by
    injection eA with eA
    injection eA with e1 e2
    exact ⟨e1, e2⟩
  obtain ⟨rfl, rfl⟩ := eb
  simp only [Nat.zero_mul, Nat.zero_add] at o0 o1 o2 o3
  have K : Hid (∀ W, Below w3.heap.size w3 W →
      (W.cell? ⟨w.heap.size, 0, none⟩ = some (.int .i64 eB.addr) ∧ W.cell? ⟨w.heap.size, 1, none⟩ = some (.int .i64 eB.state) ∧ W.cell? ⟨w.heap.size, 2, none⟩ = some (.int .i64 eB.till) ∧ W.cell? ⟨w.heap.size, 3, none⟩ = some (.string (ba eB.key))) ∧
      (W.cell? ⟨w.heap.size + 1, 0, none⟩ = some (.int .i64 eD.addr) ∧ W.cell? ⟨w.heap.size + 1, 1, none⟩ = some (.int .i64 eD.state) ∧ W.cell? ⟨w.heap.size + 1, 2, none⟩ = some (.int .i64 eD.till) ∧ W.cell? ⟨w.heap.size + 1, 3, none⟩ = some (.string (ba eD.key))) ∧
      (W.cell? ⟨g, 0, none⟩ = some (.int .i64 eB.addr) ∧ W.cell? ⟨g, 1, none⟩ = some (.int .i64 eB.state) ∧ W.cell? ⟨g, 2, none⟩ = some (.int .i64 eB.till) ∧ W.cell? ⟨g, 3, none⟩ = some (.string (ba eB.key)))) := fun W hW =>
    ⟨cel4L (hB3.below hW hB3.lt), cel4L (hD3.below hW hD3.lt),
      ⟨(hW.cell (p := ⟨g, 0, none⟩) hg3).trans o0, (hW.cell (p := ⟨g, 1, none⟩) hg3).trans o1, (hW.cell (p := ⟨g, 2, none⟩) hg3).trans o2, (hW.cell (p := ⟨g, 3, none⟩) hg3).trans o3⟩⟩
  have HRD := Lib.hid hrd
  have H1 := Lib.hid (fun W => by have := holds_any eB 9 W; rwa [e_h9] at this)
  have H2 := Lib.hid (fun W => by have := holds_any eB 10 W; rwa [e_h10] at this)
  have H3 := Lib.hid (fun W => by have := rests_any eD 9 W; rwa [e_r9] at this)
  have H4 : Hid (∀ W, Below w3.heap.size w3 W → Calls Try.prog 24 #[.slice (some ⟨g, 0, none⟩) 2 c3, .int .i64 8, .string ⟨#[105, 48, 49]⟩, .int .i64 9] W (isB false W)) := fun W hW => by
    have := free_any (some ⟨g, 0, none⟩) 2 c3 w3.heap.size [eB, eD] 8 [105, 48, 49] 9 W (HRD.out.below hW) hW.size e_fk
    rwa [e_f1] at this
  have H5 : Hid (∀ W, Below w3.heap.size w3 W → Calls Try.prog 24 #[.slice (some ⟨g, 0, none⟩) 2 c3, .int .i64 8, .string ⟨#[105, 48, 50]⟩, .int .i64 10] W (isB true W)) := fun W hW => by
    have := free_any (some ⟨g, 0, none⟩) 2 c3 w3.heap.size [eB, eD] 8 [105, 48, 50] 10 W (HRD.out.below hW) hW.size e_fk
    rwa [e_f2] at this
  have H6 : Hid (∀ W, Below w3.heap.size w3 W → Calls Try.prog 24 #[.slice (some ⟨g, 0, none⟩) 2 c3, .int .i64 7, .string ⟨#[105, 48, 49]⟩, .int .i64 9] W (isB true W)) := fun W hW => by
    have := free_any (some ⟨g, 0, none⟩) 2 c3 w3.heap.size [eB, eD] 7 [105, 48, 49] 9 W (HRD.out.below hW) hW.size e_fk
    rwa [e_f3] at this
  have H7 : Hid (∀ W, Below w3.heap.size w3 W → Calls Try.prog 24 #[.slice (some ⟨g, 0, none⟩) 2 c3, .int .i64 7, .string ⟨#[105, 48, 50]⟩, .int .i64 9] W (isB false W)) := fun W hW => by
    have := free_any (some ⟨g, 0, none⟩) 2 c3 w3.heap.size [eB, eD] 7 [105, 48, 50] 9 W (HRD.out.below hW) hW.size e_fk
    rwa [e_f4] at this
  have H8 : Hid (∀ W, Below w3.heap.size w3 W → Calls Try.prog 13 #[.slice (some ⟨g, 0, none⟩) 2 c3] W (isB true W)) := fun W hW => by
    have := Bw.right_any (some ⟨g, 0, none⟩) 2 c3 w3.heap.size [eB, eD] W (HRD.out.below hW) hW.size e_fk
    rwa [e_rt] at this
  have QB := fun W => leq_self eB W
  clear ho3 hb3 hB3 hD3 HA o0 o1 o2 o3 hrd HB2 HD2 BB2 HST2 hg3
  go_wp2_with fail
  go_region_held3 (fun W => (W.cell? ⟨w.heap.size, 0, none⟩ = some (.int .i64 eB.addr) ∧ W.cell? ⟨w.heap.size, 1, none⟩ = some (.int .i64 eB.state) ∧ W.cell? ⟨w.heap.size, 2, none⟩ = some (.int .i64 eB.till) ∧ W.cell? ⟨w.heap.size, 3, none⟩ = some (.string (ba eB.key))) ∧
      (W.cell? ⟨w.heap.size + 1, 0, none⟩ = some (.int .i64 eD.addr) ∧ W.cell? ⟨w.heap.size + 1, 1, none⟩ = some (.int .i64 eD.state) ∧ W.cell? ⟨w.heap.size + 1, 2, none⟩ = some (.int .i64 eD.till) ∧ W.cell? ⟨w.heap.size + 1, 3, none⟩ = some (.string (ba eD.key))) ∧
      (W.cell? ⟨g, 0, none⟩ = some (.int .i64 eB.addr) ∧ W.cell? ⟨g, 1, none⟩ = some (.int .i64 eB.state) ∧ W.cell? ⟨g, 2, none⟩ = some (.int .i64 eB.till) ∧ W.cell? ⟨g, 3, none⟩ = some (.string (ba eB.key))))
    (first
      | exact K.out _ (Below.refl _ _)
      | exact K.out _ (Below.refl _ _).drew
      | exact K.out _ hbx8 | exact K.out _ hbx7 | exact K.out _ hbx6 | exact K.out _ hbx5 | exact K.out _ hbx4 | exact K.out _ hbx3 | exact K.out _ hbx2 | exact K.out _ hbx1)
    (first
      | (go_simp; go_at_call 20; (with_reducible refine (H1.out _).mono ?_); rintro ee wu1 ⟨rfl, hbu1⟩; have hbx1 : Below w3.heap.size w3 wu1 := below_undrew hbu1)
      | (go_simp; go_at_call 20; (with_reducible refine (H2.out _).mono ?_); rintro ee wu2 ⟨rfl, hbu2⟩; have hbx2 : Below w3.heap.size w3 wu2 := hbx1.trans (hbu2.mono hbx1.size))
      | (go_simp; go_at_call 22; (with_reducible refine (H3.out _).mono ?_); rintro ee wu3 ⟨rfl, hbu3⟩; have hbx3 : Below w3.heap.size w3 wu3 := hbx2.trans (hbu3.mono hbx2.size))
      | (go_simp; go_at_call 24; (with_reducible refine (H4.out _ hbx3).mono ?_); rintro ee wu4 ⟨rfl, hbu4⟩; have hbx4 : Below w3.heap.size w3 wu4 := hbx3.trans (hbu4.mono hbx3.size))
      | (go_simp; go_at_call 24; (with_reducible refine (H5.out _ hbx4).mono ?_); rintro ee wu5 ⟨rfl, hbu5⟩; have hbx5 : Below w3.heap.size w3 wu5 := hbx4.trans (hbu5.mono hbx4.size))
      | (go_simp; go_at_call 24; (with_reducible refine (H6.out _ hbx5).mono ?_); rintro ee wu6 ⟨rfl, hbu6⟩; have hbx6 : Below w3.heap.size w3 wu6 := hbx5.trans (hbu6.mono hbx5.size))
      | (go_simp; go_at_call 24; (with_reducible refine (H7.out _ hbx6).mono ?_); rintro ee wu7 ⟨rfl, hbu7⟩; have hbx7 : Below w3.heap.size w3 wu7 := hbx6.trans (hbu7.mono hbx6.size))
      | (go_simp; go_at_call 13; (with_reducible refine (H8.out _ hbx7).mono ?_); rintro ee wu8 ⟨rfl, hbu8⟩; have hbx8 : Below w3.heap.size w3 wu8 := hbx7.trans (hbu8.mono hbx7.size)))
  all_goals (
    go_wp2
    go_ret
    exact ⟨rfl, BB3.out.trans (hbx8.mono BB3.out.size)⟩)
end Go.Proofs.Ytniocdbapkkdhaa.Bw
