/- The walks of TableBack and TableRows: each returns true, and what was in memory stays. For all leases whose keys fit. -/
import Derived.Test.YtniocdbapkkdhaaBwLaws
set_option maxRecDepth 8000
namespace Go.Proofs.Ytniocdbapkkdhaa
open Go.RowKit Co By Ky Rc Ew Jw La Tb Lw Bw
open Dw (ba ba_size ba_data ba_list alloc_more)

theorem Bw.last_fk {l : List L} (h : ∀ a ∈ l, Fk a) : ∀ a ∈ lastL l, Fk a := fun a ha => h a (last_sub ha)
set_option maxHeartbeats 4000000 in
theorem tableBack_walk (A : Option Addr) (n c : Nat) (ls : List L) (x : L) (y : Int) (w : World) (h : RdLs w.heap.size w A n c ls) (hfk : ∀ a ∈ ls, Fk a) (hx : Fk x) :
    Calls Try.prog 6 #[.slice A n c, lv x, .int .i64 y] w (isTrue w) := by
  obtain ⟨w0, hw0⟩ : ∃ w0, w0 = w.alloc (.cells (lcs x) 26) := ⟨_, rfl⟩
  have hb0 : Below w.heap.size w w0 := by rw [hw0]; exact alloc_more _ _
  have hc0 : Cel w0 w.heap.size 26 (lcs x) := by rw [hw0]; exact Cel.born _ _ _
  have HG := Lib.hid (Bw.greatT_any A n c w.heap.size ls w0 (h.below hb0) hfk)
  have hbs := ba_size x.key
  have B0 := Lib.hid hb0
  obtain ⟨c0, c1, c2, c3⟩ := cel4L hc0
  have HC0 := Lib.hid hc0
  cases hg : greatL ls with
  | true =>
    rw [hg] at HG
    clear hg h hfk hb0 hc0
    go_enter Try.func6, Try.ntmps6
    go_wp2_with fail
    rw [← hw0]
    clear hw0
    refine HG.out.mono ?_
    rintro e w1 ⟨rfl, rfl⟩
    go_wp2_with fail
    refine (Bw.knows_yes _).mono ?_
    rintro e wz ⟨rfl, hbz⟩
    go_wp2
    go_ret
    exact ⟨rfl, B0.out.trans (hbz.mono B0.out.size)⟩
  | false =>
    rw [hg] at HG
    by_cases hbig : 1000 < x.key.length
    · have hvz : ((ba x.key).size : Int) > 1000 := by rw [hbs]; omega
      clear hg h hfk hbig hb0 hc0
      go_enter Try.func6, Try.ntmps6
      go_wp2_with fail
      rw [← hw0]
      clear hw0
      refine HG.out.mono ?_
      rintro e w1 ⟨rfl, rfl⟩
      go_wp2_with fail
      refine (Bw.knows_yes _).mono ?_
      rintro e wz ⟨rfl, hbz⟩
      go_wp2
      go_ret
      exact ⟨rfl, B0.out.trans (hbz.mono B0.out.size)⟩
    have hvz : ¬ ((ba x.key).size : Int) > 1000 := by rw [hbs]; omega
    by_cases hy : y = x.addr
    · have hyz : (y == x.addr) = true := by simpa using hy
      clear hg h hfk hbig hb0 hc0 hy
      go_enter Try.func6, Try.ntmps6
      go_wp2_with fail
      rw [← hw0]
      clear hw0
      refine HG.out.mono ?_
      rintro e w1 ⟨rfl, rfl⟩
      go_wp2_with fail
      refine (Bw.knows_yes _).mono ?_
      rintro e wz ⟨rfl, hbz⟩
      go_wp2
      go_ret
      exact ⟨rfl, B0.out.trans (hbz.mono B0.out.size)⟩
    have hyz : (y == x.addr) = false := by simpa using hy
    have HRR := Lib.hid (Bw.refRight_any A n c w.heap.size ls w0 (h.below hb0) hb0.size hfk)
    cases hr : rightT ls with
    | false =>
      rw [hr] at HRR
      clear hg h hfk hbig hr hb0 hc0 hy
      go_enter Try.func6, Try.ntmps6
      go_wp2_with fail
      rw [← hw0]
      clear hw0
      refine HG.out.mono ?_
      rintro e w1 ⟨rfl, rfl⟩
      go_wp2_with fail
      refine HRR.out.mono ?_
      rintro e w2 ⟨rfl, hb2⟩
      have B2 := Lib.hid (B0.out.trans (hb2.mono B0.out.size))
      clear hb2
      go_wp2_with fail
      refine (Bw.knows_yes _).mono ?_
      rintro e wz ⟨rfl, hbz⟩
      go_wp2
      go_ret
      exact ⟨rfl, B2.out.trans (hbz.mono B2.out.size)⟩
    | true =>
      rw [hr] at HRR
      have HS1 := Lib.hid (fun W (hW : Below w.heap.size w W) => Bw.set_any A n c w.heap.size ls x W (h.below hW) hW.size hfk hx)
      have HGT := Lib.hid (fun W (hW : Below w.heap.size w W) => Bw.get_any A n c w.heap.size ls y W (h.below hW) hW.size hfk)
      have HFK : Hid (∀ a ∈ (setT ls x).1, Fk a) := Bw.set_fk hfk hx
      have HX := Lib.hid (fun W => Ew.refRight_any x W hx)
      rcases set_cases ls x with ⟨hr2, hs⟩ | ⟨hr2, _, hs⟩ | ⟨hr2, _, hs⟩
      · rw [hs] at HS1
        have hxr := fun W => HX.out W
        rw [show rightR x = false from decide_eq_false hr2] at hxr
        have HXR := Lib.hid hxr
        clear hg h hfk hbig hr hb0 hc0 hy hs hr2 hxr HFK HGT
        go_enter Try.func6, Try.ntmps6
        go_wp2_with fail
        rw [← hw0]
        clear hw0
        refine HG.out.mono ?_
        rintro e w1 ⟨rfl, rfl⟩
        go_wp2_with fail
        refine HRR.out.mono ?_
        rintro e w2 ⟨rfl, hb2⟩
        have B2 := Lib.hid (B0.out.trans (hb2.mono B0.out.size))
        have HC2 := Lib.hid (HC0.out.below hb2 HC0.out.lt)
        clear hb2 HRR c0 c1 c2 c3
        obtain ⟨c0, c1, c2, c3⟩ := cel4L HC2.out
        go_wp2_with fail
        refine (HS1.out _ B2.out).mono ?_
        rintro e w3 ⟨A3, n3, c3', rfl, ho3, hb3⟩
        have B3 := Lib.hid (B2.out.trans (hb3.mono B2.out.size))
        have HC3 := Lib.hid (HC2.out.below hb3 HC2.out.lt)
        clear c0 c1 c2 c3 HC2
        obtain ⟨c0, c1, c2, c3⟩ := cel4L HC3.out
        obtain rfl : n3 = 0 := ho3.2.symm
        clear ho3 hb3
        go_wp2_with fail
        refine (HXR.out _).mono ?_
        rintro e w4 ⟨rfl, hb4⟩
        have B4 := Lib.hid (B3.out.trans (hb4.mono B3.out.size))
        clear hb4
        go_wp2_with fail
        refine (Bw.knows_yes _).mono ?_
        rintro e wz ⟨rfl, hbz⟩
        go_wp2
        go_ret
        exact ⟨rfl, B4.out.trans (hbz.mono B4.out.size)⟩
      · rw [hs] at HS1
        clear hg h hfk hbig hr hb0 hc0 hy hs hr2 HFK HGT
        go_enter Try.func6, Try.ntmps6
        go_wp2_with fail
        rw [← hw0]
        clear hw0
        refine HG.out.mono ?_
        rintro e w1 ⟨rfl, rfl⟩
        go_wp2_with fail
        refine HRR.out.mono ?_
        rintro e w2 ⟨rfl, hb2⟩
        have B2 := Lib.hid (B0.out.trans (hb2.mono B0.out.size))
        have HC2 := Lib.hid (HC0.out.below hb2 HC0.out.lt)
        clear hb2 HRR c0 c1 c2 c3
        obtain ⟨c0, c1, c2, c3⟩ := cel4L HC2.out
        go_wp2_with fail
        refine (HS1.out _ B2.out).mono ?_
        rintro e w3 ⟨A3, n3, c3', rfl, ho3, hb3⟩
        have B3 := Lib.hid (B2.out.trans (hb3.mono B2.out.size))
        have HC3 := Lib.hid (HC2.out.below hb3 HC2.out.lt)
        clear c0 c1 c2 c3 HC2
        obtain ⟨c0, c1, c2, c3⟩ := cel4L HC3.out
        obtain rfl : n3 = 0 := ho3.2.symm
        clear ho3 hb3
        go_wp2_with fail
        refine (Bw.knows_yes _).mono ?_
        rintro e wz ⟨rfl, hbz⟩
        go_wp2
        go_ret
        exact ⟨rfl, B3.out.trans (hbz.mono B3.out.size)⟩
      · have hz : (setT ls x).2 = 0 := by rw [hs]
        have HG1 := Lib.hid (get_set hz)
        have HG2 := Lib.hid (get_other hz hy)
        rw [hs] at HS1 HFK HG1 HG2
        simp only at HFK HG1 HG2
        generalize putT (goodT ls) x = os at HS1 HFK HG1 HG2
        generalize getT ls y = p at HGT HG2
        obtain ⟨u, q⟩ := p
        have QX := fun W => leq_self x W
        have QU := fun W => leq_self u W
        clear hg h hfk hbig hr hb0 hc0 hy hs hr2 hz
        go_enter Try.func6, Try.ntmps6
        go_wp2_with fail
        rw [← hw0]
        clear hw0
        refine HG.out.mono ?_
        rintro e w1 ⟨rfl, rfl⟩
        go_wp2_with fail
        refine HRR.out.mono ?_
        rintro e w2 ⟨rfl, hb2⟩
        have B2 := Lib.hid (B0.out.trans (hb2.mono B0.out.size))
        have HC2 := Lib.hid (HC0.out.below hb2 HC0.out.lt)
        clear hb2 HRR c0 c1 c2 c3
        obtain ⟨c0, c1, c2, c3⟩ := cel4L HC2.out
        go_wp2_with fail
        refine (HS1.out _ B2.out).mono ?_
        rintro e w3 ⟨A3, n3, c3', rfl, ho3, hb3⟩
        have B3 := Lib.hid (B2.out.trans (hb3.mono B2.out.size))
        have HC3 := Lib.hid (HC2.out.below hb3 HC2.out.lt)
        clear c0 c1 c2 c3 HC2
        obtain ⟨c0, c1, c2, c3⟩ := cel4L HC3.out
        have HO3 := Lib.hid ho3.rd
        have hg3 := Bw.get_any A3 n3 c3' w3.heap.size os x.addr w3 ho3.rd (Nat.le_refl _) HFK.out
        rw [HG1.out] at hg3
        have HG3 := Lib.hid hg3
        clear hb3 ho3 hg3
        go_wp2_with fail
        refine HG3.out.mono ?_
        rintro e w4 ⟨rfl, hb4⟩
        have HC4 := Lib.hid (HC3.out.below hb4 HC3.out.lt)
        have HO4 := Lib.hid (HO3.out.below hb4)
        have HZ4 := Lib.hid hb4.size
        have B4 := Lib.hid (B3.out.trans (hb4.mono B3.out.size))
        clear c0 c1 c2 c3
        obtain ⟨w5, hw5⟩ : ∃ w5, w5 = w4.alloc (.cells (lcs x) 26) := ⟨_, rfl⟩
        have hb5 : Below w4.heap.size w4 w5 := by rw [hw5]; exact alloc_more _ _
        have HN5 := Lib.hid (show Cel w5 w4.heap.size 26 (lcs x) by rw [hw5]; exact Cel.born _ _ _)
        have HC5 := Lib.hid (HC4.out.below hb5 HC4.out.lt)
        have B5 := Lib.hid (B4.out.trans (hb5.mono B4.out.size))
        have HO5 := Lib.hid (HO4.out.below (hb5.mono HZ4.out))
        have HZ5 := Lib.hid (Nat.le_trans HZ4.out hb5.size)
        have hg5 := Bw.get_any A3 n3 c3' w3.heap.size os y w5 HO5.out HZ5.out HFK.out
        rw [HG2.out] at hg5
        have HG5 := Lib.hid hg5
        clear hb4 hb5 hg5
        go_wp2_with fail
        rw [← hw5]
        clear hw5
        refine HG5.out.mono ?_
        rintro e w6 ⟨rfl, hb6⟩
        have HC6 := Lib.hid (HC5.out.below hb6 HC5.out.lt)
        have HN6 := Lib.hid (HN5.out.below hb6 HN5.out.lt)
        have HO6 := Lib.hid (HO5.out.below (hb6.mono HZ5.out))
        have HZ6 := Lib.hid (Nat.le_trans HZ5.out hb6.size)
        have B6 := Lib.hid (B5.out.trans (hb6.mono B5.out.size))
        obtain ⟨w7, hw7⟩ : ∃ w7, w7 = w6.alloc (.cells (lcs u) 26) := ⟨_, rfl⟩
        have hb7 : Below w6.heap.size w6 w7 := by rw [hw7]; exact alloc_more _ _
        have HN7 := Lib.hid (show Cel w7 w6.heap.size 26 (lcs u) by rw [hw7]; exact Cel.born _ _ _)
        have HC7 := Lib.hid (HC6.out.below hb7 HC6.out.lt)
        have B7 := Lib.hid (B6.out.trans (hb7.mono B6.out.size))
        have HO7 := Lib.hid (HO6.out.below (hb7.mono HZ6.out))
        have HZ7 := Lib.hid (Nat.le_trans HZ6.out hb7.size)
        have HM7 := Lib.hid (HN6.out.below hb7 HN6.out.lt)
        clear hb6 hb7
        go_wp2_with fail
        rw [← hw7]
        clear hw7
        refine (HGT.out _ B7.out).mono ?_
        rintro e w8 ⟨rfl, hb8⟩
        have HC8 := Lib.hid (HC7.out.below hb8 HC7.out.lt)
        have HM8 := Lib.hid (HM7.out.below hb8 HM7.out.lt)
        have HN8 := Lib.hid (HN7.out.below hb8 HN7.out.lt)
        have HO8 := Lib.hid (HO7.out.below (hb8.mono HZ7.out))
        have HZ8 := Lib.hid (Nat.le_trans HZ7.out hb8.size)
        have B8 := Lib.hid (B7.out.trans (hb8.mono B7.out.size))
        obtain ⟨w9, hw9⟩ : ∃ w9, w9 = w8.alloc (.cells (lcs u) 26) := ⟨_, rfl⟩
        have hb9 : Below w8.heap.size w8 w9 := by rw [hw9]; exact alloc_more _ _
        have HN9 := Lib.hid (show Cel w9 w8.heap.size 26 (lcs u) by rw [hw9]; exact Cel.born _ _ _)
        have HC9 := Lib.hid (HC8.out.below hb9 HC8.out.lt)
        have B9 := Lib.hid (B8.out.trans (hb9.mono B8.out.size))
        have HO9 := Lib.hid (HO8.out.below (hb9.mono HZ8.out))
        have HZ9 := Lib.hid (Nat.le_trans HZ8.out hb9.size)
        have HM9 := Lib.hid (HM8.out.below hb9 HM8.out.lt)
        have HK9 := Lib.hid (HN8.out.below hb9 HN8.out.lt)
        obtain ⟨c0, c1, c2, c3⟩ := cel4L HC9.out
        obtain ⟨d0, d1, d2, d3⟩ := cel4L HM9.out
        obtain ⟨f0, f1, f2, f3⟩ := cel4L HK9.out
        obtain ⟨g0, g1, g2, g3⟩ := cel4L HN9.out
        clear hb8 hb9
        rw [hw9] at c0 c1 c2 c3 d0 d1 d2 d3 f0 f1 f2 f3 g0 g1 g2 g3
        go_wp2_with fail
        rw [← hw9]
        refine (Bw.knows_yes _).mono ?_
        rintro e wz ⟨rfl, hbz⟩
        go_wp2
        go_ret
        exact ⟨rfl, B9.out.trans (hbz.mono B9.out.size)⟩
def Bw.RowsEnd (A3 : Option Addr) (n3 c3 : Nat) (A4 : Option Addr) (n4 c4 : Nat) (ks : List L) (wr : World) : Prop := RdLs wr.heap.size wr A3 n3 c3 (lastL ks) ∧ RightT (lastL ks) ∧ Calls Try.prog 29 #[.slice A4 n4 c4] wr (OwL wr.heap.size wr (lastL ks)) ∧ ∀ a ∈ lastL ks, Fk a
set_option maxHeartbeats 8000000 in
theorem tableRows_walk (A : Option Addr) (n c : Nat) (ls : List L) (w : World) (h : RdLs w.heap.size w A n c ls) (hfk : ∀ a ∈ ls, Fk a) :
    Calls Try.prog 7 #[.slice A n c] w (isTrue w) := by
  have HG := Lib.hid (Bw.greatT_any A n c w.heap.size ls w h hfk)
  cases hg : greatL ls with
  | true =>
    rw [hg] at HG
    clear hg h hfk
    go_enter Try.func7, Try.ntmps7
    go_wp2_with fail
    refine HG.out.mono ?_
    rintro e w1 ⟨rfl, rfl⟩
    go_wp2_with fail
    refine (Bw.knows_yes _).mono ?_
    rintro e wz ⟨rfl, hbz⟩
    go_wp2
    go_ret
    exact ⟨rfl, hbz⟩
  | false =>
    rw [hg] at HG
    have hmx := h.max
    have hcp := h.cap
    have HX := Lib.hid h
    have HFK := Lib.hid hfk
    clear hg h hfk
    go_enter Try.func7, Try.ntmps7
    go_wp2_with fail
    refine HG.out.mono ?_
    rintro e w1 ⟨rfl, rfl⟩
    go_wp2
    go_loopw [3, 4, 5, 6, 7] (fun v3 v4 v5 _ _ wr => ∃ (j : Nat) (A3 : Option Addr) (n3 c3 : Nat) (A4 : Option Addr) (c4 : Nat) (ks : List L), j ≤ n ∧ j ≤ 60 ∧ ks.length ≤ j ∧ v5 = .int .i64 j ∧ v3 = .slice A3 n3 c3 ∧ v4 = .slice A4 ks.length c4 ∧ Hid (RdLs wr.heap.size wr A3 n3 c3 (lastL ks)) ∧ Hid (OwnLs w.heap.size wr A4 ks.length c4 ks) ∧ Hid (∀ a ∈ ks, RightR a) ∧ Hid (∀ a ∈ ks, Fk a) ∧ Hid (Below w.heap.size w wr)) (fun _ _ i _ _ _ => n - (intOf i).toNat)
    case atStart => exact ⟨0, none, 0, 0, none, 0, [], by omega, by omega, Nat.le_refl _, rfl, rfl, rfl, RdG.nil _ _, OwnG.nil _ _ _, fun a ha => (by cases ha), fun a ha => (by cases ha), Below.refl _ _⟩
    case round =>
      obtain ⟨j, A3, n3, c3, A4, c4, ks, hj1, hj2, hkl, rfl, rfl, rfl, HR, HO, HP, HF, HB⟩ := hrel
      by_cases hlt : j < n ∧ j < 60
      · obtain ⟨hl1, hl2⟩ := hlt
        obtain ⟨b, o, a, rfl, hbU, HA, d0, d1, d2, d3⟩ := atL (HX.out.below HB.out) hl1
        have hkz : (j : Int) < (n : Int) := by omega
        have hkz2 : (j : Int) < 60 := by omega
        have HFA := Lib.hid (HFK.out a (List.mem_of_getElem? HA.out))
        have hset := Bw.set_any A3 n3 c3 wr.heap.size (lastL ks) a wr HR.out (Nat.le_refl _) (Bw.last_fk HF.out) HFA.out
        have HK : Hid (∀ W, Below w.heap.size w W → (W.cell? ⟨b, o + j * 4, none⟩ = some (.int .i64 a.addr) ∧ W.cell? ⟨b, o + j * 4 + 1, none⟩ = some (.int .i64 a.state) ∧ W.cell? ⟨b, o + j * 4 + 2, none⟩ = some (.int .i64 a.till) ∧ W.cell? ⟨b, o + j * 4 + 3, none⟩ = some (.string (ba a.key)))) := fun W hW => by
          obtain ⟨b', o', a', e', _, HA', q0, q1, q2, q3⟩ := atL (HX.out.below hW) hl1
          injection e' with e'
          injection e' with e1 e2
          subst e1 e2
          have : a' = a := by have q := HA'.out.symm.trans HA.out; injection q
          subst this
          exact ⟨q0, q1, q2, q3⟩
        rcases rows_step HP.out (by omega) a with ⟨hra, hs⟩ | ⟨hra, hs⟩
        · rw [hs] at hset
          have HSET := Lib.hid hset
          have HRA := Lib.hid hra
          clear hset hs hra HA
          go_wp2_with fail
          refine HSET.out.mono ?_
          rintro e w3 ⟨A6, n6, c6, rfl, ho6, hb6⟩
          have B6 := Lib.hid (HB.out.trans (hb6.mono HB.out.size))
          have hown4 := HO.out.below hb6
          have H46 : Hid (∀ g, A6 = some ⟨g, 0, none⟩ → (Value.slice A4 ks.length c4).ownBlock ≠ some g) := fun g hg hq => by
            have h1 := own_ge ho6 hg
            have h2 := (World.ownsRow.lt HO.out.1 g hq).2
            omega
          have HO6 := Lib.hid ho6
          clear d0 d1 d2 d3
          obtain ⟨d0, d1, d2, d3⟩ := HK.out _ B6.out
          have hlit := litL w3 a
          have hba : Below w3.heap.size w3 (w3.alloc (.cells (lcs a) 26)) := alloc_more _ _
          have hown5 := hown4.below hba
          have hsz := B6.out.size
          clear ho6 hb6 hown4 HSET
          go_wp2_with (at_builtin; refine wpList_appG lesP (by decide) (by decide) (by kernel_rfl) rfl (.tmp 33) (.tmp 38) rfl rfl hown5 rfl hlit (by omega) (by simp; omega) ?_; intro A7 c7 w7 happ)
          go_roundw
          case rel =>
            have h1 := happ.1
            refine ⟨j + 1, A6, n6, c6, A7, c7, ks ++ [a], by omega, by omega, by rw [List.length_append]; simp; omega, by go_num, rfl, by rw [List.length_append]; rfl, ?_, ?_, ?_, ?_, ?_⟩
            · exact (rd_apart (HO6.out.below hba) happ.2.2.1 H46.out).mono happ.2.1.size
            · rw [List.length_append]
              exact h1
            · intro u hu
              rcases List.mem_append.1 hu with hu | hu
              · exact HP.out u hu
              · rw [List.mem_singleton.1 hu]; exact HRA.out
            · intro u hu
              rcases List.mem_append.1 hu with hu | hu
              · exact HF.out u hu
              · rw [List.mem_singleton.1 hu]; exact HFA.out
            · exact B6.out.trans ((hba.mono hsz).trans happ.2.1)
          case measure => simp [intOf]; omega
        · rw [hs] at hset
          have HSET := Lib.hid hset
          have hxr := fun W => Ew.refRight_any a W HFA.out
          rw [show rightR a = false from decide_eq_false hra] at hxr
          have HXR := Lib.hid hxr
          clear hset hs hra HA hxr
          go_wp2_with fail
          refine HSET.out.mono ?_
          rintro e w3 ⟨A6, n6, c6, rfl, ho6, hb6⟩
          have B6 := Lib.hid (HB.out.trans (hb6.mono HB.out.size))
          have HR6 := Lib.hid ((HR.out.below hb6).mono hb6.size)
          have HO6 := Lib.hid (HO.out.below hb6)
          clear d0 d1 d2 d3 ho6 hb6 HSET
          obtain ⟨d0, d1, d2, d3⟩ := HK.out _ B6.out
          go_wp2_with fail
          refine (HXR.out _).mono ?_
          rintro e w4 ⟨rfl, hb4⟩
          have B4 := Lib.hid (B6.out.trans (hb4.mono B6.out.size))
          have HR4 := Lib.hid ((HR6.out.below hb4).mono hb4.size)
          have HO4 := Lib.hid (HO6.out.below hb4)
          clear hb4 d0 d1 d2 d3
          go_wp2
          go_roundw
          case rel => exact ⟨j + 1, A3, n3, c3, A4, c4, ks, by omega, by omega, by omega, by go_num, rfl, rfl, HR4.out, HO4.out, HP.out, HF.out, B4.out⟩
          case measure => simp [intOf]; omega
      · have HTB := Lib.hid (last_tab HP.out (by omega))
        have HLA := Lib.hid (refLast_any A4 ks.length c4 ks wr HO.out.rd (by omega))
        have HFL := Lib.hid (Bw.last_fk HF.out)
        have htail : Hid (Bw.RowsEnd A3 n3 c3 A4 ks.length c4 ks wr) := by
          exact ⟨HR.out, HTB.out, HLA.out, HFL.out⟩
        by_cases hl1 : j < n
        · have hkz : (j : Int) < (n : Int) := by omega
          have hkz2 : ¬ (j : Int) < 60 := by omega
          clear hlt hl1 HO HR HP HF HTB HLA HFL
          go_wp2_with fail
          refine htail.out.2.2.1.mono ?_
          rintro e w5 ⟨A5, n5, c5, rfl, ho5, hb5⟩
          have B5 := Lib.hid (HB.out.trans (hb5.mono HB.out.size))
          have HR5 := Lib.hid ((htail.out.1.below hb5).mono hb5.size)
          have HSL := Lib.hid (sameLeases_yes A3 n3 c3 A5 n5 c5 (lastL ks) w5 HR5.out ho5.rd)
          clear hb5 ho5
          go_wp2_with fail
          refine HSL.out.mono ?_
          rintro e w6 ⟨rfl, hb6⟩
          have B6 := Lib.hid (B5.out.trans (hb6.mono B5.out.size))
          have hr6 := Bw.right_any A3 n3 c3 w6.heap.size (lastL ks) w6 ((HR5.out.below hb6).mono hb6.size) (Nat.le_refl _) htail.out.2.2.2
          rw [show rightT (lastL ks) = true from decide_eq_true htail.out.2.1] at hr6
          have HR6 := Lib.hid hr6
          clear hb6 hr6 HSL
          go_wp2_with fail
          refine HR6.out.mono ?_
          rintro e w7 ⟨rfl, hb7⟩
          have B7 := Lib.hid (B6.out.trans (hb7.mono B6.out.size))
          clear hb7
          go_wp2_with fail
          refine (Bw.knows_yes _).mono ?_
          rintro e wz ⟨rfl, hbz⟩
          go_wp2
          go_ret
          exact ⟨rfl, B7.out.trans (hbz.mono B7.out.size)⟩
        · have hkz : ¬ (j : Int) < (n : Int) := by omega
          clear hlt hl1 HO HR HP HF HTB HLA HFL
          go_wp2_with fail
          refine htail.out.2.2.1.mono ?_
          rintro e w5 ⟨A5, n5, c5, rfl, ho5, hb5⟩
          have B5 := Lib.hid (HB.out.trans (hb5.mono HB.out.size))
          have HR5 := Lib.hid ((htail.out.1.below hb5).mono hb5.size)
          have HSL := Lib.hid (sameLeases_yes A3 n3 c3 A5 n5 c5 (lastL ks) w5 HR5.out ho5.rd)
          clear hb5 ho5
          go_wp2_with fail
          refine HSL.out.mono ?_
          rintro e w6 ⟨rfl, hb6⟩
          have B6 := Lib.hid (B5.out.trans (hb6.mono B5.out.size))
          have hr6 := Bw.right_any A3 n3 c3 w6.heap.size (lastL ks) w6 ((HR5.out.below hb6).mono hb6.size) (Nat.le_refl _) htail.out.2.2.2
          rw [show rightT (lastL ks) = true from decide_eq_true htail.out.2.1] at hr6
          have HR6 := Lib.hid hr6
          clear hb6 hr6 HSL
          go_wp2_with fail
          refine HR6.out.mono ?_
          rintro e w7 ⟨rfl, hb7⟩
          have B7 := Lib.hid (B6.out.trans (hb7.mono B6.out.size))
          clear hb7
          go_wp2_with fail
          refine (Bw.knows_yes _).mono ?_
          rintro e wz ⟨rfl, hbz⟩
          go_wp2
          go_ret
          exact ⟨rfl, B7.out.trans (hbz.mono B7.out.size)⟩
end Go.Proofs.Ytniocdbapkkdhaa
