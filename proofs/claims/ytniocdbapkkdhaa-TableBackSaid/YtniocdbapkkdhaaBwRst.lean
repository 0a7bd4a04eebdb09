/- What the document's Set comes to. For all leases whose keys fit. -/
import Derived.Test.YtniocdbapkkdhaaBwSet
set_option maxRecDepth 8000
namespace Go.Proofs.Ytniocdbapkkdhaa.Bw
open Go.RowKit Co By Ky Rc Ew Jw La Tb Lw
open Dw (ba ba_size ba_data ba_list alloc_more)

theorem onward_drop {t : List L} {j : Nat} {a x : L} {pt : Bool} {ks : List L} {r : List L} (h : ks ++ onward x (t.drop j) pt = r) (ha : t[j]? = some a) :
    ks ++ ((if pt = false ∧ x.addr ≤ a.addr then [x] else []) ++ ((if a.addr = x.addr then [] else [a]) ++ onward x (t.drop (j + 1)) (pt || decide (x.addr ≤ a.addr)))) = r := by
  rw [drop_nextB ha, onward] at h
  exact h
theorem onward_end {t : List L} {x : L} {pt : Bool} {ks r : List L} (h : ks ++ onward x (t.drop t.length) pt = r) : ks ++ (if pt then [] else [x]) = r := by
  rw [List.drop_of_length_le (Nat.le_refl _), onward] at h
  exact h
set_option maxHeartbeats 8000000 in
theorem refSet_any (A : Option Addr) (n c U : Nat) (l : List L) (x : L) (w : World) (h : RdLs U w A n c l) (hU : U ≤ w.heap.size) (hk : ∀ a ∈ l, Fk a) (hx : Fk x) :
    Calls Try.prog 19 #[.slice A n c, lv x] w (StR w (setT l x)) := by
  obtain ⟨w0, hw0⟩ : ∃ w0, w0 = w.alloc (.cells (lcs x) 26) := ⟨_, rfl⟩
  have hc0 : Cel w0 w.heap.size 26 (lcs x) := by rw [hw0]; exact Cel.born _ _ _
  have hb0 : Below w.heap.size w w0 := by rw [hw0]; exact alloc_more _ _
  have hU0 : U ≤ w0.heap.size := Nat.le_trans hU hb0.size
  have HC0 := Lib.hid hc0
  have HB0 := Lib.hid hb0
  have HUU := Lib.hid hU0
  have HV := Lib.hid (good_any A n c U l w0 (h.below (hb0.mono hU)) hU0 hk)
  clear h hU hk hc0 hb0 hU0
  go_enter Try.func19, Try.ntmps19
  go_wp2_with fail
  rw [← hw0]
  clear hw0
  refine HV.out.mono ?_
  rintro e w1 ⟨A1, n1, c1, rfl, hr1, hb1⟩
  have hn1 : n1 ≤ 64 := by have := good_len l; have := hr1.len; omega
  have HL := Lib.hid hr1.len
  have hcp := hr1.cap
  have hmx := hr1.max
  have hb01 := HB0.out.trans (hb1.mono HB0.out.size)
  have hc1 := HC0.out.below hb1 HC0.out.lt
  obtain ⟨y0, y1, y2, y3⟩ := cel4L hc1
  have HR1 := Lib.hid hr1
  have HB1 := Lib.hid hb01
  have HC1 := Lib.hid hc1
  have HU1 := Lib.hid (Nat.le_trans HUU.out hb1.size)
  have HR := Lib.hid (Ew.refRight_any x w1 hx)
  clear hr1 hb1 hb01 hc1 HV HC0 HB0 HUU
  cases hr : rightR x with
  | false =>
    rw [hr] at HR
    have HT : Hid (setT l x = ([], 1)) := set_bad (of_decide_eq_false hr)
    clear hr
    go_wp2_with fail
    refine HR.out.mono ?_
    rintro e w2 ⟨rfl, hb2⟩
    go_wp2
    go_ret2
    exact ⟨none, 0, 0, by rw [HT.out]; rfl, by rw [HT.out]; exact OwnG.nil _ _ _, HB1.out.trans (hb2.mono HB1.out.size)⟩
  | true =>
    rw [hr] at HR
    have HRR := Lib.hid (show RightR x from of_decide_eq_true hr)
    have HON := Lib.hid (onward_is x (good_right l).2.2)
    clear hr
    go_wp2_with fail
    refine HR.out.mono ?_
    rintro e w2 ⟨rfl, hb2⟩
    have HB2 := Lib.hid hb2
    have HRZ := Lib.hid (HR1.out.below (hb2.mono HU1.out))
    have HCZ := Lib.hid (HC1.out.below hb2 HC1.out.lt)
    have hs2 := hb2.size
    have HU2 := Lib.hid (Nat.le_trans HU1.out hs2)
    clear y0 y1 y2 y3 hb2 HR1 HC1 HU1 HR
    go_wp2
    go_loopw [6, 7, 8] (fun v q i wr => ∃ (j : Nat) (A2 : Option Addr) (c2 : Nat) (ks : List L) (pt : Bool), j ≤ n1 ∧ ks.length ≤ 2 * j ∧ i = .int .i64 j ∧ q = .bool pt ∧ v = .slice A2 ks.length c2 ∧ Hid (OwnLs w2.heap.size wr A2 ks.length c2 ks) ∧ Hid (ks ++ onward x ((goodT l).drop j) pt = putT (goodT l) x) ∧ Hid (Below w2.heap.size w2 wr)) (fun _ _ i _ => n1 - (intOf i).toNat)
    case atStart => exact ⟨0, none, 0, [], false, by omega, Nat.le_refl _, rfl, rfl, rfl, OwnG.nil _ _ _, HON.out, Below.refl _ _⟩
    case round =>
      obtain ⟨j, A2, c2, ks, pt, hk, hkl, rfl, rfl, rfl, HO, HE, HB⟩ := hrel
      by_cases hlt : j < n1
      · obtain ⟨b, o, a, rfl, hbU, HA, d0, d1, d2, d3⟩ := atL HRZ.out hlt
        have hkz : (j : Int) < (n1 : Int) := by omega
        have K : Hid (∀ W, Below w2.heap.size w2 W → ((W.cell? ⟨b, o + j * 4, none⟩ = some (.int .i64 a.addr) ∧ W.cell? ⟨b, o + j * 4 + 1, none⟩ = some (.int .i64 a.state) ∧ W.cell? ⟨b, o + j * 4 + 2, none⟩ = some (.int .i64 a.till) ∧ W.cell? ⟨b, o + j * 4 + 3, none⟩ = some (.string (ba a.key))) ∧ W.cell? ⟨w.heap.size, 0, none⟩ = some (.int .i64 x.addr) ∧ W.cell? ⟨w.heap.size, 1, none⟩ = some (.int .i64 x.state) ∧ W.cell? ⟨w.heap.size, 2, none⟩ = some (.int .i64 x.till) ∧ W.cell? ⟨w.heap.size, 3, none⟩ = some (.string (ba x.key)))) := fun W hW => by
          have hb9 : b < w2.heap.size := Nat.lt_of_lt_of_le hbU HU2.out
          exact ⟨⟨(hW.cell (p := ⟨b, o + j * 4, none⟩) hb9).trans d0, (hW.cell (p := ⟨b, o + j * 4 + 1, none⟩) hb9).trans d1, (hW.cell (p := ⟨b, o + j * 4 + 2, none⟩) hb9).trans d2, (hW.cell (p := ⟨b, o + j * 4 + 3, none⟩) hb9).trans d3⟩, cel4L (HCZ.out.below hW HCZ.out.lt)⟩
        have HS := Lib.hid (onward_drop HE.out HA.out)
        clear d0 d1 d2 d3 HE HA
        obtain ⟨⟨d0, d1, d2, d3⟩, y0, y1, y2, y3⟩ := K.out wr HB.out
        cases pt with
        | true =>
          by_cases hne : a.addr = x.addr
          · have HT : Hid ((ks) ++ onward x ((goodT l).drop (j + 1)) true = putT (goodT l) x) := by
              show _ = _
              have := HS.out
              rw [if_neg (fun q => by cases q.1), if_pos hne, Bool.true_or] at this
              simpa using this
            have hz2 : (a.addr != x.addr) = false := by simpa using hne
            clear hne HS
            go_wp2_with fail
            go_quiet (fail)
            obtain ⟨wq6, hwq6⟩ : ∃ wq, wq = wr.drewN nq := ⟨_, rfl⟩
            have hbq6 : Below wr.heap.size wr wq6 := by rw [hwq6]; exact below_drewN (Below.refl _ _) nq
            have HB6 := Lib.hid (HB.out.trans (hbq6.mono HB.out.size))
            have HO6 := Lib.hid (HO.out.below hbq6)
            obtain ⟨⟨d0, d1, d2, d3⟩, y0, y1, y2, y3⟩ := K.out wq6 HB6.out
            rw [← hwq6]
            clear hwq6 hbq6 HB HO
            go_wp2_with fail
            go_quiet (fail)
            obtain ⟨wq8, hwq8⟩ : ∃ wq, wq = wq6.drewN nq := ⟨_, rfl⟩
            have hbq8 : Below wq6.heap.size wq6 wq8 := by rw [hwq8]; exact below_drewN (Below.refl _ _) nq
            have HB8 := Lib.hid (HB6.out.trans (hbq8.mono HB6.out.size))
            have HO8 := Lib.hid (HO6.out.below hbq8)
            clear d0 d1 d2 d3 y0 y1 y2 y3
            obtain ⟨⟨d0, d1, d2, d3⟩, y0, y1, y2, y3⟩ := K.out wq8 HB8.out
            rw [← hwq8]
            clear hwq8 hbq8 HB6 HO6
            go_wp2
            go_roundw
            case rel =>
              have hown := HO8.out
              refine ⟨j + 1, A2, c2, ks, true, by omega, by omega, by go_num, rfl, rfl, ?_, HT.out, HB8.out⟩
              exact hown
            case measure => simp [intOf]; omega
          · have HT : Hid ((ks ++ [a]) ++ onward x ((goodT l).drop (j + 1)) true = putT (goodT l) x) := by
              show _ = _
              have := HS.out
              rw [if_neg (fun q => by cases q.1), if_neg hne, Bool.true_or] at this
              simpa using this
            have hz2 : (a.addr != x.addr) = true := by simpa using hne
            clear hne HS
            go_wp2_with fail
            go_quiet (fail)
            obtain ⟨wq6, hwq6⟩ : ∃ wq, wq = wr.drewN nq := ⟨_, rfl⟩
            have hbq6 : Below wr.heap.size wr wq6 := by rw [hwq6]; exact below_drewN (Below.refl _ _) nq
            have HB6 := Lib.hid (HB.out.trans (hbq6.mono HB.out.size))
            have HO6 := Lib.hid (HO.out.below hbq6)
            obtain ⟨⟨d0, d1, d2, d3⟩, y0, y1, y2, y3⟩ := K.out wq6 HB6.out
            rw [← hwq6]
            clear hwq6 hbq6 HB HO
            go_wp2_with fail
            go_quiet (fail)
            obtain ⟨wq8, hwq8⟩ : ∃ wq, wq = wq6.drewN nq := ⟨_, rfl⟩
            have hbq8 : Below wq6.heap.size wq6 wq8 := by rw [hwq8]; exact below_drewN (Below.refl _ _) nq
            have HB8 := Lib.hid (HB6.out.trans (hbq8.mono HB6.out.size))
            have HO8 := Lib.hid (HO6.out.below hbq8)
            clear d0 d1 d2 d3 y0 y1 y2 y3
            obtain ⟨⟨d0, d1, d2, d3⟩, y0, y1, y2, y3⟩ := K.out wq8 HB8.out
            rw [← hwq8]
            clear hwq8 hbq8 HB6 HO6
            have hlit9 := litL wq8 a
            have hba9 : Below wq8.heap.size wq8 (wq8.alloc (.cells (lcs a) 26)) := alloc_more _ _
            have hown9 := HO8.out.below hba9
            have hsz9 := HB8.out.size
            go_wp2_with (at_builtin; refine wpList_appG lesP (by decide) (by decide) (by kernel_rfl) rfl (.tmp 44) (.tmp 49) rfl rfl hown9 rfl hlit9 (by omega) (by simp; omega) ?_; intro A9 c9 w9 happ9)
            go_roundw
            case rel =>
              have hown := happ9.1
              refine ⟨j + 1, A9, c9, ks ++ [a], true, by omega, by simp only [List.length_append, List.length_cons, List.length_nil]; omega, by go_num, rfl, by simp only [List.length_append, List.length_cons, List.length_nil], ?_, HT.out, HB8.out.trans ((hba9.mono hsz9).trans happ9.2.1)⟩
              simp only [List.length_append, List.length_cons, List.length_nil] at hown ⊢
              exact hown
            case measure => simp [intOf]; omega
        | false =>
          by_cases hle : x.addr ≤ a.addr
          · by_cases hne : a.addr = x.addr
            · have HT : Hid ((ks ++ [x]) ++ onward x ((goodT l).drop (j + 1)) true = putT (goodT l) x) := by
                show _ = _
                have := HS.out
                rw [if_pos ⟨rfl, hle⟩, if_pos hne, decide_eq_true hle, Bool.false_or] at this
                simpa using this
              have hz1 : decide (x.addr ≤ a.addr) = true := decide_eq_true hle
              have hz2 : (a.addr != x.addr) = false := by simpa using hne
              clear hne HS hle
              go_wp2_with fail
              go_quiet (fail)
              obtain ⟨wq6, hwq6⟩ : ∃ wq, wq = wr.drewN nq := ⟨_, rfl⟩
              have hbq6 : Below wr.heap.size wr wq6 := by rw [hwq6]; exact below_drewN (Below.refl _ _) nq
              have HB6 := Lib.hid (HB.out.trans (hbq6.mono HB.out.size))
              have HO6 := Lib.hid (HO.out.below hbq6)
              obtain ⟨⟨d0, d1, d2, d3⟩, y0, y1, y2, y3⟩ := K.out wq6 HB6.out
              rw [← hwq6]
              clear hwq6 hbq6 HB HO
              have hlit7 := litL wq6 x
              have hba7 : Below wq6.heap.size wq6 (wq6.alloc (.cells (lcs x) 26)) := alloc_more _ _
              have hown7 := HO6.out.below hba7
              have hsz7 := HB6.out.size
              go_wp2_with (at_builtin; refine wpList_appG lesP (by decide) (by decide) (by kernel_rfl) rfl (.tmp 32) (.tmp 34) rfl rfl hown7 rfl hlit7 (by omega) (by simp; omega) ?_; intro A7 c7 w7 happ7)
              have HB7 := Lib.hid (HB6.out.trans ((hba7.mono hsz7).trans happ7.2.1))
              have HO7 : Hid (OwnLs w2.heap.size w7 A7 (ks.length + 1) c7 (ks ++ [x])) := happ7.1
              clear hlit7 hba7 hown7 hsz7 happ7 HB6 HO6 d0 d1 d2 d3 y0 y1 y2 y3
              obtain ⟨⟨d0, d1, d2, d3⟩, y0, y1, y2, y3⟩ := K.out w7 HB7.out
              go_wp2_with fail
              go_quiet (fail)
              obtain ⟨wq8, hwq8⟩ : ∃ wq, wq = w7.drewN nq := ⟨_, rfl⟩
              have hbq8 : Below w7.heap.size w7 wq8 := by rw [hwq8]; exact below_drewN (Below.refl _ _) nq
              have HB8 := Lib.hid (HB7.out.trans (hbq8.mono HB7.out.size))
              have HO8 := Lib.hid (HO7.out.below hbq8)
              clear d0 d1 d2 d3 y0 y1 y2 y3
              obtain ⟨⟨d0, d1, d2, d3⟩, y0, y1, y2, y3⟩ := K.out wq8 HB8.out
              rw [← hwq8]
              clear hwq8 hbq8 HB7 HO7
              go_wp2
              go_roundw
              case rel =>
                have hown := HO8.out
                refine ⟨j + 1, A7, c7, ks ++ [x], true, by omega, by simp only [List.length_append, List.length_cons, List.length_nil]; omega, by go_num, rfl, by simp only [List.length_append, List.length_cons, List.length_nil], ?_, HT.out, HB8.out⟩
                simp only [List.length_append, List.length_cons, List.length_nil] at hown ⊢
                exact hown
              case measure => simp [intOf]; omega
            · have HT : Hid ((ks ++ [x] ++ [a]) ++ onward x ((goodT l).drop (j + 1)) true = putT (goodT l) x) := by
                show _ = _
                have := HS.out
                rw [if_pos ⟨rfl, hle⟩, if_neg hne, decide_eq_true hle, Bool.false_or] at this
                simpa using this
              have hz1 : decide (x.addr ≤ a.addr) = true := decide_eq_true hle
              have hz2 : (a.addr != x.addr) = true := by simpa using hne
              clear hne HS hle
              go_wp2_with fail
              go_quiet (fail)
              obtain ⟨wq6, hwq6⟩ : ∃ wq, wq = wr.drewN nq := ⟨_, rfl⟩
              have hbq6 : Below wr.heap.size wr wq6 := by rw [hwq6]; exact below_drewN (Below.refl _ _) nq
              have HB6 := Lib.hid (HB.out.trans (hbq6.mono HB.out.size))
              have HO6 := Lib.hid (HO.out.below hbq6)
              obtain ⟨⟨d0, d1, d2, d3⟩, y0, y1, y2, y3⟩ := K.out wq6 HB6.out
              rw [← hwq6]
              clear hwq6 hbq6 HB HO
              have hlit7 := litL wq6 x
              have hba7 : Below wq6.heap.size wq6 (wq6.alloc (.cells (lcs x) 26)) := alloc_more _ _
              have hown7 := HO6.out.below hba7
              have hsz7 := HB6.out.size
              go_wp2_with (at_builtin; refine wpList_appG lesP (by decide) (by decide) (by kernel_rfl) rfl (.tmp 32) (.tmp 34) rfl rfl hown7 rfl hlit7 (by omega) (by simp; omega) ?_; intro A7 c7 w7 happ7)
              have HB7 := Lib.hid (HB6.out.trans ((hba7.mono hsz7).trans happ7.2.1))
              have HO7 : Hid (OwnLs w2.heap.size w7 A7 (ks.length + 1) c7 (ks ++ [x])) := happ7.1
              clear hlit7 hba7 hown7 hsz7 happ7 HB6 HO6 d0 d1 d2 d3 y0 y1 y2 y3
              obtain ⟨⟨d0, d1, d2, d3⟩, y0, y1, y2, y3⟩ := K.out w7 HB7.out
              go_wp2_with fail
              go_quiet (fail)
              obtain ⟨wq8, hwq8⟩ : ∃ wq, wq = w7.drewN nq := ⟨_, rfl⟩
              have hbq8 : Below w7.heap.size w7 wq8 := by rw [hwq8]; exact below_drewN (Below.refl _ _) nq
              have HB8 := Lib.hid (HB7.out.trans (hbq8.mono HB7.out.size))
              have HO8 := Lib.hid (HO7.out.below hbq8)
              clear d0 d1 d2 d3 y0 y1 y2 y3
              obtain ⟨⟨d0, d1, d2, d3⟩, y0, y1, y2, y3⟩ := K.out wq8 HB8.out
              rw [← hwq8]
              clear hwq8 hbq8 HB7 HO7
              have hlit9 := litL wq8 a
              have hba9 : Below wq8.heap.size wq8 (wq8.alloc (.cells (lcs a) 26)) := alloc_more _ _
              have hown9 := HO8.out.below hba9
              have hsz9 := HB8.out.size
              go_wp2_with (at_builtin; refine wpList_appG lesP (by decide) (by decide) (by kernel_rfl) rfl (.tmp 44) (.tmp 49) rfl rfl hown9 rfl hlit9 (by omega) (by simp; omega) ?_; intro A9 c9 w9 happ9)
              go_roundw
              case rel =>
                have hown := happ9.1
                refine ⟨j + 1, A9, c9, ks ++ [x] ++ [a], true, by omega, by simp only [List.length_append, List.length_cons, List.length_nil]; omega, by go_num, rfl, by simp only [List.length_append, List.length_cons, List.length_nil], ?_, HT.out, HB8.out.trans ((hba9.mono hsz9).trans happ9.2.1)⟩
                simp only [List.length_append, List.length_cons, List.length_nil] at hown ⊢
                exact hown
              case measure => simp [intOf]; omega
          · have hne : ¬ a.addr = x.addr := by omega
            have HT : Hid ((ks ++ [a]) ++ onward x ((goodT l).drop (j + 1)) false = putT (goodT l) x) := by
              show _ = _
              have := HS.out
              rw [if_neg (fun q => hle q.2), if_neg hne, decide_eq_false hle, Bool.false_or] at this
              simpa using this
            have hz1 : decide (x.addr ≤ a.addr) = false := decide_eq_false hle
            have hz2 : (a.addr != x.addr) = true := by simpa using hne
            clear hne HS hle
            go_wp2_with fail
            go_quiet (fail)
            obtain ⟨wq6, hwq6⟩ : ∃ wq, wq = wr.drewN nq := ⟨_, rfl⟩
            have hbq6 : Below wr.heap.size wr wq6 := by rw [hwq6]; exact below_drewN (Below.refl _ _) nq
            have HB6 := Lib.hid (HB.out.trans (hbq6.mono HB.out.size))
            have HO6 := Lib.hid (HO.out.below hbq6)
            obtain ⟨⟨d0, d1, d2, d3⟩, y0, y1, y2, y3⟩ := K.out wq6 HB6.out
            rw [← hwq6]
            clear hwq6 hbq6 HB HO
            go_wp2_with fail
            go_quiet (fail)
            obtain ⟨wq8, hwq8⟩ : ∃ wq, wq = wq6.drewN nq := ⟨_, rfl⟩
            have hbq8 : Below wq6.heap.size wq6 wq8 := by rw [hwq8]; exact below_drewN (Below.refl _ _) nq
            have HB8 := Lib.hid (HB6.out.trans (hbq8.mono HB6.out.size))
            have HO8 := Lib.hid (HO6.out.below hbq8)
            clear d0 d1 d2 d3 y0 y1 y2 y3
            obtain ⟨⟨d0, d1, d2, d3⟩, y0, y1, y2, y3⟩ := K.out wq8 HB8.out
            rw [← hwq8]
            clear hwq8 hbq8 HB6 HO6
            have hlit9 := litL wq8 a
            have hba9 : Below wq8.heap.size wq8 (wq8.alloc (.cells (lcs a) 26)) := alloc_more _ _
            have hown9 := HO8.out.below hba9
            have hsz9 := HB8.out.size
            go_wp2_with (at_builtin; refine wpList_appG lesP (by decide) (by decide) (by kernel_rfl) rfl (.tmp 44) (.tmp 49) rfl rfl hown9 rfl hlit9 (by omega) (by simp; omega) ?_; intro A9 c9 w9 happ9)
            go_roundw
            case rel =>
              have hown := happ9.1
              refine ⟨j + 1, A9, c9, ks ++ [a], false, by omega, by simp only [List.length_append, List.length_cons, List.length_nil]; omega, by go_num, rfl, by simp only [List.length_append, List.length_cons, List.length_nil], ?_, HT.out, HB8.out.trans ((hba9.mono hsz9).trans happ9.2.1)⟩
              simp only [List.length_append, List.length_cons, List.length_nil] at hown ⊢
              exact hown
            case measure => simp [intOf]; omega
      · obtain rfl : j = n1 := by omega
        have hkz : ¬ (j : Int) < (j : Int) := by omega
        have HE2 := Lib.hid (onward_end (t := goodT l) (x := x) (pt := pt) (ks := ks) (r := putT (goodT l) x) (by rw [HL.out]; exact HE.out))
        clear hlt HE
        have HBA : Hid (Below w.heap.size w wr) := HB1.out.trans ((HB2.out.trans (HB.out.mono hs2)).mono HB1.out.size)
        cases pt with
        | true =>
          have HE : Hid (ks = putT (goodT l) x) := by show _ = _; have := HE2.out; simpa using this
          have HM : Hid (ks.length = (putT (goodT l) x).length) := by show _ = _; rw [HE.out]
          clear HE2
          rcases set_cases l x with ⟨q, _⟩ | ⟨_, hq, hs⟩ | ⟨_, hq, hs⟩
          · exact absurd HRR.out q
          · have HT := Lib.hid hs
            have hz : 64 < ks.length := by have := HM.out; omega
            clear hq hs
            go_wp2
            go_ret2
            exact ⟨none, 0, 0, by rw [HT.out]; rfl, by rw [HT.out]; exact OwnG.nil _ _ _, HBA.out⟩
          · have HT := Lib.hid hs
            have hz : ks.length ≤ 64 := by have := HM.out; omega
            clear hq hs
            go_wp2
            go_ret2
            refine ⟨A2, _, c2, by rw [HT.out]; rfl, ?_, HBA.out⟩
            rw [HT.out, ← HE.out]
            exact OwnG.mono HO.out (Nat.le_trans HB1.out.size hs2)
        | false =>
          have HE : Hid (ks ++ [x] = putT (goodT l) x) := by show _ = _; have := HE2.out; simpa using this
          have HM : Hid (ks.length + 1 = (putT (goodT l) x).length) := by show _ = _; rw [← HE.out, List.length_append]; rfl
          clear HE2
          obtain ⟨y0, y1, y2, y3⟩ := cel4L (HCZ.out.below HB.out HCZ.out.lt)
          rcases set_cases l x with ⟨q, _⟩ | ⟨_, hq, hs⟩ | ⟨_, hq, hs⟩
          · exact absurd HRR.out q
          · have HT := Lib.hid hs
            have hz : 64 < ks.length + 1 := by have := HM.out; omega
            clear hq hs
            have hlit7 := litL wr x
            have hba7 : Below wr.heap.size wr (wr.alloc (.cells (lcs x) 26)) := alloc_more _ _
            have hown7 := HO.out.below hba7
            have hsz7 := HB.out.size
            go_wp2_with (at_builtin; refine wpList_appG lesP (by decide) (by decide) (by kernel_rfl) rfl (.tmp 53) (.tmp 55) rfl rfl hown7 rfl hlit7 (by omega) (by simp; omega) ?_; intro A7 c7 w7 happ7)
            have HB7 : Hid (Below w.heap.size w w7) := HBA.out.trans (((hba7.mono hsz7).trans happ7.2.1).mono (Nat.le_trans HB1.out.size hs2))
            have HO7 : Hid (OwnLs w2.heap.size w7 A7 (ks.length + 1) c7 (ks ++ [x])) := happ7.1
            clear hlit7 hba7 hown7 hsz7 happ7 y0 y1 y2 y3
            go_wp2
            go_ret2
            exact ⟨none, 0, 0, by rw [HT.out]; rfl, by rw [HT.out]; exact OwnG.nil _ _ _, HB7.out⟩
          · have HT := Lib.hid hs
            have hz : ks.length + 1 ≤ 64 := by have := HM.out; omega
            clear hq hs
            have hlit7 := litL wr x
            have hba7 : Below wr.heap.size wr (wr.alloc (.cells (lcs x) 26)) := alloc_more _ _
            have hown7 := HO.out.below hba7
            have hsz7 := HB.out.size
            go_wp2_with (at_builtin; refine wpList_appG lesP (by decide) (by decide) (by kernel_rfl) rfl (.tmp 53) (.tmp 55) rfl rfl hown7 rfl hlit7 (by omega) (by simp; omega) ?_; intro A7 c7 w7 happ7)
            have HB7 : Hid (Below w.heap.size w w7) := HBA.out.trans (((hba7.mono hsz7).trans happ7.2.1).mono (Nat.le_trans HB1.out.size hs2))
            have HO7 : Hid (OwnLs w2.heap.size w7 A7 (ks.length + 1) c7 (ks ++ [x])) := happ7.1
            clear hlit7 hba7 hown7 hsz7 happ7 y0 y1 y2 y3
            go_wp2
            go_ret2
            refine ⟨A7, _, c7, by rw [HT.out]; rfl, ?_, HB7.out⟩
            rw [HT.out, ← HE.out]
            exact OwnG.mono HO7.out (Nat.le_trans HB1.out.size hs2)
end Go.Proofs.Ytniocdbapkkdhaa.Bw
