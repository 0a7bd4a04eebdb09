/- What the document's own Check, Find and OnWire come to. Condition: the configuration is small (boarderlaw13's Great is false). -/
import Derived.Test.YtoldppbakapohaaGreatDoorVwD
import Derived.Test.YtoldppbakapohaaGreatDoorVwC
section
set_option maxRecDepth 8000
namespace Go.Proofs.YtoldppbakapohaaGreatDoor.Vw
open Go.RowKit By Cf Ad Ky
open Dw (ba ba_size ba_data ba_list alloc_more)

set_option maxHeartbeats 4000000 in
theorem refCheck_any (x : Cx) (U : Nat) (w : World) (h : x.ok U w) (hU : U ≤ w.heap.size) (hS : Small x.cf) : Calls Tryz.prog 23 #[x.v] w (isI (checkC x.cf) w) := by
  obtain ⟨w0, hw0, hc0, hb0⟩ := boxedC w x
  have hz : w0.heap.size = w.heap.size + 1 := by rw [hw0]; simp
  have h0 := h.below (hb0.mono hU)
  have HF := Lib.hid (refForm_any x U w0 h0 (by omega))
  have HP := Lib.hid (fun w1 (b1 : Below w0.heap.size w0 w1) (hf : formC x.cf = true) => refPlaces_any x U w1 (h0.below (b1.mono (by omega))) (by have := b1.size; omega) hf)
  have HT := Lib.hid (fun w1 (b1 : Below w0.heap.size w0 w1) => refTwice_any x U w1 (h0.below (b1.mono (by omega))) (by have := b1.size; omega) (small_n h hS) (small_sns hS) (small_res hS))
  have HB := Lib.hid hb0
  have HC0 := Lib.hid hc0
  have hdef : checkC x.cf = if formC x.cf = true then (if placesC x.cf = true then (if twiceC x.cf = true then 8 else 0) else 9) else 1 := rfl
  clear h hU hS hc0 hb0 hz h0
  cases f1 : formC x.cf with
  | false =>
    have H : Hid (checkC x.cf = 1) := by show _ = _; rw [hdef, f1]; rfl
    rw [f1] at HF
    clear f1 hdef
    go_enter Tryz.func23, Tryz.ntmps23
    go_wp2_with fail
    rw [← hw0]
    clear hw0
    refine HF.out.mono ?_
    rintro e w1 ⟨rfl, hb1⟩
    go_wp2
    go_ret
    exact ⟨ret_int H.out.symm, HB.out.trans (hb1.mono HB.out.size)⟩
  | true =>
  have HP1 := Lib.hid (fun w1 b1 => HP.out w1 b1 f1)
  rw [f1] at HF
  clear HP
  cases f2 : placesC x.cf with
  | false =>
    have H : Hid (checkC x.cf = 9) := by show _ = _; rw [hdef, f1, f2]; rfl
    rw [f2] at HP1
    clear f1 f2 hdef
    go_enter Tryz.func23, Tryz.ntmps23
    go_wp2_with fail
    rw [← hw0]
    clear hw0
    refine HF.out.mono ?_
    rintro e w1 ⟨rfl, hb1⟩
    obtain ⟨c0, c1, c2⟩ := cel3C (HC0.out.below hb1 HC0.out.lt)
    have HB1 := Lib.hid (HB.out.trans (hb1.mono HB.out.size))
    have HQ := Lib.hid (HP1.out w1 hb1)
    clear hb1
    go_wp2_with fail
    refine HQ.out.mono ?_
    rintro e w2 ⟨rfl, hb2⟩
    go_wp2
    go_ret
    exact ⟨ret_int H.out.symm, HB1.out.trans (hb2.mono HB1.out.size)⟩
  | true =>
  rw [f2] at HP1
  cases f3 : twiceC x.cf with
  | true =>
    have H : Hid (checkC x.cf = 8) := by show _ = _; rw [hdef, f1, f2, f3]; rfl
    rw [f3] at HT
    clear f1 f2 f3 hdef
    go_enter Tryz.func23, Tryz.ntmps23
    go_wp2_with fail
    rw [← hw0]
    clear hw0
    refine HF.out.mono ?_
    rintro e w1 ⟨rfl, hb1⟩
    obtain ⟨c0, c1, c2⟩ := cel3C (HC0.out.below hb1 HC0.out.lt)
    have HBa := Lib.hid hb1
    have HB1 := Lib.hid (HB.out.trans (hb1.mono HB.out.size))
    have HQ := Lib.hid (HP1.out w1 hb1)
    clear hb1
    go_wp2_with fail
    refine HQ.out.mono ?_
    rintro e w2 ⟨rfl, hb2⟩
    have hb02 := HBa.out.trans (hb2.mono HBa.out.size)
    clear c0 c1 c2
    obtain ⟨c0, c1, c2⟩ := cel3C (HC0.out.below hb02 HC0.out.lt)
    have HQ2 := Lib.hid (HT.out w2 hb02)
    have HB2 := Lib.hid (HB1.out.trans (hb2.mono HB1.out.size))
    clear hb2 hb02
    go_wp2_with fail
    refine HQ2.out.mono ?_
    rintro e w3 ⟨rfl, hb3⟩
    go_wp2
    go_ret
    exact ⟨ret_int H.out.symm, HB2.out.trans (hb3.mono HB2.out.size)⟩
  | false =>
    have H : Hid (checkC x.cf = 0) := by show _ = _; rw [hdef, f1, f2, f3]; rfl
    rw [f3] at HT
    clear f1 f2 f3 hdef
    go_enter Tryz.func23, Tryz.ntmps23
    go_wp2_with fail
    rw [← hw0]
    clear hw0
    refine HF.out.mono ?_
    rintro e w1 ⟨rfl, hb1⟩
    obtain ⟨c0, c1, c2⟩ := cel3C (HC0.out.below hb1 HC0.out.lt)
    have HBa := Lib.hid hb1
    have HB1 := Lib.hid (HB.out.trans (hb1.mono HB.out.size))
    have HQ := Lib.hid (HP1.out w1 hb1)
    clear hb1
    go_wp2_with fail
    refine HQ.out.mono ?_
    rintro e w2 ⟨rfl, hb2⟩
    have hb02 := HBa.out.trans (hb2.mono HBa.out.size)
    clear c0 c1 c2
    obtain ⟨c0, c1, c2⟩ := cel3C (HC0.out.below hb02 HC0.out.lt)
    have HQ2 := Lib.hid (HT.out w2 hb02)
    have HB2 := Lib.hid (HB1.out.trans (hb2.mono HB1.out.size))
    clear hb2 hb02
    go_wp2_with fail
    refine HQ2.out.mono ?_
    rintro e w3 ⟨rfl, hb3⟩
    go_wp2
    go_ret
    exact ⟨ret_int H.out.symm, HB2.out.trans (hb3.mono HB2.out.size)⟩
/-! ### The first subnet that is wanted -/
theorem pxF_app : ∀ (i : Nat) (l m : List Nx), pxF i (l ++ m) = pxF i l ++ pxF (i + l.length) m
  | i, [], m => rfl
  | i, x :: l, m => by
    rw [List.cons_append, pxF, pxF_app, pxF, List.append_assoc, List.length_cons, show i + 1 + l.length = i + (l.length + 1) by omega]
theorem pxN_at {i k : Nat} {xs : List Sx} {s : Sx} (h : xs[k]? = some s) : (pxN i xs)[k]? = some ⟨s, i, k⟩ := by
  unfold pxN
  rw [List.getElem?_mapIdx, h]
  rfl
theorem pxN_take (i k : Nat) (xs : List Sx) : (pxN i xs).take k = pxN i (xs.take k) := by
  unfold pxN
  apply List.ext_getElem?
  intro j
  simp only [List.getElem?_take, List.getElem?_mapIdx]
  split <;> rfl
theorem first_hit {q : Px → Bool} {ns : List Nx} {y : Nx} {s : Sx} {i k : Nat} (hy : ns[i]? = some y) (hs : y.xs[k]? = some s) (h1 : ∀ p ∈ pxF 0 (ns.take i), q p = false) (h2 : ∀ p ∈ pxN i (y.xs.take k), q p = false) (hq : q ⟨s, i, k⟩ = true) : firstP q (pxF 0 ns) = ((i : Int), (k : Int), true) := by
  have e : ns = ns.take i ++ (y :: ns.drop (i + 1)) := by
    obtain ⟨hk, rfl⟩ := List.getElem?_eq_some_iff.1 hy
    rw [← List.drop_eq_getElem_cons hk, List.take_append_drop]
  have hi : (ns.take i).length = i := by
    have := (List.getElem?_eq_some_iff.1 hy).1
    rw [List.length_take]
    omega
  have hf : (pxN i y.xs).find? q = some ⟨s, i, k⟩ := find_hit (pxN_at hs) (fun b hb => h2 b (by rw [← pxN_take]; exact hb)) hq
  unfold firstP
  rw [e, pxF_app, List.find?_append, find_miss h1, Option.none_or, hi, Nat.zero_add, pxF, List.find?_append, hf]
  rfl
theorem first_miss {q : Px → Bool} {ns : List Nx} (h : ∀ p ∈ pxF 0 ns, q p = false) : firstP q (pxF 0 ns) = (0, 0, false) := by
  unfold firstP
  rw [find_miss h]
theorem px_next {q : Px → Bool} {ns : List Nx} {y : Nx} {i : Nat} (hy : ns[i]? = some y) (h1 : ∀ p ∈ pxF 0 (ns.take i), q p = false) (h2 : ∀ p ∈ pxN i y.xs, q p = false) : ∀ p ∈ pxF 0 (ns.take (i + 1)), q p = false := by
  have hi : (ns.take i).length = i := by
    have := (List.getElem?_eq_some_iff.1 hy).1
    rw [List.length_take]
    omega
  intro p hp
  rw [take_at hy, pxF_snoc, hi, Nat.zero_add] at hp
  rcases List.mem_append.1 hp with hp | hp
  · exact h1 p hp
  · exact h2 p hp
theorem pn_next {q : Px → Bool} {xs : List Sx} {s : Sx} {i k : Nat} (hs : xs[k]? = some s) (h : ∀ p ∈ pxN i (xs.take k), q p = false) (hq : q ⟨s, i, k⟩ = false) : ∀ p ∈ pxN i (xs.take (k + 1)), q p = false := by
  have hk : (xs.take k).length = k := by
    have := (List.getElem?_eq_some_iff.1 hs).1
    rw [List.length_take]
    omega
  intro p hp
  rw [take_at hs, pxN_snoc, hk] at hp
  rcases List.mem_append.1 hp with hp | hp
  · exact h p hp
  · simp at hp
    rw [hp]
    exact hq
set_option maxHeartbeats 16000000 in
theorem refFind_any (x : Cx) (a : Int) (U : Nat) (w : World) (h : x.ok U w) (hU : U ≤ w.heap.size) (hS : Small x.cf) : Calls Tryz.prog 32 #[x.v, .int .i64 a] w (FiR (findC x.cf a) w) := by
  obtain ⟨w0, hw0, hc0, hb0⟩ := boxedC w x
  have hz : w0.heap.size = w.heap.size + 1 := by rw [hw0]; simp
  have HK := Lib.hid (refCheck_any x U w0 (h.below (hb0.mono hU)) (by omega) hS)
  have HDOC : Hid (findC x.cf a = firstP (fun p => hasB p.x.base p.x.bits a) (knownX x)) := Eq.symm (find_doc x a)
  have HKN : Hid (knownX x = if checkC x.cf = 0 then pxF 0 x.ns else []) := rfl
  generalize findC x.cf a = ans at HDOC ⊢
  rw [HKN.out] at HDOC
  generalize checkC x.cf = ck at HK HDOC
  obtain ⟨srv, prob, A, n, c, ns⟩ := x
  have HX : Hid (RdNx U w A n c ns) := h.rd
  have HL : Hid (ns.length = n) := h.rd.len
  have HUU := Lib.hid hU
  have hcp : n ≤ c := h.rd.cap
  have hmx : c ≤ 9223372036854775807 := h.rd.max
  have HB := Lib.hid hb0
  have HC0 : Hid (Cel w0 w.heap.size 24 #[.int .i64 srv, .int .i64 prob, .slice A n c]) := hc0
  show Calls _ _ #[.agg #[.int .i64 srv, .int .i64 prob, .slice A n c], .int .i64 a] w (FiR ans w)
  have hw0' : w0 = w.alloc (.cells #[.int .i64 srv, .int .i64 prob, .slice A n c] 24) := hw0
  have HK1 : Hid (Calls Tryz.prog 23 #[.agg #[.int .i64 srv, .int .i64 prob, .slice A n c]] w0 (isI ck w0)) := HK
  have HD1 : Hid (ans = firstP (fun p => hasB p.x.base p.x.bits a) (if ck = 0 then pxF 0 ns else [])) := HDOC
  clear h hU hS hc0 hb0 hw0 hz HK HDOC HKN
  by_cases hk : ck = 0
  rotate_left
  · have HT : Hid (ans = (0, 0, false)) := by show _ = _; rw [HD1.out, if_neg hk]; rfl
    have hkz : (ck == 0) = false := by simpa using hk
    have hkn : (ck != 0) = true := by rw [bne, hkz]; rfl
    clear hk
    go_enter Tryz.func32, Tryz.ntmps32
    go_wp2_with fail
    rw [← hw0']
    clear hw0'
    refine HK1.out.mono ?_
    rintro e w1 ⟨rfl, hb1⟩
    go_wp2
    go_ret3
    rw [HT.out]
    exact ⟨rfl, HB.out.trans (hb1.mono HB.out.size)⟩
  subst hk
  rw [if_pos rfl] at HD1
  go_enter Tryz.func32, Tryz.ntmps32
  go_wp2_with fail
  rw [← hw0']
  clear hw0'
  refine HK1.out.mono ?_
  rintro e w1 ⟨rfl, hb1⟩
  have HBa := Lib.hid hb1
  clear hb1
  go_wp2_with fail
  go_loopw [7] (fun v wr => ∃ i : Nat, v = .int .i64 i ∧ i ≤ n ∧ Hid (∀ p ∈ pxF 0 (ns.take i), (fun p => hasB p.x.base p.x.bits a) p = false) ∧ Hid (Below w0.heap.size w0 wr)) (fun v _ => n - (intOf v).toNat)
  case atStart => exact ⟨0, rfl, by omega, fun p hp => by simp [pxF] at hp, HBa.out⟩
  case round =>
    obtain ⟨i, rfl, hi2, HE, HB2⟩ := hrel
    have HBW := Lib.hid (HB.out.trans (HB2.out.mono HB.out.size))
    obtain ⟨c0, c1, c2⟩ := celC (HC0.out.below HB2.out HC0.out.lt)
    by_cases hlt : i < n
    · obtain ⟨b, o, y, m, rfl, hbU, HA, hy, n0⟩ := atN HX.out hlt
      have hiz : (i : Int) < (n : Int) := by omega
      have HY0 := Lib.hid hy
      have hyc := hy.cap
      have hym := hy.max
      have HN0 : Hid (∀ W, Below w.heap.size w W → W.cell? ⟨b, o + i, none⟩ = some (.slice y.A m y.c)) := fun W hW => (hW.cell (p := ⟨b, o + i, none⟩) (Nat.lt_of_lt_of_le hbU HUU.out)).trans n0
      clear hy n0
      obtain ⟨yA, yc, xs⟩ := y
      have HY : Hid (RdSx U w yA m yc xs) := HY0
      have HN : Hid (∀ W, Below w.heap.size w W → W.cell? ⟨b, o + i, none⟩ = some (.slice yA m yc)) := HN0
      replace hyc : m ≤ yc := hyc
      replace hym : yc ≤ 9223372036854775807 := hym
      clear HY0 HN0
      have n0 := HN.out wr HBW.out
      go_wp2_with fail
      clear c0 c1 c2 n0
      go_loopw [8] (fun v wr => ∃ k : Nat, v = .int .i64 k ∧ k ≤ m ∧ Hid (∀ p ∈ pxN i (xs.take k), (fun p => hasB p.x.base p.x.bits a) p = false) ∧ Hid (Below w0.heap.size w0 wr)) (fun v _ => m - (intOf v).toNat)
      case atStart => exact ⟨0, rfl, by omega, fun p hp => by simp [pxN] at hp, HB2.out⟩
      case round =>
        obtain ⟨k, rfl, hk2, HE2, HB3⟩ := hrel
        have HBV := Lib.hid (HB.out.trans (HB3.out.mono HB.out.size))
        obtain ⟨c0, c1, c2⟩ := celC (HC0.out.below HB3.out HC0.out.lt)
        have n0 := HN.out wr HBV.out
        by_cases hlt2 : k < m
        · obtain ⟨b2, o2, s, pn, rn, rfl, hbU2, HD, hok, _, _, hsv⟩ := atS HY.out hlt2
          have hkz : (k : Int) < (m : Int) := by omega
          obtain ⟨s0, s1, s2, s3, s4, s5, s6⟩ := hsv.below (HBV.out.mono HUU.out) hbU2
          clear hok hsv
          have HM : Hid (∀ W, Calls Tryz.prog 68 #[.int .i64 s.base, .int .i64 s.bits, .int .i64 a] W fun e w' => e = .returned (.bool (hasB s.base s.bits a)) ∧ w' = W) := fun W => (Aw.refHas_any s.base s.bits a W).mono fun _ _ h => ⟨h.1, h.2.symm⟩
          cases hv : hasB s.base s.bits a with
          | true =>
            have HT : Hid (ans = ((i : Int), (k : Int), true)) := by
              show _ = _
              rw [HD1.out]
              exact first_hit HA.out HD.out HE.out HE2.out hv
            rw [hv] at HM
            clear HE HA HE2 HD hv
            go_wp2_with fail
            go_quiet ((go_at_call 68; refine Calls.quiet_of_same (HM.out _)))
            go_wp2
            go_ret3
            rw [HT.out]
            exact ⟨rfl, below_drewN HBV.out _⟩
          | false =>
            have HT : Hid (∀ p ∈ pxN i (xs.take (k + 1)), (fun p : Px => hasB p.x.base p.x.bits a) p = false) := pn_next HD.out HE2.out hv
            rw [hv] at HM
            clear HE2 HD hv
            go_wp2_with fail
            go_quiet ((go_at_call 68; refine Calls.quiet_of_same (HM.out _)))
            go_wp2
            go_roundw
            case rel => exact ⟨k + 1, by go_num, by omega, HT.out, below_drewN HB3.out _⟩
            case measure => simp [intOf]; omega
        · obtain rfl : k = m := by omega
          have HT : Hid (∀ p ∈ pxF 0 (ns.take (i + 1)), (fun p => hasB p.x.base p.x.bits a) p = false) := px_next HA.out HE.out (by
            rw [← HY.out.len, List.take_length] at HE2
            exact HE2.out)
          have hkz : ¬ (k : Int) < (k : Int) := by omega
          clear hlt2 HE2 HE HA
          go_wp2
          go_roundw
          case rel => exact ⟨i + 1, by go_num, by omega, HT.out, HB3.out⟩
          case measure => simp [intOf]; omega
    · obtain rfl : i = n := by omega
      have HT : Hid (ans = (0, 0, false)) := by
        show _ = _
        rw [HD1.out]
        rw [← HL.out, List.take_length] at HE
        exact first_miss HE.out
      have hiz : ¬ (i : Int) < (i : Int) := by omega
      clear hlt HE
      go_wp2
      go_ret3
      rw [HT.out]
      exact ⟨rfl, HBW.out⟩
set_option maxHeartbeats 16000000 in
theorem refWire_any (x : Cx) (a : Int) (U : Nat) (w : World) (h : x.ok U w) (hU : U ≤ w.heap.size) (hS : Small x.cf) : Calls Tryz.prog 49 #[x.v, .int .i64 a] w (FiR (wireC x.cf a) w) := by
  obtain ⟨w0, hw0, hc0, hb0⟩ := boxedC w x
  have hz : w0.heap.size = w.heap.size + 1 := by rw [hw0]; simp
  have HK := Lib.hid (refCheck_any x U w0 (h.below (hb0.mono hU)) (by omega) hS)
  have HDOC : Hid (wireC x.cf a = firstP (fun p => decide (0 < a) && decide (p.x.iface = a)) (knownX x)) := Eq.symm (wire_doc x a)
  have HKN : Hid (knownX x = if checkC x.cf = 0 then pxF 0 x.ns else []) := rfl
  generalize wireC x.cf a = ans at HDOC ⊢
  rw [HKN.out] at HDOC
  generalize checkC x.cf = ck at HK HDOC
  obtain ⟨srv, prob, A, n, c, ns⟩ := x
  have HX : Hid (RdNx U w A n c ns) := h.rd
  have HL : Hid (ns.length = n) := h.rd.len
  have HUU := Lib.hid hU
  have hcp : n ≤ c := h.rd.cap
  have hmx : c ≤ 9223372036854775807 := h.rd.max
  have HB := Lib.hid hb0
  have HC0 : Hid (Cel w0 w.heap.size 24 #[.int .i64 srv, .int .i64 prob, .slice A n c]) := hc0
  show Calls _ _ #[.agg #[.int .i64 srv, .int .i64 prob, .slice A n c], .int .i64 a] w (FiR ans w)
  have hw0' : w0 = w.alloc (.cells #[.int .i64 srv, .int .i64 prob, .slice A n c] 24) := hw0
  have HK1 : Hid (Calls Tryz.prog 23 #[.agg #[.int .i64 srv, .int .i64 prob, .slice A n c]] w0 (isI ck w0)) := HK
  have HD1 : Hid (ans = firstP (fun p => decide (0 < a) && decide (p.x.iface = a)) (if ck = 0 then pxF 0 ns else [])) := HDOC
  clear h hU hS hc0 hb0 hw0 hz HK HDOC HKN
  by_cases hk : ck = 0
  rotate_left
  · have HT : Hid (ans = (0, 0, false)) := by show _ = _; rw [HD1.out, if_neg hk]; rfl
    have hkz : (ck == 0) = false := by simpa using hk
    have hkn : (ck != 0) = true := by rw [bne, hkz]; rfl
    clear hk
    go_enter Tryz.func49, Tryz.ntmps49
    go_wp2_with fail
    rw [← hw0']
    clear hw0'
    refine HK1.out.mono ?_
    rintro e w1 ⟨rfl, hb1⟩
    go_wp2
    go_ret3
    rw [HT.out]
    exact ⟨rfl, HB.out.trans (hb1.mono HB.out.size)⟩
  subst hk
  rw [if_pos rfl] at HD1
  by_cases ha : a < 1
  · have HT : Hid (ans = (0, 0, false)) := by show _ = _; rw [HD1.out]; exact first_miss fun p _ => by simp only [decide_eq_false (show ¬ 0 < a by omega), Bool.false_and]
    go_enter Tryz.func49, Tryz.ntmps49
    go_wp2_with fail
    rw [← hw0']
    clear hw0'
    refine HK1.out.mono ?_
    rintro e w1 ⟨rfl, hb1⟩
    go_wp2
    go_ret3
    rw [HT.out]
    exact ⟨rfl, HB.out.trans (hb1.mono HB.out.size)⟩
  go_enter Tryz.func49, Tryz.ntmps49
  go_wp2_with fail
  rw [← hw0']
  clear hw0'
  refine HK1.out.mono ?_
  rintro e w1 ⟨rfl, hb1⟩
  have HBa := Lib.hid hb1
  clear hb1
  go_wp2_with fail
  go_loopw [7] (fun v wr => ∃ i : Nat, v = .int .i64 i ∧ i ≤ n ∧ Hid (∀ p ∈ pxF 0 (ns.take i), (fun p => decide (0 < a) && decide (p.x.iface = a)) p = false) ∧ Hid (Below w0.heap.size w0 wr)) (fun v _ => n - (intOf v).toNat)
  case atStart => exact ⟨0, rfl, by omega, fun p hp => by simp [pxF] at hp, HBa.out⟩
  case round =>
    obtain ⟨i, rfl, hi2, HE, HB2⟩ := hrel
    have HBW := Lib.hid (HB.out.trans (HB2.out.mono HB.out.size))
    obtain ⟨c0, c1, c2⟩ := celC (HC0.out.below HB2.out HC0.out.lt)
    by_cases hlt : i < n
    · obtain ⟨b, o, y, m, rfl, hbU, HA, hy, n0⟩ := atN HX.out hlt
      have hiz : (i : Int) < (n : Int) := by omega
      have HY0 := Lib.hid hy
      have hyc := hy.cap
      have hym := hy.max
      have HN0 : Hid (∀ W, Below w.heap.size w W → W.cell? ⟨b, o + i, none⟩ = some (.slice y.A m y.c)) := fun W hW => (hW.cell (p := ⟨b, o + i, none⟩) (Nat.lt_of_lt_of_le hbU HUU.out)).trans n0
      clear hy n0
      obtain ⟨yA, yc, xs⟩ := y
      have HY : Hid (RdSx U w yA m yc xs) := HY0
      have HN : Hid (∀ W, Below w.heap.size w W → W.cell? ⟨b, o + i, none⟩ = some (.slice yA m yc)) := HN0
      replace hyc : m ≤ yc := hyc
      replace hym : yc ≤ 9223372036854775807 := hym
      clear HY0 HN0
      have n0 := HN.out wr HBW.out
      go_wp2_with fail
      clear c0 c1 c2 n0
      go_loopw [8] (fun v wr => ∃ k : Nat, v = .int .i64 k ∧ k ≤ m ∧ Hid (∀ p ∈ pxN i (xs.take k), (fun p => decide (0 < a) && decide (p.x.iface = a)) p = false) ∧ Hid (Below w0.heap.size w0 wr)) (fun v _ => m - (intOf v).toNat)
      case atStart => exact ⟨0, rfl, by omega, fun p hp => by simp [pxN] at hp, HB2.out⟩
      case round =>
        obtain ⟨k, rfl, hk2, HE2, HB3⟩ := hrel
        have HBV := Lib.hid (HB.out.trans (HB3.out.mono HB.out.size))
        obtain ⟨c0, c1, c2⟩ := celC (HC0.out.below HB3.out HC0.out.lt)
        have n0 := HN.out wr HBV.out
        by_cases hlt2 : k < m
        · obtain ⟨b2, o2, s, pn, rn, rfl, hbU2, HD, hok, _, _, hsv⟩ := atS HY.out hlt2
          have hkz : (k : Int) < (m : Int) := by omega
          obtain ⟨s0, s1, s2, s3, s4, s5, s6⟩ := hsv.below (HBV.out.mono HUU.out) hbU2
          clear hok hsv
          by_cases hv : s.iface = a
          · have HT : Hid (ans = ((i : Int), (k : Int), true)) := by
              show _ = _
              rw [HD1.out]
              exact first_hit HA.out HD.out HE.out HE2.out (by simp only [Bool.and_eq_true, decide_eq_true_iff]; exact ⟨by omega, hv⟩)
            have hy : (s.iface == a) = true := by simpa using hv
            clear HE HA HE2 HD hv
            go_wp2
            go_ret3
            rw [HT.out]
            exact ⟨rfl, HBV.out⟩
          · have HT : Hid (∀ p ∈ pxN i (xs.take (k + 1)), (fun p : Px => decide (0 < a) && decide (p.x.iface = a)) p = false) := pn_next HD.out HE2.out (by simp only [decide_eq_false hv, Bool.and_false])
            have hy : (s.iface == a) = false := by simpa using hv
            clear HE2 HD hv
            go_wp2
            go_roundw
            case rel => exact ⟨k + 1, by go_num, by omega, HT.out, HB3.out⟩
            case measure => simp [intOf]; omega
        · obtain rfl : k = m := by omega
          have HT : Hid (∀ p ∈ pxF 0 (ns.take (i + 1)), (fun p => decide (0 < a) && decide (p.x.iface = a)) p = false) := px_next HA.out HE.out (by
            rw [← HY.out.len, List.take_length] at HE2
            exact HE2.out)
          have hkz : ¬ (k : Int) < (k : Int) := by omega
          clear hlt2 HE2 HE HA
          go_wp2
          go_roundw
          case rel => exact ⟨i + 1, by go_num, by omega, HT.out, HB3.out⟩
          case measure => simp [intOf]; omega
    · obtain rfl : i = n := by omega
      have HT : Hid (ans = (0, 0, false)) := by
        show _ = _
        rw [HD1.out]
        rw [← HL.out, List.take_length] at HE
        exact first_miss HE.out
      have hiz : ¬ (i : Int) < (i : Int) := by omega
      clear hlt HE
      go_wp2
      go_ret3
      rw [HT.out]
      exact ⟨rfl, HBW.out⟩
end Go.Proofs.YtoldppbakapohaaGreatDoor.Vw
end
/- What the document's own KeptFor, Keeper and InPool come to. Condition: the configuration is small (boarderlaw13's Great is false). -/
section
set_option maxRecDepth 8000
namespace Go.Proofs.YtoldppbakapohaaGreatDoor.Vw
open Go.RowKit By Cf Ad Ky
open Dw (ba ba_size ba_data ba_list alloc_more)

section
variable {α β : Type} {g : α → List β} {q : β → Bool} {l : List α} {s : α} {r : β} {i k : Nat}
end
end Go.Proofs.YtoldppbakapohaaGreatDoor.Vw
end
