/- What the document's own Check, Find and OnWire come to. Condition: the configuration is small (boarderlaw13's Great is false). -/
import Derived.Test.YtpdjdaoclpeffaaGreatVwD
import Derived.Test.YtpdjdaoclpeffaaGreatVwC
section
set_option maxRecDepth 8000
namespace Go.Proofs.YtpdjdaoclpeffaaGreat.Vw
open Go.RowKit By Cf Ad Ky
open Dw (ba ba_size ba_data ba_list alloc_more)

set_option maxHeartbeats 4000000 in
theorem refCheck_any (x : Cx) (U : Nat) (w : World) (h : x.ok U w) (hU : U ≤ w.heap.size) (hS : Small x.cf) : Calls Tryz.prog 32 #[x.v] w (isI (checkC x.cf) w) := by
  obtain ⟨w0, hw0, hc0, hb0⟩ := boxedC w x
  have hz : w0.heap.size = w.heap.size + 1 := by rw [hw0]; simp
  have h0 := h.below (hb0.mono hU)
  have HF := Lib.hid (refForm_any x U w0 h0 (by omega))
  have HP := Lib.hid (fun w1 (b1 : Below w0.heap.size w0 w1) (hf : formC x.cf = true) => refPlaces_any x U w1 (h0.below (b1.mono (by omega))) (by have := b1.size; omega) hf)
  have HT := Lib.hid (fun w1 (b1 : Below w0.heap.size w0 w1) => refTwice_any x U w1 (h0.below (b1.mono (by omega))) (by have := b1.size; omega) (small_n h hS) (small_sns hS) (small_res hS))
  have HB := Lib.hid hb0
  have HC0 := Lib.hid hc0
  have hdef : checkC x.cf = if formC x.cf = true then (if placesC x.cf = true then (if twiceC x.cf = true then 8 else 0) else 9) else 1 := rfl
  clear h hU hS hc0 hb0 hz h0
  cases f1 : formC x.cf with
  | false =>
    have H : Hid (checkC x.cf = 1) := by show _ = _; rw [hdef, f1]; rfl
    rw [f1] at HF
    clear f1 hdef
    go_enter Tryz.func32, Tryz.ntmps32
    go_wp2_with fail
    rw [← hw0]
    clear hw0
    refine HF.out.mono ?_
    rintro e w1 ⟨rfl, hb1⟩
    go_wp2
    go_ret
    exact ⟨ret_int H.out.symm, HB.out.trans (hb1.mono HB.out.size)⟩
  | true =>
  have HP1 := Lib.hid (fun w1 b1 => HP.out w1 b1 f1)
  rw [f1] at HF
  clear HP
  cases f2 : placesC x.cf with
  | false =>
    have H : Hid (checkC x.cf = 9) := by show _ = _; rw [hdef, f1, f2]; rfl
    rw [f2] at HP1
    clear f1 f2 hdef
    go_enter Tryz.func32, Tryz.ntmps32
    go_wp2_with fail
    rw [← hw0]
    clear hw0
    refine HF.out.mono ?_
    rintro e w1 ⟨rfl, hb1⟩
    obtain ⟨c0, c1, c2⟩ := cel3C (HC0.out.below hb1 HC0.out.lt)
    have HB1 := Lib.hid (HB.out.trans (hb1.mono HB.out.size))
    have HQ := Lib.hid (HP1.out w1 hb1)
    clear hb1
    go_wp2_with fail
    refine HQ.out.mono ?_
    rintro e w2 ⟨rfl, hb2⟩
    go_wp2
    go_ret
    exact ⟨ret_int H.out.symm, HB1.out.trans (hb2.mono HB1.out.size)⟩
  | true =>
  rw [f2] at HP1
  cases f3 : twiceC x.cf with
  | true =>
    have H : Hid (checkC x.cf = 8) := by show _ = _; rw [hdef, f1, f2, f3]; rfl
    rw [f3] at HT
    clear f1 f2 f3 hdef
    go_enter Tryz.func32, Tryz.ntmps32
    go_wp2_with fail
    rw [← hw0]
    clear hw0
    refine HF.out.mono ?_
    rintro e w1 ⟨rfl, hb1⟩
    obtain ⟨c0, c1, c2⟩ := cel3C (HC0.out.below hb1 HC0.out.lt)
    have HBa := Lib.hid hb1
    have HB1 := Lib.hid (HB.out.trans (hb1.mono HB.out.size))
    have HQ := Lib.hid (HP1.out w1 hb1)
    clear hb1
    go_wp2_with fail
    refine HQ.out.mono ?_
    rintro e w2 ⟨rfl, hb2⟩
    have hb02 := HBa.out.trans (hb2.mono HBa.out.size)
    clear c0 c1 c2
    obtain ⟨c0, c1, c2⟩ := cel3C (HC0.out.below hb02 HC0.out.lt)
    have HQ2 := Lib.hid (HT.out w2 hb02)
    have HB2 := Lib.hid (HB1.out.trans (hb2.mono HB1.out.size))
    clear hb2 hb02
    go_wp2_with fail
    refine HQ2.out.mono ?_
    rintro e w3 ⟨rfl, hb3⟩
    go_wp2
    go_ret
    exact ⟨ret_int H.out.symm, HB2.out.trans (hb3.mono HB2.out.size)⟩
  | false =>
    have H : Hid (checkC x.cf = 0) := by show _ = _; rw [hdef, f1, f2, f3]; rfl
    rw [f3] at HT
    clear f1 f2 f3 hdef
    go_enter Tryz.func32, Tryz.ntmps32
    go_wp2_with fail
    rw [← hw0]
    clear hw0
    refine HF.out.mono ?_
    rintro e w1 ⟨rfl, hb1⟩
    obtain ⟨c0, c1, c2⟩ := cel3C (HC0.out.below hb1 HC0.out.lt)
    have HBa := Lib.hid hb1
    have HB1 := Lib.hid (HB.out.trans (hb1.mono HB.out.size))
    have HQ := Lib.hid (HP1.out w1 hb1)
    clear hb1
    go_wp2_with fail
    refine HQ.out.mono ?_
    rintro e w2 ⟨rfl, hb2⟩
    have hb02 := HBa.out.trans (hb2.mono HBa.out.size)
    clear c0 c1 c2
    obtain ⟨c0, c1, c2⟩ := cel3C (HC0.out.below hb02 HC0.out.lt)
    have HQ2 := Lib.hid (HT.out w2 hb02)
    have HB2 := Lib.hid (HB1.out.trans (hb2.mono HB1.out.size))
    clear hb2 hb02
    go_wp2_with fail
    refine HQ2.out.mono ?_
    rintro e w3 ⟨rfl, hb3⟩
    go_wp2
    go_ret
    exact ⟨ret_int H.out.symm, HB2.out.trans (hb3.mono HB2.out.size)⟩
/-! ### The first subnet that is wanted -/
theorem pxF_app : ∀ (i : Nat) (l m : List Nx), pxF i (l ++ m) = pxF i l ++ pxF (i + l.length) m
  | i, [], m => rfl
  | i, x :: l, m => by
    rw [List.cons_append, pxF, pxF_app, pxF, List.append_assoc, List.length_cons, show i + 1 + l.length = i + (l.length + 1) by omega]
theorem pxN_at {i k : Nat} {xs : List Sx} {s : Sx} (h : xs[k]? = some s) : (pxN i xs)[k]? = some ⟨s, i, k⟩ := by
  unfold pxN
  rw [List.getElem?_mapIdx, h]
  rfl
theorem pxN_take (i k : Nat) (xs : List Sx) : (pxN i xs).take k = pxN i (xs.take k) := by
  unfold pxN
  apply List.ext_getElem?
  intro j
  simp only [List.getElem?_take, List.getElem?_mapIdx]
  split <;> rfl
theorem first_hit {q : Px → Bool} {ns : List Nx} {y : Nx} {s : Sx} {i k : Nat} (hy : ns[i]? = some y) (hs : y.xs[k]? = some s) (h1 : ∀ p ∈ pxF 0 (ns.take i), q p = false) (h2 : ∀ p ∈ pxN i (y.xs.take k), q p = false) (hq : q ⟨s, i, k⟩ = true) : firstP q (pxF 0 ns) = ((i : Int), (k : Int), true) := by
  have e : ns = ns.take i ++ (y :: ns.drop (i + 1)) := by
    obtain ⟨hk, rfl⟩ := List.getElem?_eq_some_iff.1 hy
    rw [← List.drop_eq_getElem_cons hk, List.take_append_drop]
  have hi : (ns.take i).length = i := by
    have := (List.getElem?_eq_some_iff.1 hy).1
    rw [List.length_take]
    omega
  have hf : (pxN i y.xs).find? q = some ⟨s, i, k⟩ := find_hit (pxN_at hs) (fun b hb => h2 b (by rw [← pxN_take]; exact hb)) hq
  unfold firstP
  rw [e, pxF_app, List.find?_append, find_miss h1, Option.none_or, hi, Nat.zero_add, pxF, List.find?_append, hf]
  rfl
theorem first_miss {q : Px → Bool} {ns : List Nx} (h : ∀ p ∈ pxF 0 ns, q p = false) : firstP q (pxF 0 ns) = (0, 0, false) := by
  unfold firstP
  rw [find_miss h]
theorem px_next {q : Px → Bool} {ns : List Nx} {y : Nx} {i : Nat} (hy : ns[i]? = some y) (h1 : ∀ p ∈ pxF 0 (ns.take i), q p = false) (h2 : ∀ p ∈ pxN i y.xs, q p = false) : ∀ p ∈ pxF 0 (ns.take (i + 1)), q p = false := by
  have hi : (ns.take i).length = i := by
    have := (List.getElem?_eq_some_iff.1 hy).1
    rw [List.length_take]
    omega
  intro p hp
  rw [take_at hy, pxF_snoc, hi, Nat.zero_add] at hp
  rcases List.mem_append.1 hp with hp | hp
  · exact h1 p hp
  · exact h2 p hp
theorem pn_next {q : Px → Bool} {xs : List Sx} {s : Sx} {i k : Nat} (hs : xs[k]? = some s) (h : ∀ p ∈ pxN i (xs.take k), q p = false) (hq : q ⟨s, i, k⟩ = false) : ∀ p ∈ pxN i (xs.take (k + 1)), q p = false := by
  have hk : (xs.take k).length = k := by
    have := (List.getElem?_eq_some_iff.1 hs).1
    rw [List.length_take]
    omega
  intro p hp
  rw [take_at hs, pxN_snoc, hk] at hp
  rcases List.mem_append.1 hp with hp | hp
  · exact h p hp
  · simp at hp
    rw [hp]
    exact hq
set_option maxHeartbeats 16000000 in
theorem refFind_any (x : Cx) (a : Int) (U : Nat) (w : World) (h : x.ok U w) (hU : U ≤ w.heap.size) (hS : Small x.cf) : Calls Tryz.prog 35 #[x.v, .int .i64 a] w (FiR (findC x.cf a) w) := by
  obtain ⟨w0, hw0, hc0, hb0⟩ := boxedC w x
  have hz : w0.heap.size = w.heap.size + 1 := by rw [hw0]; simp
  have HK := Lib.hid (refCheck_any x U w0 (h.below (hb0.mono hU)) (by omega) hS)
  have HDOC : Hid (findC x.cf a = firstP (fun p => hasB p.x.base p.x.bits a) (knownX x)) := Eq.symm (find_doc x a)
  have HKN : Hid (knownX x = if checkC x.cf = 0 then pxF 0 x.ns else []) := rfl
  generalize findC x.cf a = ans at HDOC ⊢
  rw [HKN.out] at HDOC
  generalize checkC x.cf = ck at HK HDOC
  obtain ⟨srv, prob, A, n, c, ns⟩ := x
  have HX : Hid (RdNx U w A n c ns) := h.rd
  have HL : Hid (ns.length = n) := h.rd.len
  have HUU := Lib.hid hU
  have hcp : n ≤ c := h.rd.cap
  have hmx : c ≤ 9223372036854775807 := h.rd.max
  have HB := Lib.hid hb0
  have HC0 : Hid (Cel w0 w.heap.size 24 #[.int .i64 srv, .int .i64 prob, .slice A n c]) := hc0
  show Calls _ _ #[.agg #[.int .i64 srv, .int .i64 prob, .slice A n c], .int .i64 a] w (FiR ans w)
  have hw0' : w0 = w.alloc (.cells #[.int .i64 srv, .int .i64 prob, .slice A n c] 24) := hw0
  have HK1 : Hid (Calls Tryz.prog 32 #[.agg #[.int .i64 srv, .int .i64 prob, .slice A n c]] w0 (isI ck w0)) := HK
  have HD1 : Hid (ans = firstP (fun p => hasB p.x.base p.x.bits a) (if ck = 0 then pxF 0 ns else [])) := HDOC
  clear h hU hS hc0 hb0 hw0 hz HK HDOC HKN
  by_cases hk : ck = 0
  rotate_left
  · have HT : Hid (ans = (0, 0, false)) := by show _ = _; rw [HD1.out, if_neg hk]; rfl
    have hkz : (ck == 0) = false := by simpa using hk
    have hkn : (ck != 0) = true := by rw [bne, hkz]; rfl
    clear hk
    go_enter Tryz.func35, Tryz.ntmps35
    go_wp2_with fail
    rw [← hw0']
    clear hw0'
    refine HK1.out.mono ?_
    rintro e w1 ⟨rfl, hb1⟩
    go_wp2
    go_ret3
    rw [HT.out]
    exact ⟨rfl, HB.out.trans (hb1.mono HB.out.size)⟩
  subst hk
  rw [if_pos rfl] at HD1
  go_enter Tryz.func35, Tryz.ntmps35
  go_wp2_with fail
  rw [← hw0']
  clear hw0'
  refine HK1.out.mono ?_
  rintro e w1 ⟨rfl, hb1⟩
  have HBa := Lib.hid hb1
  clear hb1
  go_wp2_with fail
  go_loopw [7] (fun v wr => ∃ i : Nat, v = .int .i64 i ∧ i ≤ n ∧ Hid (∀ p ∈ pxF 0 (ns.take i), (fun p => hasB p.x.base p.x.bits a) p = false) ∧ Hid (Below w0.heap.size w0 wr)) (fun v _ => n - (intOf v).toNat)
  case atStart => exact ⟨0, rfl, by omega, fun p hp => by simp [pxF] at hp, HBa.out⟩
  case round =>
    obtain ⟨i, rfl, hi2, HE, HB2⟩ := hrel
    have HBW := Lib.hid (HB.out.trans (HB2.out.mono HB.out.size))
    obtain ⟨c0, c1, c2⟩ := celC (HC0.out.below HB2.out HC0.out.lt)
    by_cases hlt : i < n
    · obtain ⟨b, o, y, m, rfl, hbU, HA, hy, n0⟩ := atN HX.out hlt
      have hiz : (i : Int) < (n : Int) := by omega
      have HY0 := Lib.hid hy
      have hyc := hy.cap
      have hym := hy.max
      have HN0 : Hid (∀ W, Below w.heap.size w W → W.cell? ⟨b, o + i, none⟩ = some (.slice y.A m y.c)) := fun W hW => (hW.cell (p := ⟨b, o + i, none⟩) (Nat.lt_of_lt_of_le hbU HUU.out)).trans n0
      clear hy n0
      obtain ⟨yA, yc, xs⟩ := y
      have HY : Hid (RdSx U w yA m yc xs) := HY0
      have HN : Hid (∀ W, Below w.heap.size w W → W.cell? ⟨b, o + i, none⟩ = some (.slice yA m yc)) := HN0
      replace hyc : m ≤ yc := hyc
      replace hym : yc ≤ 9223372036854775807 := hym
      clear HY0 HN0
      have n0 := HN.out wr HBW.out
      go_wp2_with fail
      clear c0 c1 c2 n0
      go_loopw [8] (fun v wr => ∃ k : Nat, v = .int .i64 k ∧ k ≤ m ∧ Hid (∀ p ∈ pxN i (xs.take k), (fun p => hasB p.x.base p.x.bits a) p = false) ∧ Hid (Below w0.heap.size w0 wr)) (fun v _ => m - (intOf v).toNat)
      case atStart => exact ⟨0, rfl, by omega, fun p hp => by simp [pxN] at hp, HB2.out⟩
      case round =>
        obtain ⟨k, rfl, hk2, HE2, HB3⟩ := hrel
        have HBV := Lib.hid (HB.out.trans (HB3.out.mono HB.out.size))
        obtain ⟨c0, c1, c2⟩ := celC (HC0.out.below HB3.out HC0.out.lt)
        have n0 := HN.out wr HBV.out
        by_cases hlt2 : k < m
        · obtain ⟨b2, o2, s, pn, rn, rfl, hbU2, HD, hok, _, _, hsv⟩ := atS HY.out hlt2
          have hkz : (k : Int) < (m : Int) := by omega
          obtain ⟨s0, s1, s2, s3, s4, s5, s6⟩ := hsv.below (HBV.out.mono HUU.out) hbU2
          clear hok hsv
          have HM : Hid (∀ W, Calls Tryz.prog 54 #[.int .i64 s.base, .int .i64 s.bits, .int .i64 a] W fun e w' => e = .returned (.bool (hasB s.base s.bits a)) ∧ w' = W) := fun W => (Aw.refHas_any s.base s.bits a W).mono fun _ _ h => ⟨h.1, h.2.symm⟩
          cases hv : hasB s.base s.bits a with
          | true =>
            have HT : Hid (ans = ((i : Int), (k : Int), true)) := by
              show _ = _
              rw [HD1.out]
              exact first_hit HA.out HD.out HE.out HE2.out hv
            rw [hv] at HM
            clear HE HA HE2 HD hv
            go_wp2_with fail
            go_quiet ((go_at_call 54; refine Calls.quiet_of_same (HM.out _)))
            go_wp2
            go_ret3
            rw [HT.out]
            exact ⟨rfl, below_drewN HBV.out _⟩
          | false =>
            have HT : Hid (∀ p ∈ pxN i (xs.take (k + 1)), (fun p : Px => hasB p.x.base p.x.bits a) p = false) := pn_next HD.out HE2.out hv
            rw [hv] at HM
            clear HE2 HD hv
            go_wp2_with fail
            go_quiet ((go_at_call 54; refine Calls.quiet_of_same (HM.out _)))
            go_wp2
            go_roundw
            case rel => exact ⟨k + 1, by go_num, by omega, HT.out, below_drewN HB3.out _⟩
            case measure => simp [intOf]; omega
        · obtain rfl : k = m := by omega
          have HT : Hid (∀ p ∈ pxF 0 (ns.take (i + 1)), (fun p => hasB p.x.base p.x.bits a) p = false) := px_next HA.out HE.out (by
            rw [← HY.out.len, List.take_length] at HE2
            exact HE2.out)
          have hkz : ¬ (k : Int) < (k : Int) := by omega
          clear hlt2 HE2 HE HA
          go_wp2
          go_roundw
          case rel => exact ⟨i + 1, by go_num, by omega, HT.out, HB3.out⟩
          case measure => simp [intOf]; omega
    · obtain rfl : i = n := by omega
      have HT : Hid (ans = (0, 0, false)) := by
        show _ = _
        rw [HD1.out]
        rw [← HL.out, List.take_length] at HE
        exact first_miss HE.out
      have hiz : ¬ (i : Int) < (i : Int) := by omega
      clear hlt HE
      go_wp2
      go_ret3
      rw [HT.out]
      exact ⟨rfl, HBW.out⟩
end Go.Proofs.YtpdjdaoclpeffaaGreat.Vw
end
/- What the document's own KeptFor, Keeper and InPool come to. Condition: the configuration is small (boarderlaw13's Great is false). -/
section
set_option maxRecDepth 8000
namespace Go.Proofs.YtpdjdaoclpeffaaGreat.Vw
open Go.RowKit By Cf Ad Ky
open Dw (ba ba_size ba_data ba_list alloc_more)

section
variable {α β : Type} {g : α → List β} {q : β → Bool} {l : List α} {s : α} {r : β} {i k : Nat}
theorem flat_at (hl : l[i]? = some s) : l.flatMap g = (l.take i).flatMap g ++ (g s ++ (l.drop (i + 1)).flatMap g) := by
  have e : l = l.take i ++ (s :: l.drop (i + 1)) := by
    obtain ⟨hk, rfl⟩ := List.getElem?_eq_some_iff.1 hl
    rw [← List.drop_eq_getElem_cons hk, List.take_append_drop]
  rw [← List.flatMap_cons, ← List.flatMap_append, ← e]
theorem flat_hit (hl : l[i]? = some s) (hr : (g s)[k]? = some r) (h1 : ∀ r ∈ (l.take i).flatMap g, q r = false) (h2 : ∀ r ∈ (g s).take k, q r = false) (hq : q r = true) : (l.flatMap g).find? q = some r := by
  rw [flat_at hl, List.find?_append, find_miss h1, Option.none_or, List.find?_append, find_hit hr h2 hq]
  rfl
theorem flat_next (hl : l[i]? = some s) (h1 : ∀ r ∈ (l.take i).flatMap g, q r = false) (h2 : ∀ r ∈ g s, q r = false) : ∀ r ∈ (l.take (i + 1)).flatMap g, q r = false := by
  intro r hr
  rw [take_at hl, List.flatMap_append] at hr
  rcases List.mem_append.1 hr with hr | hr
  · exact h1 r hr
  · simp at hr
    exact h2 r hr
theorem flat_mem (hl : l[i]? = some s) (hr : (g s)[k]? = some r) : r ∈ l.flatMap g := List.mem_flatMap.2 ⟨s, List.mem_of_getElem? hl, List.mem_of_getElem? hr⟩
theorem any_flat (q : β → Bool) : ∀ l : List α, (l.any fun s => (g s).any q) = (l.flatMap g).any q
  | [] => rfl
  | a :: l => by rw [List.any_cons, List.flatMap_cons, List.any_append, any_flat q l]
end
/-- Nothing that is wanted hangs on the first i of a list; nothing is among the first k. -/
def NoF {α β : Type} (g : α → List β) (q : β → Bool) (l : List α) (i : Nat) : Prop := ∀ r ∈ (l.take i).flatMap g, q r = false
def NoT {β : Type} (q : β → Bool) (l : List β) (k : Nat) : Prop := ∀ r ∈ l.take k, q r = false
theorem noF_zero {α β : Type} (g : α → List β) (q : β → Bool) (l : List α) : NoF g q l 0 := fun r hr => by simp at hr
theorem noT_zero {β : Type} (q : β → Bool) (l : List β) : NoT q l 0 := fun r hr => by simp at hr
theorem noF_end {α β : Type} {g : α → List β} {q : β → Bool} {l : List α} {n : Nat} (h : NoF g q l n) (hn : l.length = n) : ∀ r ∈ l.flatMap g, q r = false := by
  unfold NoF at h
  rw [← hn, List.take_length] at h
  exact h
theorem noT_end {β : Type} {q : β → Bool} {l : List β} {n : Nat} (h : NoT q l n) (hn : l.length = n) : ∀ r ∈ l, q r = false := by
  unfold NoT at h
  rw [← hn, List.take_length] at h
  exact h
theorem res_flat (xs : List Sx) : ((snsOf xs).flatMap fun s => s.res) = xs.flatMap fun s => s.res := by
  unfold snsOf
  rw [List.flatMap_map]
  rfl
theorem pools_flat (xs : List Sx) : ((snsOf xs).flatMap fun s => s.pools) = xs.flatMap fun s => s.pools := by
  unfold snsOf
  rw [List.flatMap_map]
  rfl
theorem kx_flat : ∀ ps : List Px, (kxF ps).map Kx.r = (ps.map Px.x).flatMap fun s => s.res
  | [] => rfl
  | p :: ps => by
    have ih := kx_flat ps
    unfold kxF at ih ⊢
    rw [List.flatMap_cons, List.map_append, ih, List.map_cons, List.flatMap_cons]
    congr 1
    unfold kxP1
    rw [List.map_map]
    exact List.map_id' _
/-- The network with an index. -/
def netL (ck : Int) (ns : List Nx) (net : Int) : List Sx := if ck = 0 ∧ 0 ≤ net ∧ net < ns.length then (match ns[net.toNat]? with | some y => y.xs | none => []) else []
theorem netC_is (x : Cx) (net : Int) : netC x.cf net = snsOf (netL (checkC x.cf) x.ns net) := by
  unfold netC netL
  rw [show x.cf.nets = netsOf x.ns from rfl, nets_len]
  split
  · next hh =>
    rw [List.getD_eq_getElem?_getD]
    cases hy : x.ns[net.toNat]? with
    | none =>
      have := List.getElem?_eq_none_iff.1 hy
      omega
    | some y => rw [nets_get hy]; rfl
  · rfl
theorem kept_is (x : Cx) (net : Int) (key : List UInt8) : keptC x.cf net key = ansA (((netL (checkC x.cf) x.ns net).flatMap fun s => s.res).find? fun r => decide (r.key = key)) := by
  unfold keptC keptN
  rw [netC_is, res_flat]
theorem pool_is (x : Cx) (net a : Int) : inPoolC x.cf net a = ((netL (checkC x.cf) x.ns net).flatMap fun s => s.pools).any fun q => inPl q a := by
  unfold inPoolC pooledN
  rw [netC_is, any_flat, pools_flat]
theorem keeper_is (x : Cx) (a : Int) : keeperC x.cf a = ansK (if checkC x.cf = 0 then ((((pxF 0 x.ns).map Px.x).flatMap fun s => s.res).find? fun r => decide (r.addr = a)) else none) := by
  rw [← keeper_doc]
  unfold knownX
  by_cases h : checkC x.cf = 0
  · rw [if_pos h, if_pos h, ← kx_flat, List.find?_map]
    rfl
  · rw [if_neg h, if_neg h]
    rfl
set_option maxHeartbeats 16000000 in
theorem refKept_any (x : Cx) (net : Int) (key : List UInt8) (U : Nat) (w : World) (h : x.ok U w) (hU : U ≤ w.heap.size) (hS : Small x.cf) : Calls Tryz.prog 27 #[x.v, .int .i64 net, .string (ba key)] w (AdR (keptC x.cf net key) w) := by
  obtain ⟨w0, hw0, hc0, hb0⟩ := boxedC w x
  have hz : w0.heap.size = w.heap.size + 1 := by rw [hw0]; simp
  have HK := Lib.hid (refCheck_any x U w0 (h.below (hb0.mono hU)) (by omega) hS)
  have HDOC := Lib.hid (kept_is x net key)
  generalize keptC x.cf net key = ans at HDOC ⊢
  generalize checkC x.cf = ck at HK HDOC
  obtain ⟨srv, prob, A, n, c, ns⟩ := x
  have HX : Hid (RdNx U w A n c ns) := h.rd
  have HL : Hid (ns.length = n) := h.rd.len
  have HUU := Lib.hid hU
  have hcp : n ≤ c := h.rd.cap
  have hmx : c ≤ 9223372036854775807 := h.rd.max
  have HB := Lib.hid hb0
  have HC0 : Hid (Cel w0 w.heap.size 24 #[.int .i64 srv, .int .i64 prob, .slice A n c]) := hc0
  show Calls _ _ #[.agg #[.int .i64 srv, .int .i64 prob, .slice A n c], .int .i64 net, .string (ba key)] w (AdR ans w)
  have hw0' : w0 = w.alloc (.cells #[.int .i64 srv, .int .i64 prob, .slice A n c] 24) := hw0
  have HK1 : Hid (Calls Tryz.prog 32 #[.agg #[.int .i64 srv, .int .i64 prob, .slice A n c]] w0 (isI ck w0)) := HK
  have HD1 : Hid (ans = ansA (((netL ck ns net).flatMap fun s => s.res).find? fun r => decide (r.key = key))) := HDOC
  clear h hU hS hc0 hb0 hw0 hz HK HDOC
  by_cases hk : ck = 0
  rotate_left
  · have HT : Hid (ans = (0, false)) := by show _ = _; rw [HD1.out]; unfold netL; rw [if_neg fun z => hk z.1]; rfl
    have hkz : (ck == 0) = false := by simpa using hk
    have hkn : (ck != 0) = true := by rw [bne, hkz]; rfl
    clear hk
    go_enter Tryz.func27, Tryz.ntmps27
    go_wp2_with fail
    rw [← hw0']
    clear hw0'
    refine HK1.out.mono ?_
    rintro e w1 ⟨rfl, hb1⟩
    go_wp2
    go_ret2
    rw [HT.out]
    exact ⟨rfl, HB.out.trans (hb1.mono HB.out.size)⟩
  subst hk
  by_cases hn0 : net < 0
  · have HT : Hid (ans = (0, false)) := by show _ = _; rw [HD1.out]; unfold netL; rw [if_neg fun z => absurd z.2.1 (by omega)]; rfl
    go_enter Tryz.func27, Tryz.ntmps27
    go_wp2_with fail
    rw [← hw0']
    clear hw0'
    refine HK1.out.mono ?_
    rintro e w1 ⟨rfl, hb1⟩
    go_wp2
    go_ret2
    rw [HT.out]
    exact ⟨rfl, HB.out.trans (hb1.mono HB.out.size)⟩
  by_cases hn1 : net ≥ (n : Int)
  · have HT : Hid (ans = (0, false)) := by show _ = _; rw [HD1.out]; unfold netL; rw [if_neg fun z => absurd z.2.2 (by rw [HL.out]; omega)]; rfl
    go_enter Tryz.func27, Tryz.ntmps27
    go_wp2_with fail
    rw [← hw0']
    clear hw0'
    refine HK1.out.mono ?_
    rintro e w1 ⟨rfl, hb1⟩
    obtain ⟨c0, c1, c2⟩ := celC (HC0.out.below hb1 HC0.out.lt)
    go_wp2
    go_ret2
    rw [HT.out]
    exact ⟨rfl, HB.out.trans (hb1.mono HB.out.size)⟩
  obtain ⟨ni, hni⟩ : ∃ ni : Nat, net = (ni : Int) := ⟨net.toNat, by omega⟩
  subst hni
  have hlt : ni < n := by omega
  obtain ⟨b, o, y, m, rfl, hbU, HA, hy, n0⟩ := atN HX.out hlt
  have HNL : Hid (netL 0 ns (ni : Int) = y.xs) := by
    show _ = _
    unfold netL
    rw [if_pos ⟨rfl, by omega, by rw [HL.out]; omega⟩, show ((ni : Int)).toNat = ni by omega, HA.out]
  rw [HNL.out] at HD1
  have HY0 := Lib.hid hy
  have hyc := hy.cap
  have hym := hy.max
  have HN0 : Hid (∀ W, Below w.heap.size w W → W.cell? ⟨b, o + ni, none⟩ = some (.slice y.A m y.c)) := fun W hW => (hW.cell (p := ⟨b, o + ni, none⟩) (Nat.lt_of_lt_of_le hbU HUU.out)).trans n0
  clear hy n0 HNL HA
  obtain ⟨yA, yc, xs⟩ := y
  have HY : Hid (RdSx U w yA m yc xs) := HY0
  have HN : Hid (∀ W, Below w.heap.size w W → W.cell? ⟨b, o + ni, none⟩ = some (.slice yA m yc)) := HN0
  have HD2 : Hid (ans = ansA (((xs).flatMap fun s => s.res).find? fun r => decide (r.key = key))) := HD1
  replace hyc : m ≤ yc := hyc
  replace hym : yc ≤ 9223372036854775807 := hym
  clear HY0 HN0 HD1
  go_enter Tryz.func27, Tryz.ntmps27
  go_wp2_with fail
  rw [← hw0']
  clear hw0'
  refine HK1.out.mono ?_
  rintro e w1 ⟨rfl, hb1⟩
  obtain ⟨c0, c1, c2⟩ := celC (HC0.out.below hb1 HC0.out.lt)
  have HBa := Lib.hid (HB.out.trans (hb1.mono HB.out.size))
  have n0 := HN.out w1 HBa.out
  clear hb1
  go_wp2_with fail
  clear c0 c1 c2 n0
  go_loopw [9] (fun v wr => ∃ i : Nat, v = .int .i64 i ∧ i ≤ m ∧ Hid (NoF (fun s => s.res) (fun r => decide (r.key = key)) xs i) ∧ Hid (Below w.heap.size w wr)) (fun v _ => m - (intOf v).toNat)
  case atStart => exact ⟨0, rfl, by omega, noF_zero _ _ _, HBa.out⟩
  case round =>
    obtain ⟨i, rfl, hi2, HE, HB2⟩ := hrel
    by_cases hlt : i < m
    · obtain ⟨b2, o2, s, pn, rn, rfl, hbU2, HD, hok, HPN, HRN, hsv⟩ := atS HY.out hlt
      have hiz : (i : Int) < (m : Int) := by omega
      have HSV := Lib.hid hsv
      have HROW := Lib.hid hok.r
      have hrc := hok.r.cap
      have hrm := hok.r.max
      obtain ⟨s0, s1, s2, s3, s4, s5, s6⟩ := hsv.below (HB2.out.mono HUU.out) hbU2
      clear hok hsv
      go_wp2_with fail
      clear s0 s1 s2 s3 s4 s5 s6
      go_loopw [10] (fun v wr => ∃ k : Nat, v = .int .i64 k ∧ k ≤ rn ∧ Hid (NoT (fun r => decide (r.key = key)) (s.res) k) ∧ Hid (Below w.heap.size w wr)) (fun v _ => rn - (intOf v).toNat)
      case atStart => exact ⟨0, rfl, by omega, noT_zero _ _, HB2.out⟩
      case round =>
        obtain ⟨k, rfl, hk2, HE2, HB3⟩ := hrel
        have HBV := Lib.hid HB3.out
        obtain ⟨s0, s1, s2, s3, s4, s5, s6⟩ := HSV.out.below (HB3.out.mono HUU.out) hbU2
        by_cases hlt2 : k < rn
        · obtain ⟨b4, o4, r, hrA, hbU4, HR, d0, d1⟩ := atR (HROW.out.below (HB3.out.mono HUU.out)) hlt2
          have hkz : (k : Int) < (rn : Int) := by omega
          rw [hrA] at s3
          clear hrA
          by_cases hv : r.key = key
          · have HT : Hid (ans = (r.addr, true)) := by
              show _ = _
              rw [HD2.out, flat_hit HD.out HR.out HE.out HE2.out (by simpa using hv)]
              rfl
            have hx := beqKey hv
            clear HE HD HE2 HR hv
            go_wp2
            go_ret2
            rw [HT.out]
            exact ⟨rfl, HBV.out⟩
          · have HT : Hid (NoT (fun r : Rs => decide (r.key = key)) s.res (k + 1)) := take_skip HR.out HE2.out (by simpa using hv)
            have hx := bneKey hv
            clear HE2 HR hv
            go_wp2
            go_roundw
            case rel => exact ⟨k + 1, by go_num, by omega, HT.out, HB3.out⟩
            case measure => simp [intOf]; omega
        · obtain rfl : k = rn := by omega
          have HT : Hid (NoF (fun s => s.res) (fun r => decide (r.key = key)) xs (i + 1)) := flat_next HD.out HE.out (noT_end HE2.out HRN.out)
          have hkz : ¬ (k : Int) < (k : Int) := by omega
          clear hlt2 HE2 HE HD
          go_wp2
          go_roundw
          case rel => exact ⟨i + 1, by go_num, by omega, HT.out, HB3.out⟩
          case measure => simp [intOf]; omega
    · obtain rfl : i = m := by omega
      have HT : Hid (ans = (0, false)) := by
        show _ = _
        rw [HD2.out]
        have hne := noF_end HE.out HY.out.len
        rw [find_miss hne]
        rfl
      have hiz : ¬ (i : Int) < (i : Int) := by omega
      clear hlt HE
      go_wp2
      go_ret2
      rw [HT.out]
      exact ⟨rfl, HB2.out⟩
set_option maxHeartbeats 16000000 in
theorem refPool_any (x : Cx) (net a : Int) (U : Nat) (w : World) (h : x.ok U w) (hU : U ≤ w.heap.size) (hS : Small x.cf) : Calls Tryz.prog 28 #[x.v, .int .i64 net, .int .i64 a] w (isB (inPoolC x.cf net a) w) := by
  obtain ⟨w0, hw0, hc0, hb0⟩ := boxedC w x
  have hz : w0.heap.size = w.heap.size + 1 := by rw [hw0]; simp
  have HK := Lib.hid (refCheck_any x U w0 (h.below (hb0.mono hU)) (by omega) hS)
  have HDOC := Lib.hid (pool_is x net a)
  generalize inPoolC x.cf net a = ans at HDOC ⊢
  generalize checkC x.cf = ck at HK HDOC
  obtain ⟨srv, prob, A, n, c, ns⟩ := x
  have HX : Hid (RdNx U w A n c ns) := h.rd
  have HL : Hid (ns.length = n) := h.rd.len
  have HUU := Lib.hid hU
  have hcp : n ≤ c := h.rd.cap
  have hmx : c ≤ 9223372036854775807 := h.rd.max
  have HB := Lib.hid hb0
  have HC0 : Hid (Cel w0 w.heap.size 24 #[.int .i64 srv, .int .i64 prob, .slice A n c]) := hc0
  show Calls _ _ #[.agg #[.int .i64 srv, .int .i64 prob, .slice A n c], .int .i64 net, .int .i64 a] w (isB ans w)
  have hw0' : w0 = w.alloc (.cells #[.int .i64 srv, .int .i64 prob, .slice A n c] 24) := hw0
  have HK1 : Hid (Calls Tryz.prog 32 #[.agg #[.int .i64 srv, .int .i64 prob, .slice A n c]] w0 (isI ck w0)) := HK
  have HD1 : Hid (ans = ((netL ck ns net).flatMap fun s => s.pools).any fun q => inPl q a) := HDOC
  clear h hU hS hc0 hb0 hw0 hz HK HDOC
  by_cases hk : ck = 0
  rotate_left
  · have HT : Hid (ans = false) := by show _ = _; rw [HD1.out]; unfold netL; rw [if_neg fun z => hk z.1]; rfl
    have hkz : (ck == 0) = false := by simpa using hk
    have hkn : (ck != 0) = true := by rw [bne, hkz]; rfl
    clear hk
    go_enter Tryz.func28, Tryz.ntmps28
    go_wp2_with fail
    rw [← hw0']
    clear hw0'
    refine HK1.out.mono ?_
    rintro e w1 ⟨rfl, hb1⟩
    go_wp2
    go_ret
    rw [HT.out]
    exact ⟨rfl, HB.out.trans (hb1.mono HB.out.size)⟩
  subst hk
  by_cases hn0 : net < 0
  · have HT : Hid (ans = false) := by show _ = _; rw [HD1.out]; unfold netL; rw [if_neg fun z => absurd z.2.1 (by omega)]; rfl
    go_enter Tryz.func28, Tryz.ntmps28
    go_wp2_with fail
    rw [← hw0']
    clear hw0'
    refine HK1.out.mono ?_
    rintro e w1 ⟨rfl, hb1⟩
    go_wp2
    go_ret
    rw [HT.out]
    exact ⟨rfl, HB.out.trans (hb1.mono HB.out.size)⟩
  by_cases hn1 : net ≥ (n : Int)
  · have HT : Hid (ans = false) := by show _ = _; rw [HD1.out]; unfold netL; rw [if_neg fun z => absurd z.2.2 (by rw [HL.out]; omega)]; rfl
    go_enter Tryz.func28, Tryz.ntmps28
    go_wp2_with fail
    rw [← hw0']
    clear hw0'
    refine HK1.out.mono ?_
    rintro e w1 ⟨rfl, hb1⟩
    obtain ⟨c0, c1, c2⟩ := celC (HC0.out.below hb1 HC0.out.lt)
    go_wp2
    go_ret
    rw [HT.out]
    exact ⟨rfl, HB.out.trans (hb1.mono HB.out.size)⟩
  obtain ⟨ni, hni⟩ : ∃ ni : Nat, net = (ni : Int) := ⟨net.toNat, by omega⟩
  subst hni
  have hlt : ni < n := by omega
  obtain ⟨b, o, y, m, rfl, hbU, HA, hy, n0⟩ := atN HX.out hlt
  have HNL : Hid (netL 0 ns (ni : Int) = y.xs) := by
    show _ = _
    unfold netL
    rw [if_pos ⟨rfl, by omega, by rw [HL.out]; omega⟩, show ((ni : Int)).toNat = ni by omega, HA.out]
  rw [HNL.out] at HD1
  have HY0 := Lib.hid hy
  have hyc := hy.cap
  have hym := hy.max
  have HN0 : Hid (∀ W, Below w.heap.size w W → W.cell? ⟨b, o + ni, none⟩ = some (.slice y.A m y.c)) := fun W hW => (hW.cell (p := ⟨b, o + ni, none⟩) (Nat.lt_of_lt_of_le hbU HUU.out)).trans n0
  clear hy n0 HNL HA
  obtain ⟨yA, yc, xs⟩ := y
  have HY : Hid (RdSx U w yA m yc xs) := HY0
  have HN : Hid (∀ W, Below w.heap.size w W → W.cell? ⟨b, o + ni, none⟩ = some (.slice yA m yc)) := HN0
  have HD2 : Hid (ans = ((xs).flatMap fun s => s.pools).any fun q => inPl q a) := HD1
  replace hyc : m ≤ yc := hyc
  replace hym : yc ≤ 9223372036854775807 := hym
  clear HY0 HN0 HD1
  go_enter Tryz.func28, Tryz.ntmps28
  go_wp2_with fail
  rw [← hw0']
  clear hw0'
  refine HK1.out.mono ?_
  rintro e w1 ⟨rfl, hb1⟩
  obtain ⟨c0, c1, c2⟩ := celC (HC0.out.below hb1 HC0.out.lt)
  have HBa := Lib.hid (HB.out.trans (hb1.mono HB.out.size))
  have n0 := HN.out w1 HBa.out
  clear hb1
  go_wp2_with fail
  clear c0 c1 c2 n0
  go_loopw [8] (fun v wr => ∃ i : Nat, v = .int .i64 i ∧ i ≤ m ∧ Hid (NoF (fun s => s.pools) (fun q => inPl q a) xs i) ∧ Hid (Below w.heap.size w wr)) (fun v _ => m - (intOf v).toNat)
  case atStart => exact ⟨0, rfl, by omega, noF_zero _ _ _, HBa.out⟩
  case round =>
    obtain ⟨i, rfl, hi2, HE, HB2⟩ := hrel
    by_cases hlt : i < m
    · obtain ⟨b2, o2, s, pn, rn, rfl, hbU2, HD, hok, HPN, HRN, hsv⟩ := atS HY.out hlt
      have hiz : (i : Int) < (m : Int) := by omega
      have HSV := Lib.hid hsv
      have HROW := Lib.hid hok.p
      have hrc := hok.p.cap
      have hrm := hok.p.max
      obtain ⟨s0, s1, s2, s3, s4, s5, s6⟩ := hsv.below (HB2.out.mono HUU.out) hbU2
      clear hok hsv
      go_wp2_with fail
      clear s0 s1 s2 s3 s4 s5 s6
      go_loopw [9] (fun v wr => ∃ k : Nat, v = .int .i64 k ∧ k ≤ pn ∧ Hid (NoT (fun q => inPl q a) (s.pools) k) ∧ Hid (Below w.heap.size w wr)) (fun v _ => pn - (intOf v).toNat)
      case atStart => exact ⟨0, rfl, by omega, noT_zero _ _, HB2.out⟩
      case round =>
        obtain ⟨k, rfl, hk2, HE2, HB3⟩ := hrel
        have HBV := Lib.hid HB3.out
        obtain ⟨s0, s1, s2, s3, s4, s5, s6⟩ := HSV.out.below (HB3.out.mono HUU.out) hbU2
        by_cases hlt2 : k < pn
        · obtain ⟨b4, o4, r, hrA, hbU4, HR, d0, d1⟩ := atP (HROW.out.below (HB3.out.mono HUU.out)) hlt2
          have hkz : (k : Int) < (pn : Int) := by omega
          rw [hrA] at s2
          clear hrA
          by_cases h1 : a ≥ r.first
          · by_cases h2 : a ≤ r.last
            · have HT : Hid (ans = true) := by
                show _ = _
                rw [HD2.out, List.any_eq_true]
                exact ⟨r, flat_mem HD.out HR.out, decide_eq_true ⟨h1, h2⟩⟩
              clear HE HD HE2 HR
              go_wp2
              go_ret
              rw [HT.out]
              exact ⟨rfl, HBV.out⟩
            · have HT : Hid (NoT (fun q : Pl => inPl q a) s.pools (k + 1)) := take_skip HR.out HE2.out (decide_eq_false fun z => h2 z.2)
              clear HE2 HR
              go_wp2
              go_roundw
              case rel => exact ⟨k + 1, by go_num, by omega, HT.out, HB3.out⟩
              case measure => simp [intOf]; omega
          · have HT : Hid (NoT (fun q : Pl => inPl q a) s.pools (k + 1)) := take_skip HR.out HE2.out (decide_eq_false fun z => h1 z.1)
            clear HE2 HR
            go_wp2
            go_roundw
            case rel => exact ⟨k + 1, by go_num, by omega, HT.out, HB3.out⟩
            case measure => simp [intOf]; omega
        · obtain rfl : k = pn := by omega
          have HT : Hid (NoF (fun s => s.pools) (fun q => inPl q a) xs (i + 1)) := flat_next HD.out HE.out (noT_end HE2.out HPN.out)
          have hkz : ¬ (k : Int) < (k : Int) := by omega
          clear hlt2 HE2 HE HD
          go_wp2
          go_roundw
          case rel => exact ⟨i + 1, by go_num, by omega, HT.out, HB3.out⟩
          case measure => simp [intOf]; omega
    · obtain rfl : i = m := by omega
      have HT : Hid (ans = false) := by
        show _ = _
        rw [HD2.out]
        have hne := noF_end HE.out HY.out.len
        exact List.any_eq_false.2 fun r hr => by rw [show inPl r a = false from hne r hr]; decide
      have hiz : ¬ (i : Int) < (i : Int) := by omega
      clear hlt HE
      go_wp2
      go_ret
      rw [HT.out]
      exact ⟨rfl, HB2.out⟩
set_option maxHeartbeats 16000000 in
theorem refKeeper_any (x : Cx) (a : Int) (U : Nat) (w : World) (h : x.ok U w) (hU : U ≤ w.heap.size) (hS : Small x.cf) : Calls Tryz.prog 13 #[x.v, .int .i64 a] w (KeR (keeperC x.cf a) w) := by
  obtain ⟨w0, hw0, hc0, hb0⟩ := boxedC w x
  have hz : w0.heap.size = w.heap.size + 1 := by rw [hw0]; simp
  have HK := Lib.hid (refCheck_any x U w0 (h.below (hb0.mono hU)) (by omega) hS)
  have HDOC := Lib.hid (keeper_is x a)
  generalize keeperC x.cf a = ans at HDOC ⊢
  have HFL := Lib.hid (fun w1 (b1 : Below w0.heap.size w0 w1) => refFlat_any x U w1 ((h.below (hb0.mono hU)).below (b1.mono (by omega))) (by have := b1.size; omega) (small_n h hS) (small_sns hS))
  have HB := Lib.hid hb0
  have HC0 := Lib.hid hc0
  clear h hU hS hc0 hb0 hz
  by_cases hk : checkC x.cf = 0
  rotate_left
  · have HT : Hid (ans = ([], false)) := by show _ = _; rw [HDOC.out, if_neg hk]; rfl
    have hkz : (checkC x.cf == 0) = false := by simpa using hk
    have hkn : (checkC x.cf != 0) = true := by rw [bne, hkz]; rfl
    clear hk
    go_enter Tryz.func13, Tryz.ntmps13
    go_wp2_with fail
    rw [← hw0]
    clear hw0
    refine HK.out.mono ?_
    rintro e w1 ⟨rfl, hb1⟩
    go_wp2
    go_ret2
    rw [HT.out]
    exact ⟨rfl, HB.out.trans (hb1.mono HB.out.size)⟩
  rw [if_pos hk] at HDOC
  rw [hk] at HK
  generalize pxF 0 x.ns = ps at HFL HDOC
  have HD2 : Hid (ans = ansK (((ps.map Px.x).flatMap fun s => s.res).find? fun r => decide (r.addr = a))) := HDOC
  clear hk HDOC
  go_enter Tryz.func13, Tryz.ntmps13
  go_wp2_with fail
  rw [← hw0]
  clear hw0
  refine HK.out.mono ?_
  rintro e w1 ⟨rfl, hb1⟩
  obtain ⟨c0, c1, c2⟩ := cel3C (HC0.out.below hb1 HC0.out.lt)
  have HBa := Lib.hid (HB.out.trans (hb1.mono HB.out.size))
  have HF1 := Lib.hid (HFL.out w1 hb1)
  clear hb1
  go_wp2_with fail
  refine HF1.out.mono ?_
  rintro e w2 ⟨A1, d1, A2, d2, N, rfl, hr1, _, hb2⟩
  generalize ps.map Px.x = sx at hr1 HD2
  have HS := Lib.hid hr1
  have hl1 := hr1.len
  have hc1 := hr1.cap
  have hm1 := hr1.max
  have HB1 := Lib.hid (HBa.out.trans (hb2.mono HBa.out.size))
  clear hr1 hb2 c0 c1 c2
  go_wp2_with fail
  go_loopw [8] (fun v wr => ∃ i : Nat, v = .int .i64 i ∧ i ≤ N ∧ Hid (NoF (fun s => s.res) (fun r => decide (r.addr = a)) sx i) ∧ Hid (Below w2.heap.size w2 wr)) (fun v _ => N - (intOf v).toNat)
  case atStart => exact ⟨0, rfl, by omega, noF_zero _ _ _, Below.refl _ _⟩
  case round =>
    obtain ⟨i, rfl, hi2, HE, HB2⟩ := hrel
    by_cases hlt : i < N
    · obtain ⟨b2, o2, s, pn, rn, rfl, hbU2, HD, hok, HPN, HRN, hsv⟩ := atS HS.out hlt
      have hiz : (i : Int) < (N : Int) := by omega
      have HSV := Lib.hid hsv
      have HROW := Lib.hid hok.r
      have hrc := hok.r.cap
      have hrm := hok.r.max
      obtain ⟨s0, s1, s2, s3, s4, s5, s6⟩ := hsv.below HB2.out hbU2
      clear hok hsv
      go_wp2_with fail
      clear s0 s1 s2 s3 s4 s5 s6
      go_loopw [9] (fun v wr => ∃ k : Nat, v = .int .i64 k ∧ k ≤ rn ∧ Hid (NoT (fun r => decide (r.addr = a)) (s.res) k) ∧ Hid (Below w2.heap.size w2 wr)) (fun v _ => rn - (intOf v).toNat)
      case atStart => exact ⟨0, rfl, by omega, noT_zero _ _, HB2.out⟩
      case round =>
        obtain ⟨k, rfl, hk2, HE2, HB3⟩ := hrel
        have HBV := Lib.hid (HB1.out.trans (HB3.out.mono HB1.out.size))
        obtain ⟨s0, s1, s2, s3, s4, s5, s6⟩ := HSV.out.below HB3.out hbU2
        by_cases hlt2 : k < rn
        · obtain ⟨b4, o4, r, hrA, hbU4, HR, d0, d1⟩ := atR (HROW.out.below HB3.out) hlt2
          have hkz : (k : Int) < (rn : Int) := by omega
          rw [hrA] at s3
          clear hrA
          by_cases hv : r.addr = a
          · have HT : Hid (ans = (r.key, true)) := by
              show _ = _
              rw [HD2.out, flat_hit HD.out HR.out HE.out HE2.out (by simpa using hv)]
              rfl
            have hx : (r.addr == a) = true := by simpa using hv
            clear HE HD HE2 HR hv
            go_wp2
            go_ret2
            rw [HT.out]
            exact ⟨rfl, HBV.out⟩
          · have HT : Hid (NoT (fun r : Rs => decide (r.addr = a)) s.res (k + 1)) := take_skip HR.out HE2.out (by simpa using hv)
            have hx : (r.addr == a) = false := by simpa using hv
            clear HE2 HR hv
            go_wp2
            go_roundw
            case rel => exact ⟨k + 1, by go_num, by omega, HT.out, HB3.out⟩
            case measure => simp [intOf]; omega
        · obtain rfl : k = rn := by omega
          have HT : Hid (NoF (fun s => s.res) (fun r => decide (r.addr = a)) sx (i + 1)) := flat_next HD.out HE.out (noT_end HE2.out HRN.out)
          have hkz : ¬ (k : Int) < (k : Int) := by omega
          clear hlt2 HE2 HE HD
          go_wp2
          go_roundw
          case rel => exact ⟨i + 1, by go_num, by omega, HT.out, HB3.out⟩
          case measure => simp [intOf]; omega
    · obtain rfl : i = N := by omega
      have HT : Hid (ans = ([], false)) := by
        show _ = _
        rw [HD2.out]
        have hne := noF_end HE.out hl1
        rw [find_miss hne]
        rfl
      have hiz : ¬ (i : Int) < (i : Int) := by omega
      clear hlt HE
      go_wp2
      go_ret2
      rw [HT.out]
      exact ⟨rfl, HB1.out.trans (HB2.out.mono HB1.out.size)⟩
end Go.Proofs.YtpdjdaoclpeffaaGreat.Vw
end
