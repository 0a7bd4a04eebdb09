/- What the document's own KeptFor, Keeper and InPool come to. Condition: the configuration is small (boarderlaw13's Great is false). -/
import Derived.Test.YtoilljilndmmfaaVwRf6
set_option maxRecDepth 8000
namespace Go.Proofs.Ytoilljilndmmfaa.Vw
open Go.RowKit By Cf Ad Ky
open Dw (ba ba_size ba_data ba_list alloc_more)

section
variable {α β : Type} {g : α → List β} {q : β → Bool} {l : List α} {s : α} {r : β} {i k : Nat}
theorem flat_at (hl : l[i]? = some s) : l.flatMap g = (l.take i).flatMap g ++ (g s ++ (l.drop (i + 1)).flatMap g) := by
  have e : l = l.take i ++ (s :: l.drop (i + 1)) := by
    obtain ⟨hk, rfl⟩ := List.getElem?_eq_some_iff.1 hl
    rw [← List.drop_eq_getElem_cons hk, List.take_append_drop]
  rw [← List.flatMap_cons, ← List.flatMap_append, ← e]
theorem flat_hit (hl : l[i]? = some s) (hr : (g s)[k]? = some r) (h1 : ∀ r ∈ (l.take i).flatMap g, q r = false) (h2 : ∀ r ∈ (g s).take k, q r = false) (hq : q r = true) : (l.flatMap g).find? q = some r := by
  rw [flat_at hl, List.find?_append, find_miss h1, Option.none_or, List.find?_append, find_hit hr h2 hq]
  rfl
theorem flat_next (hl : l[i]? = some s) (h1 : ∀ r ∈ (l.take i).flatMap g, q r = false) (h2 : ∀ r ∈ g s, q r = false) : ∀ r ∈ (l.take (i + 1)).flatMap g, q r = false := by
  intro r hr
  rw [take_at hl, List.flatMap_append] at hr
  rcases List.mem_append.1 hr with hr | hr
  · exact h1 r hr
  · simp at hr
    exact h2 r hr
theorem flat_mem (hl : l[i]? = some s) (hr : (g s)[k]? = some r) : r ∈ l.flatMap g := List.mem_flatMap.2 ⟨s, List.mem_of_getElem? hl, List.mem_of_getElem? hr⟩
theorem any_flat (q : β → Bool) : ∀ l : List α, (l.any fun s => (g s).any q) = (l.flatMap g).any q
  | [] => rfl
  | a :: l => by rw [List.any_cons, List.flatMap_cons, List.any_append, any_flat q l]
end
/-- Nothing that is wanted hangs on the first i of a list; nothing is among the first k. -/
def NoF {α β : Type} (g : α → List β) (q : β → Bool) (l : List α) (i : Nat) : Prop := ∀ r ∈ (l.take i).flatMap g, q r = false
def NoT {β : Type} (q : β → Bool) (l : List β) (k : Nat) : Prop := ∀ r ∈ l.take k, q r = false
theorem noF_zero {α β : Type} (g : α → List β) (q : β → Bool) (l : List α) : NoF g q l 0 := fun r hr => by simp at hr
theorem noT_zero {β : Type} (q : β → Bool) (l : List β) : NoT q l 0 := fun r hr => by simp at hr
theorem noF_end {α β : Type} {g : α → List β} {q : β → Bool} {l : List α} {n : Nat} (h : NoF g q l n) (hn : l.length = n) : ∀ r ∈ l.flatMap g, q r = false := by
  unfold NoF at h
  rw [← hn, List.take_length] at h
  exact h
theorem noT_end {β : Type} {q : β → Bool} {l : List β} {n : Nat} (h : NoT q l n) (hn : l.length = n) : ∀ r ∈ l, q r = false := by
  unfold NoT at h
  rw [← hn, List.take_length] at h
  exact h
theorem res_flat (xs : List Sx) : ((snsOf xs).flatMap fun s => s.res) = xs.flatMap fun s => s.res := by
  unfold snsOf
  rw [List.flatMap_map]
  rfl
theorem pools_flat (xs : List Sx) : ((snsOf xs).flatMap fun s => s.pools) = xs.flatMap fun s => s.pools := by
  unfold snsOf
  rw [List.flatMap_map]
  rfl
theorem kx_flat : ∀ ps : List Px, (kxF ps).map Kx.r = (ps.map Px.x).flatMap fun s => s.res
  | [] => rfl
  | p :: ps => by
    have ih := kx_flat ps
    unfold kxF at ih ⊢
    rw [List.flatMap_cons, List.map_append, ih, List.map_cons, List.flatMap_cons]
    congr 1
    unfold kxP1
    rw [List.map_map]
    exact List.map_id' _
/-- The network with an index. -/
def netL (ck : Int) (ns : List Nx) (net : Int) : List Sx := if ck = 0 ∧ 0 ≤ net ∧ net < ns.length then (match ns[net.toNat]? with | some y => y.xs | none => []) else []
theorem netC_is (x : Cx) (net : Int) : netC x.cf net = snsOf (netL (checkC x.cf) x.ns net) := by
  unfold netC netL
  rw [show x.cf.nets = netsOf x.ns from rfl, nets_len]
  split
  · next hh =>
    rw [List.getD_eq_getElem?_getD]
    cases hy : x.ns[net.toNat]? with
    | none =>
      have := List.getElem?_eq_none_iff.1 hy
      omega
    | some y => rw [nets_get hy]; rfl
  · rfl
theorem kept_is (x : Cx) (net : Int) (key : List UInt8) : keptC x.cf net key = ansA (((netL (checkC x.cf) x.ns net).flatMap fun s => s.res).find? fun r => decide (r.key = key)) := by
  unfold keptC keptN
  rw [netC_is, res_flat]
theorem pool_is (x : Cx) (net a : Int) : inPoolC x.cf net a = ((netL (checkC x.cf) x.ns net).flatMap fun s => s.pools).any fun q => inPl q a := by
  unfold inPoolC pooledN
  rw [netC_is, any_flat, pools_flat]
theorem keeper_is (x : Cx) (a : Int) : keeperC x.cf a = ansK (if checkC x.cf = 0 then ((((pxF 0 x.ns).map Px.x).flatMap fun s => s.res).find? fun r => decide (r.addr = a)) else none) := by
  rw [← keeper_doc]
  unfold knownX
  by_cases h : checkC x.cf = 0
  · rw [if_pos h, if_pos h, ← kx_flat, List.find?_map]
    rfl
  · rw [if_neg h, if_neg h]
    rfl
set_option maxHeartbeats 16000000 in
theorem refKept_any (x : Cx) (net : Int) (key : List UInt8) (U : Nat) (w : World) (h : x.ok U w) (hU : U ≤ w.heap.size) (hS : Small x.cf) : Calls Try.prog 17 #[x.v, .int .i64 net, .string (ba key)] w (AdR (keptC x.cf net key) w) := by
  obtain ⟨w0, hw0, hc0, hb0⟩ := boxedC w x
  have hz : w0.heap.size = w.heap.size + 1 := by rw [hw0]; simp
  have HK := Lib.hid (refCheck_any x U w0 (h.below (hb0.mono hU)) (by omega) hS)
  have HDOC := Lib.hid (kept_is x net key)
  generalize keptC x.cf net key = ans at HDOC ⊢
  generalize checkC x.cf = ck at HK HDOC
  obtain ⟨srv, prob, A, n, c, ns⟩ := x
  have HX : Hid (RdNx U w A n c ns) := h.rd
  have HL : Hid (ns.length = n) := h.rd.len
  have HUU := Lib.hid hU
  have hcp : n ≤ c := h.rd.cap
  have hmx : c ≤ 9223372036854775807 := h.rd.max
  have HB := Lib.hid hb0
  have HC0 : Hid (Cel w0 w.heap.size 24 #[.int .i64 srv, .int .i64 prob, .slice A n c]) := hc0
  show Calls _ _ #[.agg #[.int .i64 srv, .int .i64 prob, .slice A n c], .int .i64 net, .string (ba key)] w (AdR ans w)
  have hw0' : w0 = w.alloc (.cells #[.int .i64 srv, .int .i64 prob, .slice A n c] 24) := hw0
  have HK1 : Hid (Calls Try.prog 11 #[.agg #[.int .i64 srv, .int .i64 prob, .slice A n c]] w0 (isI ck w0)) := HK
  have HD1 : Hid (ans = ansA (((netL ck ns net).flatMap fun s => s.res).find? fun r => decide (r.key = key))) := HDOC
  clear h hU hS hc0 hb0 hw0 hz HK HDOC
  by_cases hk : ck = 0
  rotate_left
  · have HT : Hid (ans = (0, false)) := by show _ = _; rw [HD1.out]; unfold netL; rw [if_neg fun z => hk z.1]; rfl
    have hkz : (ck == 0) = false := by simpa using hk
    have hkn : (ck != 0) = true := by rw [bne, hkz]; rfl
    clear hk
    go_enter Try.func17, Try.ntmps17
    go_wp2_with fail
    rw [← hw0']
    clear hw0'
    refine HK1.out.mono ?_
    rintro e w1 ⟨rfl, hb1⟩
    go_wp2
    go_ret2
    rw [HT.out]
    exact ⟨rfl, HB.out.trans (hb1.mono HB.out.size)⟩
  subst hk
  by_cases hn0 : net < 0
  · have HT : Hid (ans = (0, false)) := by show _ = _; rw [HD1.out]; unfold netL; rw [if_neg fun z => absurd z.2.1 (by omega)]; rfl
    go_enter Try.func17, Try.ntmps17
    go_wp2_with fail
    rw [← hw0']
    clear hw0'
    refine HK1.out.mono ?_
    rintro e w1 ⟨rfl, hb1⟩
    go_wp2
    go_ret2
    rw [HT.out]
    exact ⟨rfl, HB.out.trans (hb1.mono HB.out.size)⟩
  by_cases hn1 : net ≥ (n : Int)
  · have HT : Hid (ans = (0, false)) := by show _ = _; rw [HD1.out]; unfold netL; rw [if_neg fun z => absurd z.2.2 (by rw [HL.out]; omega)]; rfl
    go_enter Try.func17, Try.ntmps17
    go_wp2_with fail
    rw [← hw0']
    clear hw0'
    refine HK1.out.mono ?_
    rintro e w1 ⟨rfl, hb1⟩
    obtain ⟨c0, c1, c2⟩ := celC (HC0.out.below hb1 HC0.out.lt)
    go_wp2
    go_ret2
    rw [HT.out]
    exact ⟨rfl, HB.out.trans (hb1.mono HB.out.size)⟩
  obtain ⟨ni, hni⟩ : ∃ ni : Nat, net = (ni : Int) := ⟨net.toNat, by omega⟩
  subst hni
  have hlt : ni < n := by omega
  obtain ⟨b, o, y, m, rfl, hbU, HA, hy, n0⟩ := atN HX.out hlt
  have HNL : Hid (netL 0 ns (ni : Int) = y.xs) := by
    show _ = _
    unfold netL
    rw [if_pos ⟨rfl, by omega, by rw [HL.out]; omega⟩, show ((ni : Int)).toNat = ni by omega, HA.out]
  rw [HNL.out] at HD1
  have HY0 := Lib.hid hy
  have hyc := hy.cap
  have hym := hy.max
  have HN0 : Hid (∀ W, Below w.heap.size w W → W.cell? ⟨b, o + ni, none⟩ = some (.slice y.A m y.c)) := fun W hW => (hW.cell (p := ⟨b, o + ni, none⟩) (Nat.lt_of_lt_of_le hbU HUU.out)).trans n0
  clear hy n0 HNL HA
  obtain ⟨yA, yc, xs⟩ := y
  have HY : Hid (RdSx U w yA m yc xs) := HY0
  have HN : Hid (∀ W, Below w.heap.size w W → W.cell? ⟨b, o + ni, none⟩ = some (.slice yA m yc)) := HN0
  have HD2 : Hid (ans = ansA (((xs).flatMap fun s => s.res).find? fun r => decide (r.key = key))) := HD1
  replace hyc : m ≤ yc := hyc
  replace hym : yc ≤ 9223372036854775807 := hym
  clear HY0 HN0 HD1
  go_enter Try.func17, Try.ntmps17
  go_wp2_with fail
  rw [← hw0']
  clear hw0'
  refine HK1.out.mono ?_
  rintro e w1 ⟨rfl, hb1⟩
  obtain ⟨c0, c1, c2⟩ := celC (HC0.out.below hb1 HC0.out.lt)
  have HBa := Lib.hid (HB.out.trans (hb1.mono HB.out.size))
  have n0 := HN.out w1 HBa.out
  clear hb1
  go_wp2_with fail
  clear c0 c1 c2 n0
  go_loopw [9] (fun v wr => ∃ i : Nat, v = .int .i64 i ∧ i ≤ m ∧ Hid (NoF (fun s => s.res) (fun r => decide (r.key = key)) xs i) ∧ Hid (Below w.heap.size w wr)) (fun v _ => m - (intOf v).toNat)
  case atStart => exact ⟨0, rfl, by omega, noF_zero _ _ _, HBa.out⟩
  case round =>
    obtain ⟨i, rfl, hi2, HE, HB2⟩ := hrel
    by_cases hlt : i < m
    · obtain ⟨b2, o2, s, pn, rn, rfl, hbU2, HD, hok, HPN, HRN, hsv⟩ := atS HY.out hlt
      have hiz : (i : Int) < (m : Int) := by omega
      have HSV := Lib.hid hsv
      have HROW := Lib.hid hok.r
      have hrc := hok.r.cap
      have hrm := hok.r.max
      obtain ⟨s0, s1, s2, s3, s4, s5, s6⟩ := hsv.below (HB2.out.mono HUU.out) hbU2
      clear hok hsv
      go_wp2_with fail
      clear s0 s1 s2 s3 s4 s5 s6
      go_loopw [10] (fun v wr => ∃ k : Nat, v = .int .i64 k ∧ k ≤ rn ∧ Hid (NoT (fun r => decide (r.key = key)) (s.res) k) ∧ Hid (Below w.heap.size w wr)) (fun v _ => rn - (intOf v).toNat)
      case atStart => exact ⟨0, rfl, by omega, noT_zero _ _, HB2.out⟩
      case round =>
        obtain ⟨k, rfl, hk2, HE2, HB3⟩ := hrel
        have HBV := Lib.hid HB3.out
        obtain ⟨s0, s1, s2, s3, s4, s5, s6⟩ := HSV.out.below (HB3.out.mono HUU.out) hbU2
        by_cases hlt2 : k < rn
        · obtain ⟨b4, o4, r, hrA, hbU4, HR, d0, d1⟩ := atR (HROW.out.below (HB3.out.mono HUU.out)) hlt2
          have hkz : (k : Int) < (rn : Int) := by omega
          rw [hrA] at s3
          clear hrA
          by_cases hv : r.key = key
          · have HT : Hid (ans = (r.addr, true)) := by
              show _ = _
              rw [HD2.out, flat_hit HD.out HR.out HE.out HE2.out (by simpa using hv)]
              rfl
            have hx := beqKey hv
            clear HE HD HE2 HR hv
            go_wp2
            go_ret2
            rw [HT.out]
            exact ⟨rfl, HBV.out⟩
          · have HT : Hid (NoT (fun r : Rs => decide (r.key = key)) s.res (k + 1)) := take_skip HR.out HE2.out (by simpa using hv)
            have hx := bneKey hv
            clear HE2 HR hv
            go_wp2
            go_roundw
            case rel => exact ⟨k + 1, by go_num, by omega, HT.out, HB3.out⟩
            case measure => simp [intOf]; omega
        · obtain rfl : k = rn := by omega
          have HT : Hid (NoF (fun s => s.res) (fun r => decide (r.key = key)) xs (i + 1)) := flat_next HD.out HE.out (noT_end HE2.out HRN.out)
          have hkz : ¬ (k : Int) < (k : Int) := by omega
          clear hlt2 HE2 HE HD
          go_wp2
          go_roundw
          case rel => exact ⟨i + 1, by go_num, by omega, HT.out, HB3.out⟩
          case measure => simp [intOf]; omega
    · obtain rfl : i = m := by omega
      have HT : Hid (ans = (0, false)) := by
        show _ = _
        rw [HD2.out]
        have hne := noF_end HE.out HY.out.len
        rw [find_miss hne]
        rfl
      have hiz : ¬ (i : Int) < (i : Int) := by omega
      clear hlt HE
      go_wp2
      go_ret2
      rw [HT.out]
      exact ⟨rfl, HB2.out⟩
set_option maxHeartbeats 16000000 in
theorem refPool_any (x : Cx) (net a : Int) (U : Nat) (w : World) (h : x.ok U w) (hU : U ≤ w.heap.size) (hS : Small x.cf) : Calls Try.prog 21 #[x.v, .int .i64 net, .int .i64 a] w (isB (inPoolC x.cf net a) w) := by
  obtain ⟨w0, hw0, hc0, hb0⟩ := boxedC w x
  have hz : w0.heap.size = w.heap.size + 1 := by rw [hw0]; simp
  have HK := Lib.hid (refCheck_any x U w0 (h.below (hb0.mono hU)) (by omega) hS)
  have HDOC := Lib.hid (pool_is x net a)
  generalize inPoolC x.cf net a = ans at HDOC ⊢
  generalize checkC x.cf = ck at HK HDOC
  obtain ⟨srv, prob, A, n, c, ns⟩ := x
  have HX : Hid (RdNx U w A n c ns) := h.rd
  have HL : Hid (ns.length = n) := h.rd.len
  have HUU := Lib.hid hU
  have hcp : n ≤ c := h.rd.cap
  have hmx : c ≤ 9223372036854775807 := h.rd.max
  have HB := Lib.hid hb0
  have HC0 : Hid (Cel w0 w.heap.size 24 #[.int .i64 srv, .int .i64 prob, .slice A n c]) := hc0
  show Calls _ _ #[.agg #[.int .i64 srv, .int .i64 prob, .slice A n c], .int .i64 net, .int .i64 a] w (isB ans w)
  have hw0' : w0 = w.alloc (.cells #[.int .i64 srv, .int .i64 prob, .slice A n c] 24) := hw0
  have HK1 : Hid (Calls Try.prog 11 #[.agg #[.int .i64 srv, .int .i64 prob, .slice A n c]] w0 (isI ck w0)) := HK
  have HD1 : Hid (ans = ((netL ck ns net).flatMap fun s => s.pools).any fun q => inPl q a) := HDOC
  clear h hU hS hc0 hb0 hw0 hz HK HDOC
  by_cases hk : ck = 0
  rotate_left
  · have HT : Hid (ans = false) := by show _ = _; rw [HD1.out]; unfold netL; rw [if_neg fun z => hk z.1]; rfl
    have hkz : (ck == 0) = false := by simpa using hk
    have hkn : (ck != 0) = true := by rw [bne, hkz]; rfl
    clear hk
    go_enter Try.func21, Try.ntmps21
    go_wp2_with fail
    rw [← hw0']
    clear hw0'
    refine HK1.out.mono ?_
    rintro e w1 ⟨rfl, hb1⟩
    go_wp2
    go_ret
    rw [HT.out]
    exact ⟨rfl, HB.out.trans (hb1.mono HB.out.size)⟩
  subst hk
  by_cases hn0 : net < 0
  · have HT : Hid (ans = false) := by show _ = _; rw [HD1.out]; unfold netL; rw [if_neg fun z => absurd z.2.1 (by omega)]; rfl
    go_enter Try.func21, Try.ntmps21
    go_wp2_with fail
    rw [← hw0']
    clear hw0'
    refine HK1.out.mono ?_
    rintro e w1 ⟨rfl, hb1⟩
    go_wp2
    go_ret
    rw [HT.out]
    exact ⟨rfl, HB.out.trans (hb1.mono HB.out.size)⟩
  by_cases hn1 : net ≥ (n : Int)
  · have HT : Hid (ans = false) := by show _ = _; rw [HD1.out]; unfold netL; rw [if_neg fun z => absurd z.2.2 (by rw [HL.out]; omega)]; rfl
    go_enter Try.func21, Try.ntmps21
    go_wp2_with fail
    rw [← hw0']
    clear hw0'
    refine HK1.out.mono ?_
    rintro e w1 ⟨rfl, hb1⟩
    obtain ⟨c0, c1, c2⟩ := celC (HC0.out.below hb1 HC0.out.lt)
    go_wp2
    go_ret
    rw [HT.out]
    exact ⟨rfl, HB.out.trans (hb1.mono HB.out.size)⟩
  obtain ⟨ni, hni⟩ : ∃ ni : Nat, net = (ni : Int) := ⟨net.toNat, by omega⟩
  subst hni
  have hlt : ni < n := by omega
  obtain ⟨b, o, y, m, rfl, hbU, HA, hy, n0⟩ := atN HX.out hlt
  have HNL : Hid (netL 0 ns (ni : Int) = y.xs) := by
    show _ = _
    unfold netL
    rw [if_pos ⟨rfl, by omega, by rw [HL.out]; omega⟩, show ((ni : Int)).toNat = ni by omega, HA.out]
  rw [HNL.out] at HD1
  have HY0 := Lib.hid hy
  have hyc := hy.cap
  have hym := hy.max
  have HN0 : Hid (∀ W, Below w.heap.size w W → W.cell? ⟨b, o + ni, none⟩ = some (.slice y.A m y.c)) := fun W hW => (hW.cell (p := ⟨b, o + ni, none⟩) (Nat.lt_of_lt_of_le hbU HUU.out)).trans n0
  clear hy n0 HNL HA
  obtain ⟨yA, yc, xs⟩ := y
  have HY : Hid (RdSx U w yA m yc xs) := HY0
  have HN : Hid (∀ W, Below w.heap.size w W → W.cell? ⟨b, o + ni, none⟩ = some (.slice yA m yc)) := HN0
  have HD2 : Hid (ans = ((xs).flatMap fun s => s.pools).any fun q => inPl q a) := HD1
  replace hyc : m ≤ yc := hyc
  replace hym : yc ≤ 9223372036854775807 := hym
  clear HY0 HN0 HD1
  go_enter Try.func21, Try.ntmps21
  go_wp2_with fail
  rw [← hw0']
  clear hw0'
  refine HK1.out.mono ?_
  rintro e w1 ⟨rfl, hb1⟩
  obtain ⟨c0, c1, c2⟩ := celC (HC0.out.below hb1 HC0.out.lt)
  have HBa := Lib.hid (HB.out.trans (hb1.mono HB.out.size))
  have n0 := HN.out w1 HBa.out
  clear hb1
  go_wp2_with fail
  clear c0 c1 c2 n0
  go_loopw [8] (fun v wr => ∃ i : Nat, v = .int .i64 i ∧ i ≤ m ∧ Hid (NoF (fun s => s.pools) (fun q => inPl q a) xs i) ∧ Hid (Below w.heap.size w wr)) (fun v _ => m - (intOf v).toNat)
  case atStart => exact ⟨0, rfl, by omega, noF_zero _ _ _, HBa.out⟩
  case round =>
    obtain ⟨i, rfl, hi2, HE, HB2⟩ := hrel
    by_cases hlt : i < m
    · obtain ⟨b2, o2, s, pn, rn, rfl, hbU2, HD, hok, HPN, HRN, hsv⟩ := atS HY.out hlt
      have hiz : (i : Int) < (m : Int) := by omega
      have HSV := Lib.hid hsv
      have HROW := Lib.hid hok.p
      have hrc := hok.p.cap
      have hrm := hok.p.max
      obtain ⟨s0, s1, s2, s3, s4, s5, s6⟩ := hsv.below (HB2.out.mono HUU.out) hbU2
      clear hok hsv
      go_wp2_with fail
      clear s0 s1 s2 s3 s4 s5 s6
      go_loopw [9] (fun v wr => ∃ k : Nat, v = .int .i64 k ∧ k ≤ pn ∧ Hid (NoT (fun q => inPl q a) (s.pools) k) ∧ Hid (Below w.heap.size w wr)) (fun v _ => pn - (intOf v).toNat)
      case atStart => exact ⟨0, rfl, by omega, noT_zero _ _, HB2.out⟩
      case round =>
        obtain ⟨k, rfl, hk2, HE2, HB3⟩ := hrel
        have HBV := Lib.hid HB3.out
        obtain ⟨s0, s1, s2, s3, s4, s5, s6⟩ := HSV.out.below (HB3.out.mono HUU.out) hbU2
        by_cases hlt2 : k < pn
        · obtain ⟨b4, o4, r, hrA, hbU4, HR, d0, d1⟩ := atP (HROW.out.below (HB3.out.mono HUU.out)) hlt2
          have hkz : (k : Int) < (pn : Int) := by omega
          rw [hrA] at s2
          clear hrA
          by_cases h1 : a ≥ r.first
          · by_cases h2 : a ≤ r.last
            · have HT : Hid (ans = true) := by
                show _ = _
                rw [HD2.out, List.any_eq_true]
                exact ⟨r, flat_mem HD.out HR.out, decide_eq_true ⟨h1, h2⟩⟩
              clear HE HD HE2 HR
              go_wp2
              go_ret
              rw [HT.out]
              exact ⟨rfl, HBV.out⟩
            · have HT : Hid (NoT (fun q : Pl => inPl q a) s.pools (k + 1)) := take_skip HR.out HE2.out (decide_eq_false fun z => h2 z.2)
              clear HE2 HR
              go_wp2
              go_roundw
              case rel => exact ⟨k + 1, by go_num, by omega, HT.out, HB3.out⟩
              case measure => simp [intOf]; omega
          · have HT : Hid (NoT (fun q : Pl => inPl q a) s.pools (k + 1)) := take_skip HR.out HE2.out (decide_eq_false fun z => h1 z.1)
            clear HE2 HR
            go_wp2
            go_roundw
            case rel => exact ⟨k + 1, by go_num, by omega, HT.out, HB3.out⟩
            case measure => simp [intOf]; omega
        · obtain rfl : k = pn := by omega
          have HT : Hid (NoF (fun s => s.pools) (fun q => inPl q a) xs (i + 1)) := flat_next HD.out HE.out (noT_end HE2.out HPN.out)
          have hkz : ¬ (k : Int) < (k : Int) := by omega
          clear hlt2 HE2 HE HD
          go_wp2
          go_roundw
          case rel => exact ⟨i + 1, by go_num, by omega, HT.out, HB3.out⟩
          case measure => simp [intOf]; omega
    · obtain rfl : i = m := by omega
      have HT : Hid (ans = false) := by
        show _ = _
        rw [HD2.out]
        have hne := noF_end HE.out HY.out.len
        exact List.any_eq_false.2 fun r hr => by rw [show inPl r a = false from hne r hr]; decide
      have hiz : ¬ (i : Int) < (i : Int) := by omega
      clear hlt HE
      go_wp2
      go_ret
      rw [HT.out]
      exact ⟨rfl, HB2.out⟩
set_option maxHeartbeats 16000000 in
theorem refKeeper_any (x : Cx) (a : Int) (U : Nat) (w : World) (h : x.ok U w) (hU : U ≤ w.heap.size) (hS : Small x.cf) : Calls Try.prog 19 #[x.v, .int .i64 a] w (KeR (keeperC x.cf a) w) := by
  obtain ⟨w0, hw0, hc0, hb0⟩ := boxedC w x
  have hz : w0.heap.size = w.heap.size + 1 := by rw [hw0]; simp
  have HK := Lib.hid (refCheck_any x U w0 (h.below (hb0.mono hU)) (by omega) hS)
  have HDOC := Lib.hid (keeper_is x a)
  generalize keeperC x.cf a = ans at HDOC ⊢
  have HFL := Lib.hid (fun w1 (b1 : Below w0.heap.size w0 w1) => refFlat_any x U w1 ((h.below (hb0.mono hU)).below (b1.mono (by omega))) (by have := b1.size; omega) (small_n h hS) (small_sns hS))
  have HB := Lib.hid hb0
  have HC0 := Lib.hid hc0
  clear h hU hS hc0 hb0 hz
  by_cases hk : checkC x.cf = 0
  rotate_left
  · have HT : Hid (ans = ([], false)) := by show _ = _; rw [HDOC.out, if_neg hk]; rfl
    have hkz : (checkC x.cf == 0) = false := by simpa using hk
    have hkn : (checkC x.cf != 0) = true := by rw [bne, hkz]; rfl
    clear hk
    go_enter Try.func19, Try.ntmps19
    go_wp2_with fail
    rw [← hw0]
    clear hw0
    refine HK.out.mono ?_
    rintro e w1 ⟨rfl, hb1⟩
    go_wp2
    go_ret2
    rw [HT.out]
    exact ⟨rfl, HB.out.trans (hb1.mono HB.out.size)⟩
  rw [if_pos hk] at HDOC
  rw [hk] at HK
  generalize pxF 0 x.ns = ps at HFL HDOC
  have HD2 : Hid (ans = ansK (((ps.map Px.x).flatMap fun s => s.res).find? fun r => decide (r.addr = a))) := HDOC
  clear hk HDOC
  go_enter Try.func19, Try.ntmps19
  go_wp2_with fail
  rw [← hw0]
  clear hw0
  refine HK.out.mono ?_
  rintro e w1 ⟨rfl, hb1⟩
  obtain ⟨c0, c1, c2⟩ := cel3C (HC0.out.below hb1 HC0.out.lt)
  have HBa := Lib.hid (HB.out.trans (hb1.mono HB.out.size))
  have HF1 := Lib.hid (HFL.out w1 hb1)
  clear hb1
  go_wp2_with fail
  refine HF1.out.mono ?_
  rintro e w2 ⟨A1, d1, A2, d2, N, rfl, hr1, _, hb2⟩
  generalize ps.map Px.x = sx at hr1 HD2
  have HS := Lib.hid hr1
  have hl1 := hr1.len
  have hc1 := hr1.cap
  have hm1 := hr1.max
  have HB1 := Lib.hid (HBa.out.trans (hb2.mono HBa.out.size))
  clear hr1 hb2 c0 c1 c2
  go_wp2_with fail
  go_loopw [8] (fun v wr => ∃ i : Nat, v = .int .i64 i ∧ i ≤ N ∧ Hid (NoF (fun s => s.res) (fun r => decide (r.addr = a)) sx i) ∧ Hid (Below w2.heap.size w2 wr)) (fun v _ => N - (intOf v).toNat)
  case atStart => exact ⟨0, rfl, by omega, noF_zero _ _ _, Below.refl _ _⟩
  case round =>
    obtain ⟨i, rfl, hi2, HE, HB2⟩ := hrel
    by_cases hlt : i < N
    · obtain ⟨b2, o2, s, pn, rn, rfl, hbU2, HD, hok, HPN, HRN, hsv⟩ := atS HS.out hlt
      have hiz : (i : Int) < (N : Int) := by omega
      have HSV := Lib.hid hsv
      have HROW := Lib.hid hok.r
      have hrc := hok.r.cap
      have hrm := hok.r.max
      obtain ⟨s0, s1, s2, s3, s4, s5, s6⟩ := hsv.below HB2.out hbU2
      clear hok hsv
      go_wp2_with fail
      clear s0 s1 s2 s3 s4 s5 s6
      go_loopw [9] (fun v wr => ∃ k : Nat, v = .int .i64 k ∧ k ≤ rn ∧ Hid (NoT (fun r => decide (r.addr = a)) (s.res) k) ∧ Hid (Below w2.heap.size w2 wr)) (fun v _ => rn - (intOf v).toNat)
      case atStart => exact ⟨0, rfl, by omega, noT_zero _ _, HB2.out⟩
      case round =>
        obtain ⟨k, rfl, hk2, HE2, HB3⟩ := hrel
        have HBV := Lib.hid (HB1.out.trans (HB3.out.mono HB1.out.size))
        obtain ⟨s0, s1, s2, s3, s4, s5, s6⟩ := HSV.out.below HB3.out hbU2
        by_cases hlt2 : k < rn
        · obtain ⟨b4, o4, r, hrA, hbU4, HR, d0, d1⟩ := atR (HROW.out.below HB3.out) hlt2
          have hkz : (k : Int) < (rn : Int) := by omega
          rw [hrA] at s3
          clear hrA
          by_cases hv : r.addr = a
          · have HT : Hid (ans = (r.key, true)) := by
              show _ = _
              rw [HD2.out, flat_hit HD.out HR.out HE.out HE2.out (by simpa using hv)]
              rfl
            have hx : (r.addr == a) = true := by simpa using hv
            clear HE HD HE2 HR hv
            go_wp2
            go_ret2
            rw [HT.out]
            exact ⟨rfl, HBV.out⟩
          · have HT : Hid (NoT (fun r : Rs => decide (r.addr = a)) s.res (k + 1)) := take_skip HR.out HE2.out (by simpa using hv)
            have hx : (r.addr == a) = false := by simpa using hv
            clear HE2 HR hv
            go_wp2
            go_roundw
            case rel => exact ⟨k + 1, by go_num, by omega, HT.out, HB3.out⟩
            case measure => simp [intOf]; omega
        · obtain rfl : k = rn := by omega
          have HT : Hid (NoF (fun s => s.res) (fun r => decide (r.addr = a)) sx (i + 1)) := flat_next HD.out HE.out (noT_end HE2.out HRN.out)
          have hkz : ¬ (k : Int) < (k : Int) := by omega
          clear hlt2 HE2 HE HD
          go_wp2
          go_roundw
          case rel => exact ⟨i + 1, by go_num, by omega, HT.out, HB3.out⟩
          case measure => simp [intOf]; omega
    · obtain rfl : i = N := by omega
      have HT : Hid (ans = ([], false)) := by
        show _ = _
        rw [HD2.out]
        have hne := noF_end HE.out hl1
        rw [find_miss hne]
        rfl
      have hiz : ¬ (i : Int) < (i : Int) := by omega
      clear hlt HE
      go_wp2
      go_ret2
      rw [HT.out]
      exact ⟨rfl, HB1.out.trans (HB2.out.mono HB1.out.size)⟩
end Go.Proofs.Ytoilljilndmmfaa.Vw
