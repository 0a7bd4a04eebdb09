/- What conf's subnetsOf and reservationsOf come to: all subnets with their places, all reservations with their networks. Conditions: at most ten networks of ten subnets each, at most twenty reservations in each of a hundred subnets. -/
import Derived.Test.YtoilljilndmmfaaVwAny
set_option maxRecDepth 8000
namespace Go.Proofs.Ytoilljilndmmfaa.Vw
open Go.RowKit By Cf Ad Ky
open Dw (ba ba_size ba_data ba_list alloc_more)

/-! ### All subnets of networks, with their places -/
def pxN (i : Nat) (xs : List Sx) : List Px := xs.mapIdx fun j x => ⟨x, i, j⟩
def pxF : Nat → List Nx → List Px
  | _, [] => []
  | i, y :: r => pxN i y.xs ++ pxF (i + 1) r
theorem pxN_snoc (i : Nat) (xs : List Sx) (x : Sx) : pxN i (xs ++ [x]) = pxN i xs ++ [⟨x, i, xs.length⟩] := by unfold pxN; rw [List.mapIdx_append]; simp
theorem pxF_snoc : ∀ (i : Nat) (l : List Nx) (y : Nx), pxF i (l ++ [y]) = pxF i l ++ pxN (i + l.length) y.xs
  | i, [], y => by simp [pxF]
  | i, x :: l, y => by
    rw [List.cons_append, pxF, pxF_snoc, pxF, List.append_assoc, List.length_cons]
    rw [show i + 1 + l.length = i + (l.length + 1) by omega]
theorem pxN_ns (i : Nat) (xs : List Sx) : (pxN i xs).map Px.ns = (snsOf xs).map fun s => (i, s) := by
  unfold pxN snsOf
  rw [List.map_map]
  apply List.ext_getElem?
  intro k
  simp only [List.getElem?_map, List.getElem?_mapIdx]
  cases xs[k]? <;> rfl
theorem pxF_ns : ∀ (i : Nat) (l : List Nx), (pxF i l).map Px.ns = flatN i (netsOf l)
  | _, [] => rfl
  | i, y :: l => by
    rw [pxF, List.map_append, pxN_ns, pxF_ns]
    rfl
theorem mem_pxF : ∀ {l : List Nx} {i : Nat} {p : Px}, p ∈ pxF i l → ∃ y ∈ l, p.x ∈ y.xs
  | y :: l, i, p, h => by
    rw [pxF] at h
    rcases List.mem_append.1 h with h | h
    · unfold pxN at h
      obtain ⟨j, hj, e⟩ := List.mem_iff_getElem.1 h
      rw [List.getElem_mapIdx] at e
      exact ⟨y, List.mem_cons_self .., by rw [← e]; exact List.getElem_mem _⟩
    · obtain ⟨z, hz, hp⟩ := mem_pxF h
      exact ⟨z, List.mem_cons_of_mem _ hz, hp⟩
theorem pxF_len : ∀ (l : List Nx) (i : Nat), (∀ y ∈ l, y.xs.length ≤ 10) → (pxF i l).length ≤ 10 * l.length
  | [], _, _ => by simp [pxF]
  | y :: l, i, h => by
    have h1 := pxF_len l (i + 1) fun z hz => h z (List.mem_cons_of_mem _ hz)
    have h2 := h y (List.mem_cons_self ..)
    rw [pxF, List.length_append, List.length_cons]
    unfold pxN
    rw [List.length_mapIdx]
    omega
/-- A literal of one subnet with its place. -/
theorem litX (w : World) (p : Px) {pn rn : Nat} (hp : p.x.pools.length = pn) (hr : p.x.res.length = rn) : RdG layX (w.heap.size + 1) (w.alloc (.cells (p.cs pn rn) 55)) (some ⟨w.heap.size, 0, none⟩) 1 1 [p] := by
  subst hp hr
  have := (OwnG.lit (Y := layX) 55 w [p] (by simp)).rd
  have e : (w.alloc (.cells (layX.cells [p]).toArray 55)).heap.size = w.heap.size + 1 := by simp
  rw [e, layX.cells_one] at this
  exact this
/-- What is answered: a slice that reads as these subnets. -/
def PlR (w : World) (ps : List Px) (e : Ending) (w' : World) : Prop := ∃ A n c, e = .returned (.slice A n c) ∧ RdPx w'.heap.size w' A n c ps ∧ Below w.heap.size w w'
set_option maxHeartbeats 4000000 in
theorem subnets_any (x : Cx) (U : Nat) (w : World) (h : x.ok U w) (hU : U ≤ w.heap.size) (hn : x.n ≤ 10) (hs : ∀ y ∈ x.ns, y.xs.length ≤ 10) :
    Calls Try.prog 23 #[x.v] w (PlR w (pxF 0 x.ns)) := by
  obtain ⟨srv, prob, A, n, c, ns⟩ := x
  have HX : Hid (RdNx U w A n c ns) := h.rd
  have HL : Hid (ns.length = n) := h.rd.len
  have HS := Lib.hid hs
  have HUU := Lib.hid hU
  have hcp : n ≤ c := h.rd.cap
  have hmx : c ≤ 9223372036854775807 := h.rd.max
  replace hn : n ≤ 10 := hn
  show Calls _ _ #[.agg #[.int .i64 srv, .int .i64 prob, .slice A n c]] w (PlR w (pxF 0 ns))
  simp only at HS
  clear h hs hU
  go_enter Try.func23, Try.ntmps23
  go_wp2
  go_loopw [3, 11] (fun v i wr => ∃ (k : Nat) (A2 : Option Addr) (c2 : Nat) (ps : List Px), k ≤ n ∧ ps.length ≤ 10 * k ∧ i = .int .i64 k ∧ v = .slice A2 ps.length c2 ∧ Hid (OwnG layX 55 w.heap.size wr A2 ps.length c2 ps) ∧ Hid (ps = pxF 0 (ns.take k)) ∧ Hid (Below w.heap.size w wr)) (fun _ i _ => n - (intOf i).toNat)
  case atStart => exact ⟨0, none, 0, [], by omega, Nat.le_refl _, rfl, rfl, OwnG.nil _ _ _, rfl, alloc_more _ _⟩
  case round =>
    obtain ⟨k, A2, c2, ps, hk, hkl, rfl, rfl, HO, HE, HB⟩ := hrel
    by_cases hlt : k < n
    · obtain ⟨b, o, y, m, rfl, hbU, HA, hy, c0⟩ := atN (HX.out.below (HB.out.mono HUU.out)) hlt
      have hkz : (k : Int) < (n : Int) := by omega
      have hm10 : m ≤ 10 := by have := HS.out y (List.mem_of_getElem? HA.out); have := hy.len; omega
      obtain ⟨w1, hw1⟩ : ∃ w1, w1 = wr.alloc (.cells #[.slice y.A m y.c] 41) := ⟨_, rfl⟩
      have hb1 : Below wr.heap.size wr w1 := by rw [hw1]; exact alloc_more _ _
      have HO1 := Lib.hid (HO.out.below hb1)
      have HB1 := Lib.hid (HB.out.trans (hb1.mono HB.out.size))
      have HY0 := Lib.hid (hok0 HX.out HA.out hy)
      have HYL0 := Lib.hid hy.len
      have hycp := hy.cap
      have hymx := hy.max
      clear hb1 hy HO
      obtain ⟨yA, yc, xs⟩ := y
      have HY : Hid (RdSx U w yA m yc xs) := HY0
      have HYL : Hid (xs.length = m) := HYL0
      replace hycp : m ≤ yc := hycp
      replace hymx : yc ≤ 9223372036854775807 := hymx
      simp only at hw1 c0
      clear HY0 HYL0
      go_wp2_with fail
      rw [← hw1]
      clear hw1
      go_loopw [3, 19] (fun v i wr => ∃ (j : Nat) (A3 : Option Addr) (c3 : Nat) (qs : List Px), j ≤ m ∧ qs.length ≤ 10 * k + j ∧ i = .int .i64 j ∧ v = .slice A3 qs.length c3 ∧ Hid (OwnG layX 55 w.heap.size wr A3 qs.length c3 qs) ∧ Hid (qs = ps ++ pxN k (xs.take j)) ∧ Hid (Below w.heap.size w wr)) (fun _ i _ => m - (intOf i).toNat)
      case atStart => exact ⟨0, A2, c2, ps, by omega, by omega, rfl, rfl, HO1.out, by simp [pxN, Hid], HB1.out⟩
      case round =>
        obtain ⟨j, A3, c3, qs, hj, hjl, rfl, rfl, HO2, HF, HB2⟩ := hrel
        by_cases hlt2 : j < m
        · have HBU := Lib.hid (HB2.out.mono HUU.out)
          obtain ⟨b2, o2, x, pn, rn, rfl, hbU2, HD, hok, HP, HR, d0, d1, d2, d3, d4, d5, d6⟩ := atS (HY.out.below HBU.out) hlt2
          have hjz : (j : Int) < (m : Int) := by omega
          obtain ⟨w2, hw2⟩ : ∃ w2, w2 = wr.alloc (.cells (x.cs pn rn) 45) := ⟨_, rfl⟩
          have hb2 : Below wr.heap.size wr w2 := by rw [hw2]; exact alloc_more _ _
          have HC2 := Lib.hid (show Cel w2 wr.heap.size 45 (x.cs pn rn) by rw [hw2]; exact Cel.born _ _ _)
          have HB3 := Lib.hid (HB2.out.trans (hb2.mono HB2.out.size))
          have hba : Below w2.heap.size w2 (w2.alloc (.cells (Px.cs ⟨x, k, j⟩ pn rn) 55)) := alloc_more _ _
          have hown := (HO2.out.below hb2).below hba
          have hlit := litX w2 ⟨x, k, j⟩ HP.out HR.out
          have hsz := HB3.out.size
          have HT : Hid (qs ++ [⟨x, k, j⟩] = ps ++ pxN k (xs.take (j + 1))) := by
            show _ = _
            rw [HF.out, take_at HD.out, pxN_snoc, List.append_assoc, List.length_take, Nat.min_eq_left (by rw [HYL.out]; omega)]
          clear hb2 hok HP HR HD
          go_upto_region 8 with fail
          rw [← hw2]
          clear hw2
          obtain ⟨z0, z1, z2, z3, z4, z5, z6⟩ := cel7 HC2.out
          go_wp2_with (at_builtin; refine wpList_appG plxP (by decide) (by decide) (by kernel_rfl) ?_ (.tmp 24) (.tmp 29) ?_ ?_ hown ?_ hlit (by omega) (by simp; omega) ?_; rfl; rfl; rfl; rfl; intro A5 c5 w5 happ)
          go_roundw
          case rel =>
            refine ⟨j + 1, A5, c5, qs ++ [⟨x, k, j⟩], by omega, by rw [List.length_append]; simp; omega, by go_num, by rw [List.length_append]; rfl, ?_, HT, (HB3.out.trans (hba.mono hsz)).trans happ.2.1⟩
            rw [List.length_append]
            exact happ.1
          case measure => simp [intOf]; omega
        · obtain rfl : j = m := by omega
          have HT : Hid (qs = pxF 0 (ns.take (k + 1))) := by
            show _ = _
            rw [HF.out, take_at HA.out, pxF_snoc, List.length_take, Nat.min_eq_left (by rw [HL.out]; omega), Nat.zero_add, ← HE.out, ← HYL.out, List.take_length]
          have hjz : ¬ (j : Int) < (j : Int) := by omega
          clear hlt2 HE HA HF
          go_wp2
          go_roundw
          case rel => exact ⟨k + 1, A3, c3, qs, by omega, by omega, by go_num, rfl, HO2.out, HT.out, HB2.out⟩
          case measure => simp [intOf]; omega
    · obtain rfl : k = n := by omega
      have HT : Hid (ps = pxF 0 ns) := by rw [← HL.out] at HE; rw [List.take_length] at HE; exact HE
      have hkz : ¬ (k : Int) < (k : Int) := by omega
      clear hlt HE
      go_wp2
      go_ret
      refine ⟨A2, ps.length, c2, rfl, ?_, HB.out⟩
      rw [← HT.out]
      refine ⟨HO.out.rd, fun p hp => ?_⟩
      obtain ⟨y, hy, hp⟩ := mem_pxF (HT.out ▸ hp)
      exact (((HX.out.below (HB.out.mono HUU.out)).2 y hy).2 _ hp).mono (Nat.le_trans HUU.out HB.out.size)

/-! ### All reservations of subnets, with their networks -/
def kxP1 (p : Px) (l : List Rs) : List Kx := l.map fun r => ⟨r, p.net⟩
def kxF (ps : List Px) : List Kx := ps.flatMap fun p => kxP1 p p.x.res
theorem kxF_snoc (l : List Px) (p : Px) : kxF (l ++ [p]) = kxF l ++ kxP1 p p.x.res := by unfold kxF; rw [List.flatMap_append]; simp
theorem kxP_snoc (p : Px) (l : List Rs) (r : Rs) : kxP1 p (l ++ [r]) = kxP1 p l ++ [⟨r, p.net⟩] := by unfold kxP1; rw [List.map_append]; rfl
theorem kxF_nr : ∀ ps : List Px, (kxF ps).map Kx.nr = resA (ps.map Px.ns)
  | [] => rfl
  | p :: ps => by
    have ih := kxF_nr ps
    unfold kxF resA at ih ⊢
    rw [List.flatMap_cons, List.map_append, ih, List.map_cons, List.flatMap_cons]
    congr 1
    unfold kxP1 resN
    rw [List.map_map]
    rfl
/-- A literal of one reservation with its network. -/
theorem litK (w : World) (k : Kx) : RdG layK (w.heap.size + 1) (w.alloc (.cells k.cs 62)) (some ⟨w.heap.size, 0, none⟩) 1 1 [k] := by
  have := (OwnG.lit (Y := layK) 62 w [k] (by simp)).rd
  have e : (w.alloc (.cells (layK.cells [k]).toArray 62)).heap.size = w.heap.size + 1 := by simp
  rw [e, layK.cells_one] at this
  exact this
def KlR (w : World) (ks : List Kx) (e : Ending) (w' : World) : Prop := ∃ A n c, e = .returned (.slice A n c) ∧ RdKx w'.heap.size w' A n c ks ∧ Below w.heap.size w w'
set_option maxHeartbeats 4000000 in
theorem reserves_any (A : Option Addr) (n c U : Nat) (ps : List Px) (w : World) (h : RdPx U w A n c ps) (hU : U ≤ w.heap.size) (hn : n ≤ 100) (hs : ∀ p ∈ ps, p.x.res.length ≤ 20) :
    Calls Try.prog 64 #[.slice A n c] w (KlR w (kxF ps)) := by
  have HX := Lib.hid h
  have HL := Lib.hid h.len
  have HS := Lib.hid hs
  have HUU := Lib.hid hU
  have hcp := h.cap
  have hmx := h.max
  clear h hs hU
  go_enter Try.func64, Try.ntmps64
  go_wp2
  go_loopw [3, 10] (fun v i wr => ∃ (k : Nat) (A2 : Option Addr) (c2 : Nat) (ks : List Kx), k ≤ n ∧ ks.length ≤ 20 * k ∧ i = .int .i64 k ∧ v = .slice A2 ks.length c2 ∧ Hid (OwnG layK 62 w.heap.size wr A2 ks.length c2 ks) ∧ Hid (ks = kxF (ps.take k)) ∧ Hid (Below w.heap.size w wr)) (fun _ i _ => n - (intOf i).toNat)
  case atStart => exact ⟨0, none, 0, [], by omega, Nat.le_refl _, rfl, rfl, OwnG.nil _ _ _, rfl, Below.refl _ _⟩
  case round =>
    obtain ⟨k, A2, c2, ks, hk, hkl, rfl, rfl, HO, HE, HB⟩ := hrel
    by_cases hlt : k < n
    · have HBU := Lib.hid (HB.out.mono HUU.out)
      obtain ⟨b, o, p, pn, rn, rfl, hbU, HA, hok, HP, HR, t0, t1, t2, t3, t4, t5, t6, t7, t8⟩ := atX (HX.out.below HBU.out) hlt
      have hkz : (k : Int) < (n : Int) := by omega
      have hm20 : rn ≤ 20 := by have := HS.out p (List.mem_of_getElem? HA.out); have := HR.out; omega
      obtain ⟨w1, hw1⟩ : ∃ w1, w1 = wr.alloc (.cells (p.cs pn rn) 55) := ⟨_, rfl⟩
      have hb1 : Below wr.heap.size wr w1 := by rw [hw1]; exact alloc_more _ _
      have hc1 : Cel w1 wr.heap.size 55 (p.cs pn rn) := by rw [hw1]; exact Cel.born _ _ _
      have HC1 := Lib.hid hc1
      have HO1 := Lib.hid (HO.out.below hb1)
      have HB1 := Lib.hid (HB.out.trans (hb1.mono HB.out.size))
      have HY := Lib.hid ((HX.out.2 p (List.mem_of_getElem? HA.out)).r)
      rw [HR.out] at HY
      have hycp := HY.out.cap
      have hymx := HY.out.max
      have HLT : Hid (wr.heap.size < w1.heap.size) := hc1.lt
      clear hb1 HO hok hc1
      go_upto_region 5 with fail
      rw [← hw1]
      clear hw1
      obtain ⟨q0, q1, q2, q3, q4, q5, q6, q7, q8⟩ := cel9 HC1.out
      go_wp2_with fail
      generalize wr.heap.size = gg at HC1 HLT ⊢
      clear q0 q1 q2 q3 q4 q5 q6 q7 q8
      go_loopw [3, 18] (fun v i wr => ∃ (j : Nat) (A3 : Option Addr) (c3 : Nat) (qs : List Kx), j ≤ rn ∧ qs.length ≤ 20 * k + j ∧ i = .int .i64 j ∧ v = .slice A3 qs.length c3 ∧ Hid (OwnG layK 62 w.heap.size wr A3 qs.length c3 qs) ∧ Hid (qs = ks ++ kxP1 p (p.x.res.take j)) ∧ Hid (Cel wr gg 55 (p.cs pn rn)) ∧ Hid (Below w.heap.size w wr)) (fun _ i _ => rn - (intOf i).toNat)
      case atStart => exact ⟨0, A2, c2, ks, by omega, by omega, rfl, rfl, HO1.out, by simp [kxP1, Hid], HC1.out, HB1.out⟩
      case round =>
        obtain ⟨j, A3, c3, qs, hj, hjl, rfl, rfl, HO2, HF, HCg, HB2⟩ := hrel
        by_cases hlt2 : j < rn
        · have HBU2 := Lib.hid (HB2.out.mono HUU.out)
          obtain ⟨b2, o2, r, hA2, hbU2, HD, d0, d1⟩ := atR (HY.out.below HBU2.out) hlt2
          have hjz : (j : Int) < (rn : Int) := by omega
          obtain ⟨w2, hw2⟩ : ∃ w2, w2 = wr.alloc (.cells #[.string (ba r.key), .int .i64 r.addr] 47) := ⟨_, rfl⟩
          have hb2 : Below wr.heap.size wr w2 := by rw [hw2]; exact alloc_more _ _
          have HC2 := Lib.hid (show Cel w2 wr.heap.size 47 #[.string (ba r.key), .int .i64 r.addr] by rw [hw2]; exact Cel.born _ _ _)
          have HCg2 := Lib.hid (HCg.out.below hb2 HCg.out.lt)
          have HB3 := Lib.hid (HB2.out.trans (hb2.mono HB2.out.size))
          have hba : Below w2.heap.size w2 (w2.alloc (.cells (Kx.cs ⟨r, p.net⟩) 62)) := alloc_more _ _
          have hown := (HO2.out.below hb2).below hba
          have hlit := litK w2 ⟨r, p.net⟩
          have hsz := HB3.out.size
          have HT : Hid (qs ++ [⟨r, p.net⟩] = ks ++ kxP1 p (p.x.res.take (j + 1))) := by
            show _ = _
            rw [HF.out, take_at HD.out, kxP_snoc, List.append_assoc]
          clear hb2 HD
          rw [hA2]
          go_upto_region 8 with fail
          rw [← hw2]
          clear hw2
          obtain ⟨q0, q1, q2, q3, q4, q5, q6, q7, q8⟩ := cel9 HCg2.out
          obtain ⟨z0, z1⟩ : w2.cell? ⟨wr.heap.size, 0, none⟩ = some (.string (ba r.key)) ∧ w2.cell? ⟨wr.heap.size, 1, none⟩ = some (.int .i64 r.addr) := ⟨by rw [HC2.out.cell]; rfl, by rw [HC2.out.cell]; rfl⟩
          go_wp2_with (at_builtin; refine wpList_appG kxP (by decide) (by decide) (by kernel_rfl) ?_ (.tmp 22) (.tmp 27) ?_ ?_ hown ?_ hlit (by omega) (by simp; omega) ?_; rfl; rfl; rfl; rfl; intro A5 c5 w5 happ)
          go_roundw
          case rel =>
            refine ⟨j + 1, A5, c5, qs ++ [⟨r, p.net⟩], by omega, by rw [List.length_append]; simp; omega, by go_num, by rw [List.length_append]; rfl, ?_, HT, ?_, (HB3.out.trans (hba.mono hsz)).trans happ.2.1⟩
            · rw [List.length_append]
              exact happ.1
            · have hcg3 := HCg2.out.below hba HCg2.out.lt
              exact hcg3.grown happ.2.2.1 (hcg3.not_row hown.1 (by decide))
          case measure => simp [intOf]; omega
        · obtain rfl : j = rn := by omega
          have HT : Hid (qs = kxF (ps.take (k + 1))) := by
            show _ = _
            rw [HF.out, take_at HA.out, kxF_snoc, ← HE.out, ← HR.out, List.take_length]
          have hjz : ¬ (j : Int) < (j : Int) := by omega
          clear hlt2 HE HA HF
          go_wp2
          go_roundw
          case rel => exact ⟨k + 1, A3, c3, qs, by omega, by omega, by go_num, rfl, HO2.out, HT.out, HB2.out⟩
          case measure => simp [intOf]; omega
    · obtain rfl : k = n := by omega
      have HT : Hid (ks = kxF ps) := by rw [← HL.out] at HE; rw [List.take_length] at HE; exact HE
      have hkz : ¬ (k : Int) < (k : Int) := by omega
      clear hlt HE
      go_wp2
      go_ret
      refine ⟨A2, ks.length, c2, rfl, ?_, HB.out⟩
      rw [← HT.out]
      exact HO.out.rd
end Go.Proofs.Ytoilljilndmmfaa.Vw
