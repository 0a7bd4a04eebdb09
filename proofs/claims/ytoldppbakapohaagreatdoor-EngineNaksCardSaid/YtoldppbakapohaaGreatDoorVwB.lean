/- What conf's subnetsOf and reservationsOf come to: all subnets with their places, all reservations with their networks. Conditions: at most ten networks of ten subnets each, at most twenty reservations in each of a hundred subnets. -/
import Derived.Test.YtoldppbakapohaaGreatDoorVwA
import Derived.Test.YtoldppbakapohaaGreatDoorMathA
section
set_option maxRecDepth 8000
namespace Go.Proofs.YtoldppbakapohaaGreatDoor.Vw
open Go.RowKit By Cf Ad Ky
open Dw (ba ba_size ba_data ba_list alloc_more)

/-! ### All subnets of networks, with their places -/
def pxN (i : Nat) (xs : List Sx) : List Px := xs.mapIdx fun j x => ⟨x, i, j⟩
def pxF : Nat → List Nx → List Px
  | _, [] => []
  | i, y :: r => pxN i y.xs ++ pxF (i + 1) r
theorem pxN_snoc (i : Nat) (xs : List Sx) (x : Sx) : pxN i (xs ++ [x]) = pxN i xs ++ [⟨x, i, xs.length⟩] := by unfold pxN; rw [List.mapIdx_append]; simp
theorem pxF_snoc : ∀ (i : Nat) (l : List Nx) (y : Nx), pxF i (l ++ [y]) = pxF i l ++ pxN (i + l.length) y.xs
  | i, [], y => by simp [pxF]
  | i, x :: l, y => by
    rw [List.cons_append, pxF, pxF_snoc, pxF, List.append_assoc, List.length_cons]
    rw [show i + 1 + l.length = i + (l.length + 1) by omega]
theorem pxN_ns (i : Nat) (xs : List Sx) : (pxN i xs).map Px.ns = (snsOf xs).map fun s => (i, s) := by
  unfold pxN snsOf
  rw [List.map_map]
  apply List.ext_getElem?
  intro k
  simp only [List.getElem?_map, List.getElem?_mapIdx]
  cases xs[k]? <;> rfl
theorem pxF_ns : ∀ (i : Nat) (l : List Nx), (pxF i l).map Px.ns = flatN i (netsOf l)
  | _, [] => rfl
  | i, y :: l => by
    rw [pxF, List.map_append, pxN_ns, pxF_ns]
    rfl
theorem mem_pxF : ∀ {l : List Nx} {i : Nat} {p : Px}, p ∈ pxF i l → ∃ y ∈ l, p.x ∈ y.xs
  | y :: l, i, p, h => by
    rw [pxF] at h
    rcases List.mem_append.1 h with h | h
    · unfold pxN at h
      obtain ⟨j, hj, e⟩ := List.mem_iff_getElem.1 h
      rw [List.getElem_mapIdx] at e
      exact ⟨y, List.mem_cons_self .., by rw [← e]; exact List.getElem_mem _⟩
    · obtain ⟨z, hz, hp⟩ := mem_pxF h
      exact ⟨z, List.mem_cons_of_mem _ hz, hp⟩
theorem pxF_len : ∀ (l : List Nx) (i : Nat), (∀ y ∈ l, y.xs.length ≤ 10) → (pxF i l).length ≤ 10 * l.length
  | [], _, _ => by simp [pxF]
  | y :: l, i, h => by
    have h1 := pxF_len l (i + 1) fun z hz => h z (List.mem_cons_of_mem _ hz)
    have h2 := h y (List.mem_cons_self ..)
    rw [pxF, List.length_append, List.length_cons]
    unfold pxN
    rw [List.length_mapIdx]
    omega
/-- A literal of one subnet with its place. -/
theorem litX (w : World) (p : Px) {pn rn : Nat} (hp : p.x.pools.length = pn) (hr : p.x.res.length = rn) : RdG layX (w.heap.size + 1) (w.alloc (.cells (p.cs pn rn) 162)) (some ⟨w.heap.size, 0, none⟩) 1 1 [p] := by
  subst hp hr
  have := (OwnG.lit (Y := layX) 162 w [p] (by simp)).rd
  have e : (w.alloc (.cells (layX.cells [p]).toArray 162)).heap.size = w.heap.size + 1 := by simp
  rw [e, layX.cells_one] at this
  exact this
/-- What is answered: a slice that reads as these subnets. -/
def PlR (w : World) (ps : List Px) (e : Ending) (w' : World) : Prop := ∃ A n c, e = .returned (.slice A n c) ∧ RdPx w'.heap.size w' A n c ps ∧ Below w.heap.size w w'
set_option maxHeartbeats 4000000 in
theorem subnets_any (x : Cx) (U : Nat) (w : World) (h : x.ok U w) (hU : U ≤ w.heap.size) (hn : x.n ≤ 10) (hs : ∀ y ∈ x.ns, y.xs.length ≤ 10) :
    Calls Tryz.prog 123 #[x.v] w (PlR w (pxF 0 x.ns)) := by
  obtain ⟨srv, prob, A, n, c, ns⟩ := x
  have HX : Hid (RdNx U w A n c ns) := h.rd
  have HL : Hid (ns.length = n) := h.rd.len
  have HS := Lib.hid hs
  have HUU := Lib.hid hU
  have hcp : n ≤ c := h.rd.cap
  have hmx : c ≤ 9223372036854775807 := h.rd.max
  replace hn : n ≤ 10 := hn
  show Calls _ _ #[.agg #[.int .i64 srv, .int .i64 prob, .slice A n c]] w (PlR w (pxF 0 ns))
  simp only at HS
  clear h hs hU
  go_enter Tryz.func123, Tryz.ntmps123
  go_wp2
  go_loopw [3, 11] (fun v i wr => ∃ (k : Nat) (A2 : Option Addr) (c2 : Nat) (ps : List Px), k ≤ n ∧ ps.length ≤ 10 * k ∧ i = .int .i64 k ∧ v = .slice A2 ps.length c2 ∧ Hid (OwnG layX 162 w.heap.size wr A2 ps.length c2 ps) ∧ Hid (ps = pxF 0 (ns.take k)) ∧ Hid (Below w.heap.size w wr)) (fun _ i _ => n - (intOf i).toNat)
  case atStart => exact ⟨0, none, 0, [], by omega, Nat.le_refl _, rfl, rfl, OwnG.nil _ _ _, rfl, alloc_more _ _⟩
  case round =>
    obtain ⟨k, A2, c2, ps, hk, hkl, rfl, rfl, HO, HE, HB⟩ := hrel
    by_cases hlt : k < n
    · obtain ⟨b, o, y, m, rfl, hbU, HA, hy, c0⟩ := atN (HX.out.below (HB.out.mono HUU.out)) hlt
      have hkz : (k : Int) < (n : Int) := by omega
      have hm10 : m ≤ 10 := by have := HS.out y (List.mem_of_getElem? HA.out); have := hy.len; omega
      obtain ⟨w1, hw1⟩ : ∃ w1, w1 = wr.alloc (.cells #[.slice y.A m y.c] 110) := ⟨_, rfl⟩
      have hb1 : Below wr.heap.size wr w1 := by rw [hw1]; exact alloc_more _ _
      have HO1 := Lib.hid (HO.out.below hb1)
      have HB1 := Lib.hid (HB.out.trans (hb1.mono HB.out.size))
      have HY0 := Lib.hid (hok0 HX.out HA.out hy)
      have HYL0 := Lib.hid hy.len
      have hycp := hy.cap
      have hymx := hy.max
      clear hb1 hy HO
      obtain ⟨yA, yc, xs⟩ := y
      have HY : Hid (RdSx U w yA m yc xs) := HY0
      have HYL : Hid (xs.length = m) := HYL0
      replace hycp : m ≤ yc := hycp
      replace hymx : yc ≤ 9223372036854775807 := hymx
      simp only at hw1 c0
      clear HY0 HYL0
      go_wp2_with fail
      rw [← hw1]
      clear hw1
      go_loopw [3, 19] (fun v i wr => ∃ (j : Nat) (A3 : Option Addr) (c3 : Nat) (qs : List Px), j ≤ m ∧ qs.length ≤ 10 * k + j ∧ i = .int .i64 j ∧ v = .slice A3 qs.length c3 ∧ Hid (OwnG layX 162 w.heap.size wr A3 qs.length c3 qs) ∧ Hid (qs = ps ++ pxN k (xs.take j)) ∧ Hid (Below w.heap.size w wr)) (fun _ i _ => m - (intOf i).toNat)
      case atStart => exact ⟨0, A2, c2, ps, by omega, by omega, rfl, rfl, HO1.out, by simp [pxN, Hid], HB1.out⟩
      case round =>
        obtain ⟨j, A3, c3, qs, hj, hjl, rfl, rfl, HO2, HF, HB2⟩ := hrel
        by_cases hlt2 : j < m
        · have HBU := Lib.hid (HB2.out.mono HUU.out)
          obtain ⟨b2, o2, x, pn, rn, rfl, hbU2, HD, hok, HP, HR, d0, d1, d2, d3, d4, d5, d6⟩ := atS (HY.out.below HBU.out) hlt2
          have hjz : (j : Int) < (m : Int) := by omega
          obtain ⟨w2, hw2⟩ : ∃ w2, w2 = wr.alloc (.cells (x.cs pn rn) 115) := ⟨_, rfl⟩
          have hb2 : Below wr.heap.size wr w2 := by rw [hw2]; exact alloc_more _ _
          have HC2 := Lib.hid (show Cel w2 wr.heap.size 115 (x.cs pn rn) by rw [hw2]; exact Cel.born _ _ _)
          have HB3 := Lib.hid (HB2.out.trans (hb2.mono HB2.out.size))
          have hba : Below w2.heap.size w2 (w2.alloc (.cells (Px.cs ⟨x, k, j⟩ pn rn) 162)) := alloc_more _ _
          have hown := (HO2.out.below hb2).below hba
          have hlit := litX w2 ⟨x, k, j⟩ HP.out HR.out
          have hsz := HB3.out.size
          have HT : Hid (qs ++ [⟨x, k, j⟩] = ps ++ pxN k (xs.take (j + 1))) := by
            show _ = _
            rw [HF.out, take_at HD.out, pxN_snoc, List.append_assoc, List.length_take, Nat.min_eq_left (by rw [HYL.out]; omega)]
          clear hb2 hok HP HR HD
          go_upto_region 8 with fail
          rw [← hw2]
          clear hw2
          obtain ⟨z0, z1, z2, z3, z4, z5, z6⟩ := cel7 HC2.out
          go_wp2_with (at_builtin; refine wpList_appG plxP (by decide) (by decide) (by kernel_rfl) ?_ (.tmp 24) (.tmp 29) ?_ ?_ hown ?_ hlit (by omega) (by simp; omega) ?_; rfl; rfl; rfl; rfl; intro A5 c5 w5 happ)
          go_roundw
          case rel =>
            refine ⟨j + 1, A5, c5, qs ++ [⟨x, k, j⟩], by omega, by rw [List.length_append]; simp; omega, by go_num, by rw [List.length_append]; rfl, ?_, HT, (HB3.out.trans (hba.mono hsz)).trans happ.2.1⟩
            rw [List.length_append]
            exact happ.1
          case measure => simp [intOf]; omega
        · obtain rfl : j = m := by omega
          have HT : Hid (qs = pxF 0 (ns.take (k + 1))) := by
            show _ = _
            rw [HF.out, take_at HA.out, pxF_snoc, List.length_take, Nat.min_eq_left (by rw [HL.out]; omega), Nat.zero_add, ← HE.out, ← HYL.out, List.take_length]
          have hjz : ¬ (j : Int) < (j : Int) := by omega
          clear hlt2 HE HA HF
          go_wp2
          go_roundw
          case rel => exact ⟨k + 1, A3, c3, qs, by omega, by omega, by go_num, rfl, HO2.out, HT.out, HB2.out⟩
          case measure => simp [intOf]; omega
    · obtain rfl : k = n := by omega
      have HT : Hid (ps = pxF 0 ns) := by rw [← HL.out] at HE; rw [List.take_length] at HE; exact HE
      have hkz : ¬ (k : Int) < (k : Int) := by omega
      clear hlt HE
      go_wp2
      go_ret
      refine ⟨A2, ps.length, c2, rfl, ?_, HB.out⟩
      rw [← HT.out]
      refine ⟨HO.out.rd, fun p hp => ?_⟩
      obtain ⟨y, hy, hp⟩ := mem_pxF (HT.out ▸ hp)
      exact (((HX.out.below (HB.out.mono HUU.out)).2 y hy).2 _ hp).mono (Nat.le_trans HUU.out HB.out.size)

/-! ### All reservations of subnets, with their networks -/
def kxP1 (p : Px) (l : List Rs) : List Kx := l.map fun r => ⟨r, p.net⟩
def kxF (ps : List Px) : List Kx := ps.flatMap fun p => kxP1 p p.x.res
theorem kxF_snoc (l : List Px) (p : Px) : kxF (l ++ [p]) = kxF l ++ kxP1 p p.x.res := by unfold kxF; rw [List.flatMap_append]; simp
theorem kxP_snoc (p : Px) (l : List Rs) (r : Rs) : kxP1 p (l ++ [r]) = kxP1 p l ++ [⟨r, p.net⟩] := by unfold kxP1; rw [List.map_append]; rfl
theorem kxF_nr : ∀ ps : List Px, (kxF ps).map Kx.nr = resA (ps.map Px.ns)
  | [] => rfl
  | p :: ps => by
    have ih := kxF_nr ps
    unfold kxF resA at ih ⊢
    rw [List.flatMap_cons, List.map_append, ih, List.map_cons, List.flatMap_cons]
    congr 1
    unfold kxP1 resN
    rw [List.map_map]
    rfl
/-- A literal of one reservation with its network. -/
theorem litK (w : World) (k : Kx) : RdG layK (w.heap.size + 1) (w.alloc (.cells k.cs 187)) (some ⟨w.heap.size, 0, none⟩) 1 1 [k] := by
  have := (OwnG.lit (Y := layK) 187 w [k] (by simp)).rd
  have e : (w.alloc (.cells (layK.cells [k]).toArray 187)).heap.size = w.heap.size + 1 := by simp
  rw [e, layK.cells_one] at this
  exact this
def KlR (w : World) (ks : List Kx) (e : Ending) (w' : World) : Prop := ∃ A n c, e = .returned (.slice A n c) ∧ RdKx w'.heap.size w' A n c ks ∧ Below w.heap.size w w'
set_option maxHeartbeats 4000000 in
theorem reserves_any (A : Option Addr) (n c U : Nat) (ps : List Px) (w : World) (h : RdPx U w A n c ps) (hU : U ≤ w.heap.size) (hn : n ≤ 100) (hs : ∀ p ∈ ps, p.x.res.length ≤ 20) :
    Calls Tryz.prog 190 #[.slice A n c] w (KlR w (kxF ps)) := by
  have HX := Lib.hid h
  have HL := Lib.hid h.len
  have HS := Lib.hid hs
  have HUU := Lib.hid hU
  have hcp := h.cap
  have hmx := h.max
  clear h hs hU
  go_enter Tryz.func190, Tryz.ntmps190
  go_wp2
  go_loopw [3, 10] (fun v i wr => ∃ (k : Nat) (A2 : Option Addr) (c2 : Nat) (ks : List Kx), k ≤ n ∧ ks.length ≤ 20 * k ∧ i = .int .i64 k ∧ v = .slice A2 ks.length c2 ∧ Hid (OwnG layK 187 w.heap.size wr A2 ks.length c2 ks) ∧ Hid (ks = kxF (ps.take k)) ∧ Hid (Below w.heap.size w wr)) (fun _ i _ => n - (intOf i).toNat)
  case atStart => exact ⟨0, none, 0, [], by omega, Nat.le_refl _, rfl, rfl, OwnG.nil _ _ _, rfl, Below.refl _ _⟩
  case round =>
    obtain ⟨k, A2, c2, ks, hk, hkl, rfl, rfl, HO, HE, HB⟩ := hrel
    by_cases hlt : k < n
    · have HBU := Lib.hid (HB.out.mono HUU.out)
      obtain ⟨b, o, p, pn, rn, rfl, hbU, HA, hok, HP, HR, t0, t1, t2, t3, t4, t5, t6, t7, t8⟩ := atX (HX.out.below HBU.out) hlt
      have hkz : (k : Int) < (n : Int) := by omega
      have hm20 : rn ≤ 20 := by have := HS.out p (List.mem_of_getElem? HA.out); have := HR.out; omega
      obtain ⟨w1, hw1⟩ : ∃ w1, w1 = wr.alloc (.cells (p.cs pn rn) 162) := ⟨_, rfl⟩
      have hb1 : Below wr.heap.size wr w1 := by rw [hw1]; exact alloc_more _ _
      have hc1 : Cel w1 wr.heap.size 162 (p.cs pn rn) := by rw [hw1]; exact Cel.born _ _ _
      have HC1 := Lib.hid hc1
      have HO1 := Lib.hid (HO.out.below hb1)
      have HB1 := Lib.hid (HB.out.trans (hb1.mono HB.out.size))
      have HY := Lib.hid ((HX.out.2 p (List.mem_of_getElem? HA.out)).r)
      rw [HR.out] at HY
      have hycp := HY.out.cap
      have hymx := HY.out.max
      have HLT : Hid (wr.heap.size < w1.heap.size) := hc1.lt
      clear hb1 HO hok hc1
      go_upto_region 5 with fail
      rw [← hw1]
      clear hw1
      obtain ⟨q0, q1, q2, q3, q4, q5, q6, q7, q8⟩ := cel9 HC1.out
      go_wp2_with fail
      generalize wr.heap.size = gg at HC1 HLT ⊢
      clear q0 q1 q2 q3 q4 q5 q6 q7 q8
      go_loopw [3, 18] (fun v i wr => ∃ (j : Nat) (A3 : Option Addr) (c3 : Nat) (qs : List Kx), j ≤ rn ∧ qs.length ≤ 20 * k + j ∧ i = .int .i64 j ∧ v = .slice A3 qs.length c3 ∧ Hid (OwnG layK 187 w.heap.size wr A3 qs.length c3 qs) ∧ Hid (qs = ks ++ kxP1 p (p.x.res.take j)) ∧ Hid (Cel wr gg 162 (p.cs pn rn)) ∧ Hid (Below w.heap.size w wr)) (fun _ i _ => rn - (intOf i).toNat)
      case atStart => exact ⟨0, A2, c2, ks, by omega, by omega, rfl, rfl, HO1.out, by simp [kxP1, Hid], HC1.out, HB1.out⟩
      case round =>
        obtain ⟨j, A3, c3, qs, hj, hjl, rfl, rfl, HO2, HF, HCg, HB2⟩ := hrel
        by_cases hlt2 : j < rn
        · have HBU2 := Lib.hid (HB2.out.mono HUU.out)
          obtain ⟨b2, o2, r, hA2, hbU2, HD, d0, d1⟩ := atR (HY.out.below HBU2.out) hlt2
          have hjz : (j : Int) < (rn : Int) := by omega
          obtain ⟨w2, hw2⟩ : ∃ w2, w2 = wr.alloc (.cells #[.string (ba r.key), .int .i64 r.addr] 126) := ⟨_, rfl⟩
          have hb2 : Below wr.heap.size wr w2 := by rw [hw2]; exact alloc_more _ _
          have HC2 := Lib.hid (show Cel w2 wr.heap.size 126 #[.string (ba r.key), .int .i64 r.addr] by rw [hw2]; exact Cel.born _ _ _)
          have HCg2 := Lib.hid (HCg.out.below hb2 HCg.out.lt)
          have HB3 := Lib.hid (HB2.out.trans (hb2.mono HB2.out.size))
          have hba : Below w2.heap.size w2 (w2.alloc (.cells (Kx.cs ⟨r, p.net⟩) 187)) := alloc_more _ _
          have hown := (HO2.out.below hb2).below hba
          have hlit := litK w2 ⟨r, p.net⟩
          have hsz := HB3.out.size
          have HT : Hid (qs ++ [⟨r, p.net⟩] = ks ++ kxP1 p (p.x.res.take (j + 1))) := by
            show _ = _
            rw [HF.out, take_at HD.out, kxP_snoc, List.append_assoc]
          clear hb2 HD
          rw [hA2]
          go_upto_region 8 with fail
          rw [← hw2]
          clear hw2
          obtain ⟨q0, q1, q2, q3, q4, q5, q6, q7, q8⟩ := cel9 HCg2.out
          obtain ⟨z0, z1⟩ : w2.cell? ⟨wr.heap.size, 0, none⟩ = some (.string (ba r.key)) ∧ w2.cell? ⟨wr.heap.size, 1, none⟩ = some (.int .i64 r.addr) := ⟨by rw [HC2.out.cell]; rfl, by rw [HC2.out.cell]; rfl⟩
          go_wp2_with (at_builtin; refine wpList_appG kxP (by decide) (by decide) (by kernel_rfl) ?_ (.tmp 22) (.tmp 27) ?_ ?_ hown ?_ hlit (by omega) (by simp; omega) ?_; rfl; rfl; rfl; rfl; intro A5 c5 w5 happ)
          go_roundw
          case rel =>
            refine ⟨j + 1, A5, c5, qs ++ [⟨r, p.net⟩], by omega, by rw [List.length_append]; simp; omega, by go_num, by rw [List.length_append]; rfl, ?_, HT, ?_, (HB3.out.trans (hba.mono hsz)).trans happ.2.1⟩
            · rw [List.length_append]
              exact happ.1
            · have hcg3 := HCg2.out.below hba HCg2.out.lt
              exact hcg3.grown happ.2.2.1 (hcg3.not_row hown.1 (by decide))
          case measure => simp [intOf]; omega
        · obtain rfl : j = rn := by omega
          have HT : Hid (qs = kxF (ps.take (k + 1))) := by
            show _ = _
            rw [HF.out, take_at HA.out, kxF_snoc, ← HE.out, ← HR.out, List.take_length]
          have hjz : ¬ (j : Int) < (j : Int) := by omega
          clear hlt2 HE HA HF
          go_wp2
          go_roundw
          case rel => exact ⟨k + 1, A3, c3, qs, by omega, by omega, by go_num, rfl, HO2.out, HT.out, HB2.out⟩
          case measure => simp [intOf]; omega
    · obtain rfl : k = n := by omega
      have HT : Hid (ks = kxF ps) := by rw [← HL.out] at HE; rw [List.take_length] at HE; exact HE
      have hkz : ¬ (k : Int) < (k : Int) := by omega
      clear hlt HE
      go_wp2
      go_ret
      refine ⟨A2, ks.length, c2, rfl, ?_, HB.out⟩
      rw [← HT.out]
      exact HO.out.rd
end Go.Proofs.YtoldppbakapohaaGreatDoor.Vw
end
/- What conf's questions about one subnet come to: what is wrong with it, what strays, what it takes. Conditions: its pools and reservations read; for what strays, its prefix is right. -/
section
set_option maxRecDepth 8000
namespace Go.Proofs.YtoldppbakapohaaGreatDoor.Vw
open Go.RowKit By Cf Ad Ky
open Dw (ba ba_size ba_data ba_list alloc_more)

theorem app0 (x : Value) : #[x] ++ (#[] : Array Value) = #[x] := rfl
theorem app1 (x y : Value) : #[x] ++ #[y] = #[x, y] := rfl
theorem app2 (x y z : Value) : #[x] ++ #[y, z] = #[x, y, z] := rfl
/-- Memory that has a subnet with its place and a number in two new blocks. -/
theorem boxed2 (w : World) (p : Px) (pn rn : Nat) (a : Int) : ∃ w0, w0 = (w.alloc (.cells (p.cs pn rn) 162)).alloc (.cells #[.int .i64 a] 3) ∧ Cel w0 w.heap.size 162 (p.cs pn rn) ∧ Cel w0 (w.heap.size + 1) 3 #[.int .i64 a] ∧ Below w.heap.size w w0 := by
  have hs : (w.alloc (.cells (p.cs pn rn) 162)).heap.size = w.heap.size + 1 := by simp
  have c1 := Cel.born (w.alloc (.cells (p.cs pn rn) 162)) 3 #[.int .i64 a]
  rw [hs] at c1
  exact ⟨_, rfl, (Cel.born w 162 (p.cs pn rn)).below (alloc_more _ _) (by rw [hs]; omega), c1, two_boxes _ _ _ _ _⟩
set_option maxHeartbeats 1000000 in
theorem pools_any (p : Px) (pn rn U : Nat) (a : Int) (w : World) (hok : p.x.ok U w pn rn) (hU : U ≤ w.heap.size) : Calls Tryz.prog 185 #[p.v pn rn, .int .i64 a] w (isB (p.x.s.pools.any fun q => inPl q a) w) := by
  obtain ⟨w0, hw0, _, hc1, hb0⟩ := boxed2 w p pn rn a
  have hz : w0.heap.size = w.heap.size + 2 := by rw [hw0]; simp
  have HC := Lib.hid (hasP 218 (fun args W => by rfl) #[.pointer (some ⟨w.heap.size + 1, 0, none⟩)] (fun q => inPl q a) p.x.pA pn p.x.pc U p.x.pools w0 (hok.p.below (hb0.mono hU)) (by omega)
    (fun q _ W hW => by rw [app1]; exact pool_in q a _ W (by have := hW.size; omega) (by rw [(hc1.below hW hc1.lt).cell]; rfl)))
  have HB := Lib.hid hb0
  clear hok hU hc1 hb0 hz
  go_enter Tryz.func185, Tryz.ntmps185
  go_wp2_with fail
  rw [← hw0]
  clear hw0
  refine HC.out.mono ?_
  rintro e w1 ⟨rfl, hb1⟩
  go_wp2
  go_ret
  exact ⟨rfl, HB.out.trans (hb1.mono HB.out.size)⟩
set_option maxHeartbeats 2000000 in
theorem takes_any (p : Px) (pn rn U : Nat) (a : Int) (w : World) (hok : p.x.ok U w pn rn) (hU : U ≤ w.heap.size) : Calls Tryz.prog 129 #[p.v pn rn, .int .i64 a] w (isB (takesB p.x.s a) w) := by
  obtain ⟨w0, hw0, hc0, hc1, hb0⟩ := boxed2 w p pn rn a
  have hz : w0.heap.size = w.heap.size + 2 := by rw [hw0]; simp
  have HP := Lib.hid (pools_any p pn rn U a w0 (hok.below (hb0.mono hU)) (by omega))
  have HC := Lib.hid (fun w1 (h1 : Below w0.heap.size w0 w1) => hasR 186 (fun args W => by rfl) #[.pointer (some ⟨w.heap.size + 1, 0, none⟩)] (fun r => decide (r.addr = a)) p.x.rA rn p.x.rc U p.x.res w1 ((hok.r.below (hb0.mono hU)).below (h1.mono (by omega))) (by have := h1.size; omega)
    (fun r _ W hW => by rw [app1]; exact res_is r a _ W (by have := hW.size; have := h1.size; omega) (by rw [((hc1.below h1 hc1.lt).below hW (Nat.lt_of_lt_of_le hc1.lt h1.size)).cell]; rfl)))
  have HB := Lib.hid hb0
  have HC0 := Lib.hid hc0
  have HC1 := Lib.hid hc1
  clear hok hU hc0 hc1 hb0 hz
  cases hp : (p.x.s.pools.any fun q => inPl q a) with
  | true =>
    have H : Hid (takesB p.x.s a = true) := by show _ = _; unfold takesB; rw [hp]; rfl
    rw [hp] at HP
    clear hp
    go_enter Tryz.func129, Tryz.ntmps129
    go_wp2_with fail
    rw [← hw0]
    clear hw0
    refine HP.out.mono ?_
    rintro e w1 ⟨rfl, hb1⟩
    go_wp2
    go_ret
    exact ⟨ret_bool H.out.symm, HB.out.trans (hb1.mono HB.out.size)⟩
  | false =>
    have H : Hid (takesB p.x.s a = p.x.res.any fun r => decide (r.addr = a)) := by show _ = _; unfold takesB; rw [hp]; rfl
    rw [hp] at HP
    clear hp
    go_enter Tryz.func129, Tryz.ntmps129
    go_wp2_with fail
    rw [← hw0]
    clear hw0
    refine HP.out.mono ?_
    rintro e w1 ⟨rfl, hb1⟩
    obtain ⟨c0, c1, c2, c3, c4, c5, c6, c7, c8⟩ := cel9 (HC0.out.below hb1 HC0.out.lt)
    have HB1 := Lib.hid (HB.out.trans (hb1.mono HB.out.size))
    have HC2 := Lib.hid (HC.out w1 hb1)
    clear hb1
    go_wp2_with fail
    refine HC2.out.mono ?_
    rintro e w2 ⟨rfl, hb2⟩
    go_wp2
    go_ret
    exact ⟨ret_bool H.out.symm, HB1.out.trans (hb2.mono HB1.out.size)⟩
set_option maxHeartbeats 16000000 in
theorem wrong_any (p : Px) (pn rn U : Nat) (w : World) (hok : p.x.ok U w pn rn) (hU : U ≤ w.heap.size) : Calls Tryz.prog 126 #[p.v pn rn] w (isB (!snF p.x.s) w) := by
  obtain ⟨w0, hw0, hc0, hb0⟩ := boxed w p pn rn
  have hz : w0.heap.size = w.heap.size + 1 := by rw [hw0]; simp
  have HP := Lib.hid (hasP 179 (fun args W => by rfl) #[] (fun q => !poolF q) p.x.pA pn p.x.pc U p.x.pools w0 (hok.p.below (hb0.mono hU)) (by omega) (fun q _ W _ => by rw [app0]; exact pool_wrong q W))
  have HRR := Lib.hid (fun w1 (h1 : Below w0.heap.size w0 w1) => hasR 181 (fun args W => by rfl) #[] (fun r => !resF r) p.x.rA rn p.x.rc U p.x.res w1 ((hok.r.below (hb0.mono hU)).below (h1.mono (by omega))) (by have := h1.size; omega)
    (fun r hr W _ => by rw [app0]; exact res_wrong r W (hok.k r hr)))
  have hpn : p.x.pools.length = pn := hok.p.len
  have hrn : p.x.res.length = rn := hok.r.len
  have HF := Lib.hid (fun W => Aw.fair_any p.x.base p.x.bits W)
  have HS := Lib.hid (fun W => span_any p.x.time W)
  have HB := Lib.hid hb0
  have HC0 := Lib.hid hc0
  obtain ⟨c0, c1, c2, c3, c4, c5, c6, _, _⟩ := cel9 hc0
  have HPL := Lib.hid hpn
  have HRL := Lib.hid hrn
  clear hok hU hc0 hb0 hz hpn hrn
  cases f0 : fairB p.x.base p.x.bits with
  | false =>
    rw [f0] at HF
    have H : Hid ((!snF p.x.s) = true) := by show _ = _; unfold snF Sx.s; simp only [f0, Bool.false_and]; simp
    go_enter Tryz.func126, Tryz.ntmps126
    go_wp2_with fail
    rw [← hw0]
    clear hw0
    refine (HF.out w0).mono ?_
    rintro e wf ⟨rfl, rfl⟩
    go_wp2
    go_ret
    exact ⟨ret_bool H.out.symm, HB.out⟩
  | true =>
  rw [f0] at HF
  by_cases g1 : p.x.bits < 8
  · have f1 : decide (8 ≤ p.x.bits ∧ p.x.bits ≤ 30) = false := decide_eq_false (by omega)
    have H : Hid ((!snF p.x.s) = true) := by show _ = _; unfold snF Sx.s; simp only [f1, Bool.false_and, Bool.and_false]; simp
    go_enter Tryz.func126, Tryz.ntmps126
    go_wp2_with fail
    rw [← hw0]
    clear hw0
    refine (HF.out w0).mono ?_
    rintro e wf ⟨rfl, rfl⟩
    go_wp2
    go_ret
    exact ⟨ret_bool H.out.symm, HB.out⟩
  by_cases g2 : p.x.bits > 30
  · have f2 : decide (8 ≤ p.x.bits ∧ p.x.bits ≤ 30) = false := decide_eq_false (by omega)
    have H : Hid ((!snF p.x.s) = true) := by show _ = _; unfold snF Sx.s; simp only [f2, Bool.false_and, Bool.and_false]; simp
    go_enter Tryz.func126, Tryz.ntmps126
    go_wp2_with fail
    rw [← hw0]
    clear hw0
    refine (HF.out w0).mono ?_
    rintro e wf ⟨rfl, rfl⟩
    go_wp2
    go_ret
    exact ⟨ret_bool H.out.symm, HB.out⟩
  by_cases g3 : (pn : Int) > 4
  · have f3 : decide (p.x.pools.length ≤ 4) = false := decide_eq_false (by have := HPL.out; omega)
    have H : Hid ((!snF p.x.s) = true) := by show _ = _; unfold snF Sx.s; simp only [f3, Bool.false_and, Bool.and_false]; simp
    go_enter Tryz.func126, Tryz.ntmps126
    go_wp2_with fail
    rw [← hw0]
    clear hw0
    refine (HF.out w0).mono ?_
    rintro e wf ⟨rfl, rfl⟩
    go_wp2
    go_ret
    exact ⟨ret_bool H.out.symm, HB.out⟩
  by_cases g4 : (rn : Int) > 8
  · have f4 : decide (p.x.res.length ≤ 8) = false := decide_eq_false (by have := HRL.out; omega)
    have H : Hid ((!snF p.x.s) = true) := by show _ = _; unfold snF Sx.s; simp only [f4, Bool.false_and, Bool.and_false]; simp
    go_enter Tryz.func126, Tryz.ntmps126
    go_wp2_with fail
    rw [← hw0]
    clear hw0
    refine (HF.out w0).mono ?_
    rintro e wf ⟨rfl, rfl⟩
    go_wp2
    go_ret
    exact ⟨ret_bool H.out.symm, HB.out⟩
  by_cases g5 : p.x.iface < 0
  · have f5 : decide (0 ≤ p.x.iface ∧ p.x.iface ≤ 99) = false := decide_eq_false (by omega)
    have H : Hid ((!snF p.x.s) = true) := by show _ = _; unfold snF Sx.s; simp only [f5, Bool.false_and, Bool.and_false]; simp
    go_enter Tryz.func126, Tryz.ntmps126
    go_wp2_with fail
    rw [← hw0]
    clear hw0
    refine (HF.out w0).mono ?_
    rintro e wf ⟨rfl, rfl⟩
    go_wp2
    go_ret
    exact ⟨ret_bool H.out.symm, HB.out⟩
  by_cases g6 : p.x.iface > 99
  · have f6 : decide (0 ≤ p.x.iface ∧ p.x.iface ≤ 99) = false := decide_eq_false (by omega)
    have H : Hid ((!snF p.x.s) = true) := by show _ = _; unfold snF Sx.s; simp only [f6, Bool.false_and, Bool.and_false]; simp
    go_enter Tryz.func126, Tryz.ntmps126
    go_wp2_with fail
    rw [← hw0]
    clear hw0
    refine (HF.out w0).mono ?_
    rintro e wf ⟨rfl, rfl⟩
    go_wp2
    go_ret
    exact ⟨ret_bool H.out.symm, HB.out⟩
  have f1 : decide (8 ≤ p.x.bits ∧ p.x.bits ≤ 30) = true := decide_eq_true (by omega)
  have f3 : decide (p.x.pools.length ≤ 4) = true := decide_eq_true (by have := HPL.out; omega)
  have f4 : decide (p.x.res.length ≤ 8) = true := decide_eq_true (by have := HRL.out; omega)
  have f5 : decide (0 ≤ p.x.iface ∧ p.x.iface ≤ 99) = true := decide_eq_true (by omega)
  cases f7 : decide (1 ≤ p.x.time ∧ p.x.time ≤ 2147483648) with
  | false =>
    rw [f7] at HS
    have H : Hid ((!snF p.x.s) = true) := by show _ = _; unfold snF Sx.s; simp only [f7, Bool.false_and, Bool.and_false]; simp
    go_enter Tryz.func126, Tryz.ntmps126
    go_wp2_with fail
    rw [← hw0]
    clear hw0
    refine (HF.out w0).mono ?_
    rintro e wf ⟨rfl, rfl⟩
    go_wp2_with fail
    refine (HS.out w0).mono ?_
    rintro e wf ⟨rfl, rfl⟩
    go_wp2
    go_ret
    exact ⟨ret_bool H.out.symm, HB.out⟩
  | true =>
  rw [f7] at HS
  cases f8 : (p.x.pools.any fun q => !poolF q) with
  | true =>
    have f9 : p.x.pools.all poolF = false := by rw [← not_all] at f8; simpa using f8
    rw [f8] at HP
    have H : Hid ((!snF p.x.s) = true) := by show _ = _; unfold snF Sx.s; simp only [f9, Bool.false_and, Bool.and_false]; simp
    go_enter Tryz.func126, Tryz.ntmps126
    go_wp2_with fail
    rw [← hw0]
    clear hw0
    refine (HF.out w0).mono ?_
    rintro e wf ⟨rfl, rfl⟩
    go_wp2_with fail
    refine (HS.out w0).mono ?_
    rintro e wf ⟨rfl, rfl⟩
    go_wp2_with fail
    refine HP.out.mono ?_
    rintro e w1 ⟨rfl, hb1⟩
    obtain ⟨d0, d1, d2, d3, d4, d5, d6, _, _⟩ := cel9 (HC0.out.below hb1 HC0.out.lt)
    have HB1 := Lib.hid (HB.out.trans (hb1.mono HB.out.size))
    clear hb1
    go_wp2
    go_ret
    exact ⟨ret_bool H.out.symm, HB1.out⟩
  | false =>
  have f9 : p.x.pools.all poolF = true := by rw [← not_all] at f8; simpa using f8
  rw [f8] at HP
  have H : Hid ((!snF p.x.s) = p.x.res.any fun r => !resF r) := by
    show _ = _
    rw [← not_all]
    unfold snF Sx.s
    simp only [f0, f1, f3, f4, f5, f7, f9, Bool.true_and, Bool.and_true]
  have K1 : Hid (decide (p.x.bits < 8) = false) := decide_eq_false g1
  have K2 : Hid (decide (30 < p.x.bits) = false) := decide_eq_false g2
  have K3 : Hid (decide ((4 : Int) < pn) = false) := decide_eq_false g3
  have K4 : Hid (decide ((8 : Int) < rn) = false) := decide_eq_false g4
  have K5 : Hid (decide (p.x.iface < 0) = false) := decide_eq_false g5
  have K6 : Hid (decide (99 < p.x.iface) = false) := decide_eq_false g6
  go_enter Tryz.func126, Tryz.ntmps126
  go_wp2_with fail
  rw [← hw0]
  clear hw0
  refine (HF.out w0).mono ?_
  rintro e wf ⟨rfl, rfl⟩
  go_wp2_with fail
  refine (HS.out w0).mono ?_
  rintro e wf ⟨rfl, rfl⟩
  go_wp2_with fail
  refine HP.out.mono ?_
  rintro e w1 ⟨rfl, hb1⟩
  obtain ⟨d0, d1, d2, d3, d4, d5, d6, _, _⟩ := cel9 (HC0.out.below hb1 HC0.out.lt)
  have HB1 := Lib.hid (HB.out.trans (hb1.mono HB.out.size))
  have HR := Lib.hid (HRR.out w1 hb1)
  clear hb1
  go_wp2_with fail
  refine HR.out.mono ?_
  rintro e w2 ⟨rfl, hb2⟩
  go_wp2
  go_ret
  exact ⟨ret_bool (by rw [K1.out, K2.out, K3.out, K4.out, K5.out, K6.out, H.out]; rfl), HB1.out.trans (hb2.mono HB1.out.size)⟩
set_option maxHeartbeats 2000000 in
theorem stray_pool (p : Px) (pn rn : Nat) (q : Pl) (g : Nat) (w : World) (hg : g < w.heap.size) (hc : Cel w g 162 (p.cs pn rn)) (hf : fairB p.x.base p.x.bits = true) :
    Calls Tryz.prog 182 #[.agg #[.int .i64 q.first, .int .i64 q.last], .pointer (some ⟨g, 0, none⟩)] w (isB (!lendsB p.x.s q.first || !lendsB p.x.s q.last) w) := by
  obtain ⟨w0, hw0⟩ : ∃ w0, w0 = w.alloc (.cells #[.int .i64 q.first, .int .i64 q.last] 124) := ⟨_, rfl⟩
  have hb0 : Below w.heap.size w w0 := by rw [hw0]; exact alloc_more _ _
  have hn0 : Cel w0 w.heap.size 124 #[.int .i64 q.first, .int .i64 q.last] := by rw [hw0]; exact Cel.born _ _ _
  have HC0 := Lib.hid (hc.below hb0 hg)
  have HN0 := Lib.hid hn0
  have HB := Lib.hid hb0
  have HL1 := Lib.hid (lends_any p pn rn q.first w0 hf)
  have HL2 := Lib.hid (fun W => lends_any p pn rn q.last W hf)
  clear hb0 hn0 hc hf hg
  cases h1 : lendsB p.x.s q.first with
  | false =>
    rw [h1] at HL1
    clear h1
    go_enter Tryz.func182, Tryz.ntmps182
    go_upto_region 1 with fail
    rw [← hw0]
    clear hw0
    obtain ⟨c0, c1, c2, c3, c4, c5, c6, c7, c8⟩ := cel9 HC0.out
    obtain ⟨d0, d1⟩ := celP HN0.out
    go_wp2_with fail
    refine HL1.out.mono ?_
    rintro e w1 ⟨rfl, hb1⟩
    go_wp2
    go_ret
    exact ⟨rfl, HB.out.trans (hb1.mono HB.out.size)⟩
  | true =>
    rw [h1] at HL1
    clear h1
    go_enter Tryz.func182, Tryz.ntmps182
    go_upto_region 1 with fail
    rw [← hw0]
    clear hw0
    obtain ⟨c0, c1, c2, c3, c4, c5, c6, c7, c8⟩ := cel9 HC0.out
    obtain ⟨d0, d1⟩ := celP HN0.out
    go_wp2_with fail
    refine HL1.out.mono ?_
    rintro e w1 ⟨rfl, hb1⟩
    clear c0 c1 c2 c3 c4 c5 c6 c7 c8 d0 d1
    obtain ⟨c0, c1, c2, c3, c4, c5, c6, c7, c8⟩ := cel9 (HC0.out.below hb1 HC0.out.lt)
    obtain ⟨d0, d1⟩ := celP (HN0.out.below hb1 HN0.out.lt)
    have HB1 := Lib.hid (HB.out.trans (hb1.mono HB.out.size))
    clear hb1
    go_wp2_with fail
    refine (HL2.out w1).mono ?_
    rintro e w2 ⟨rfl, hb2⟩
    go_wp2
    go_ret
    exact ⟨rfl, HB1.out.trans (hb2.mono HB1.out.size)⟩
set_option maxHeartbeats 2000000 in
theorem stray_res (p : Px) (pn rn : Nat) (r : Rs) (g : Nat) (w : World) (hg : g < w.heap.size) (hc : Cel w g 162 (p.cs pn rn)) (hf : fairB p.x.base p.x.bits = true) :
    Calls Tryz.prog 184 #[.agg #[.string (ba r.key), .int .i64 r.addr], .pointer (some ⟨g, 0, none⟩)] w (isB (!lendsB p.x.s r.addr) w) := by
  obtain ⟨w0, hw0⟩ : ∃ w0, w0 = w.alloc (.cells #[.string (ba r.key), .int .i64 r.addr] 126) := ⟨_, rfl⟩
  have hb0 : Below w.heap.size w w0 := by rw [hw0]; exact alloc_more _ _
  have hn0 : Cel w0 w.heap.size 126 #[.string (ba r.key), .int .i64 r.addr] := by rw [hw0]; exact Cel.born _ _ _
  have HC0 := Lib.hid (hc.below hb0 hg)
  have HB := Lib.hid hb0
  have HL1 := Lib.hid (lends_any p pn rn r.addr w0 hf)
  have d1 : w0.cell? ⟨w.heap.size, 1, none⟩ = some (.int .i64 r.addr) := by rw [hn0.cell]; rfl
  clear hb0 hn0 hc hf hg
  go_enter Tryz.func184, Tryz.ntmps184
  go_upto_region 1 with fail
  rw [← hw0]
  clear hw0
  obtain ⟨c0, c1, c2, c3, c4, c5, c6, c7, c8⟩ := cel9 HC0.out
  go_wp2_with fail
  refine HL1.out.mono ?_
  rintro e w1 ⟨rfl, hb1⟩
  go_wp2
  go_ret
  exact ⟨rfl, HB.out.trans (hb1.mono HB.out.size)⟩
set_option maxHeartbeats 8000000 in
theorem strays_any (p : Px) (pn rn U : Nat) (w : World) (hok : p.x.ok U w pn rn) (hU : U ≤ w.heap.size) (hf : fairB p.x.base p.x.bits = true) : Calls Tryz.prog 128 #[p.v pn rn] w (isB (strayB p.x.s) w) := by
  obtain ⟨w0, hw0, hc0, hb0⟩ := boxed w p pn rn
  have hz : w0.heap.size = w.heap.size + 1 := by rw [hw0]; simp
  have HP := Lib.hid (hasP 182 (fun args W => by rfl) #[.pointer (some ⟨w.heap.size, 0, none⟩)] (fun q => !lendsB p.x.s q.first || !lendsB p.x.s q.last) p.x.pA pn p.x.pc U p.x.pools w0 (hok.p.below (hb0.mono hU)) (by omega)
    (fun q _ W hW => by rw [app1]; exact stray_pool p pn rn q _ W (by have := hW.size; omega) (hc0.below hW hc0.lt) hf))
  have HRR := Lib.hid (fun w1 (h1 : Below w0.heap.size w0 w1) => hasR 184 (fun args W => by rfl) #[.pointer (some ⟨w.heap.size, 0, none⟩)] (fun r => !lendsB p.x.s r.addr) p.x.rA rn p.x.rc U p.x.res w1 ((hok.r.below (hb0.mono hU)).below (h1.mono (by omega))) (by have := h1.size; omega)
    (fun r _ W hW => by rw [app1]; exact stray_res p pn rn r _ W (by have := hW.size; have := h1.size; omega) ((hc0.below h1 hc0.lt).below hW (Nat.lt_of_lt_of_le hc0.lt h1.size)) hf))
  have HH := Lib.hid (fun W => Aw.has_any p.x.base p.x.bits p.x.router W)
  have HB := Lib.hid hb0
  have HC0 := Lib.hid hc0
  clear hok hU hc0 hb0 hz hf
  by_cases h1 : p.x.router = 0
  · have hq : (p.x.router == 0) = true := by simpa using h1
    have hq2 : (p.x.router != 0) = false := by rw [bne, hq]; rfl
    have hr : decide (p.x.s.router = 0) = true := decide_eq_true h1
    clear h1
    cases f8 : (p.x.pools.any fun q => !lendsB p.x.s q.first || !lendsB p.x.s q.last) with
    | true =>
      have H : Hid (strayB p.x.s = true) := by show _ = _; unfold strayB; rw [show (p.x.s.pools.any fun q => !lendsB p.x.s q.first || !lendsB p.x.s q.last) = true from f8]; simp
      rw [f8] at HP
      go_enter Tryz.func128, Tryz.ntmps128
      go_upto_region 1 with fail
      rw [← hw0]
      clear hw0
      obtain ⟨c0, c1, c2, c3, c4, c5, c6, c7, c8⟩ := cel9 HC0.out
      go_wp2_with fail
      refine HP.out.mono ?_
      rintro e w1 ⟨rfl, hb1⟩
      clear c0 c1 c2 c3 c4 c5 c6 c7 c8
      have HB1 := Lib.hid (HB.out.trans (hb1.mono HB.out.size))
      obtain ⟨c0, c1, c2, c3, c4, c5, c6, c7, c8⟩ := cel9 (HC0.out.below hb1 HC0.out.lt)
      clear hb1
      go_wp2
      go_ret
      exact ⟨ret_bool H.out.symm, HB1.out⟩
    | false =>
      have H : Hid (strayB p.x.s = p.x.res.any fun r => !lendsB p.x.s r.addr) := by
        show _ = _
        unfold strayB
        rw [show (p.x.s.pools.any fun q => !lendsB p.x.s q.first || !lendsB p.x.s q.last) = false from f8, hr]
        rfl
      rw [f8] at HP
      go_enter Tryz.func128, Tryz.ntmps128
      go_upto_region 1 with fail
      rw [← hw0]
      clear hw0
      obtain ⟨c0, c1, c2, c3, c4, c5, c6, c7, c8⟩ := cel9 HC0.out
      go_wp2_with fail
      refine HP.out.mono ?_
      rintro e w1 ⟨rfl, hb1⟩
      clear c0 c1 c2 c3 c4 c5 c6 c7 c8
      have HB1 := Lib.hid (HB.out.trans (hb1.mono HB.out.size))
      obtain ⟨c0, c1, c2, c3, c4, c5, c6, c7, c8⟩ := cel9 (HC0.out.below hb1 HC0.out.lt)
      have HR := Lib.hid (HRR.out w1 hb1)
      clear hb1
      go_wp2_with fail
      refine HR.out.mono ?_
      rintro e w2 ⟨rfl, hb2⟩
      go_wp2
      go_ret
      exact ⟨ret_bool H.out.symm, HB1.out.trans (hb2.mono HB1.out.size)⟩
  have hq : (p.x.router == 0) = false := by simpa using h1
  have hq2 : (p.x.router != 0) = true := by rw [bne, hq]; rfl
  have hr : decide (p.x.s.router = 0) = false := decide_eq_false h1
  clear h1
  cases h2 : hasB p.x.base p.x.bits p.x.router with
  | false =>
    have H : Hid (strayB p.x.s = true) := by show _ = _; unfold strayB; rw [hr, show hasB p.x.s.base p.x.s.bits p.x.s.router = false from h2]; simp
    rw [h2] at HH
    go_enter Tryz.func128, Tryz.ntmps128
    go_upto_region 1 with fail
    rw [← hw0]
    clear hw0
    obtain ⟨c0, c1, c2, c3, c4, c5, c6, c7, c8⟩ := cel9 HC0.out
    go_wp2_with fail
    refine (HH.out w0).mono ?_
    rintro e wf ⟨rfl, rfl⟩
    go_wp2
    go_ret
    exact ⟨ret_bool H.out.symm, HB.out⟩
  | true =>
    rw [h2] at HH
    have h3 : hasB p.x.s.base p.x.s.bits p.x.s.router = true := h2
    cases f8 : (p.x.pools.any fun q => !lendsB p.x.s q.first || !lendsB p.x.s q.last) with
    | true =>
      have H : Hid (strayB p.x.s = true) := by show _ = _; unfold strayB; rw [show (p.x.s.pools.any fun q => !lendsB p.x.s q.first || !lendsB p.x.s q.last) = true from f8]; simp
      rw [f8] at HP
      go_enter Tryz.func128, Tryz.ntmps128
      go_upto_region 1 with fail
      rw [← hw0]
      clear hw0
      obtain ⟨c0, c1, c2, c3, c4, c5, c6, c7, c8⟩ := cel9 HC0.out
      go_wp2_with fail
      refine (HH.out w0).mono ?_
      rintro e wf ⟨rfl, rfl⟩
      go_wp2_with fail
      refine HP.out.mono ?_
      rintro e w1 ⟨rfl, hb1⟩
      clear c0 c1 c2 c3 c4 c5 c6 c7 c8
      have HB1 := Lib.hid (HB.out.trans (hb1.mono HB.out.size))
      obtain ⟨c0, c1, c2, c3, c4, c5, c6, c7, c8⟩ := cel9 (HC0.out.below hb1 HC0.out.lt)
      clear hb1
      go_wp2
      go_ret
      exact ⟨ret_bool H.out.symm, HB1.out⟩
    | false =>
      have H : Hid (strayB p.x.s = p.x.res.any fun r => !lendsB p.x.s r.addr) := by
        show _ = _
        unfold strayB
        rw [show (p.x.s.pools.any fun q => !lendsB p.x.s q.first || !lendsB p.x.s q.last) = false from f8, hr, h3]
        rfl
      rw [f8] at HP
      go_enter Tryz.func128, Tryz.ntmps128
      go_upto_region 1 with fail
      rw [← hw0]
      clear hw0
      obtain ⟨c0, c1, c2, c3, c4, c5, c6, c7, c8⟩ := cel9 HC0.out
      go_wp2_with fail
      refine (HH.out w0).mono ?_
      rintro e wf ⟨rfl, rfl⟩
      go_wp2_with fail
      refine HP.out.mono ?_
      rintro e w1 ⟨rfl, hb1⟩
      clear c0 c1 c2 c3 c4 c5 c6 c7 c8
      have HB1 := Lib.hid (HB.out.trans (hb1.mono HB.out.size))
      obtain ⟨c0, c1, c2, c3, c4, c5, c6, c7, c8⟩ := cel9 (HC0.out.below hb1 HC0.out.lt)
      have HR := Lib.hid (HRR.out w1 hb1)
      clear hb1
      go_wp2_with fail
      refine HR.out.mono ?_
      rintro e w2 ⟨rfl, hb2⟩
      go_wp2
      go_ret
      exact ⟨ret_bool H.out.symm, HB1.out.trans (hb2.mono HB1.out.size)⟩
end Go.Proofs.YtoldppbakapohaaGreatDoor.Vw
end
/- What conf's Check comes to: what is wrong with a configuration. Condition: it is small (boarderlaw13's Great is false). -/
section
set_option maxRecDepth 8000
namespace Go.Proofs.YtoldppbakapohaaGreatDoor.Vw
open Go.RowKit By Cf Ad Ky
open Dw (ba ba_size ba_data ba_list alloc_more)

theorem nets_any (f : List Sn → Bool) (ns : List Nx) : (netsOf ns).any f = ns.any fun y => f y.l := by unfold netsOf; rw [List.any_map]; rfl
/-- Memory that has a configuration in a new block. -/
theorem boxedC (w : World) (x : Cx) : ∃ w0, w0 = w.alloc (.cells x.cs 24) ∧ Cel w0 w.heap.size 24 x.cs ∧ Below w.heap.size w w0 := ⟨_, rfl, Cel.born _ _ _, alloc_more _ _⟩
set_option maxHeartbeats 4000000 in
theorem wrongC_any (x : Cx) (U : Nat) (w : World) (h : x.ok U w) (hU : U ≤ w.heap.size) : Calls Tryz.prog 124 #[x.v] w (isB (wrongC x.cf) w) := by
  obtain ⟨w0, hw0, hc0, hb0⟩ := boxedC w x
  have hz : w0.heap.size = w.heap.size + 1 := by rw [hw0]; simp
  have HN := Lib.hid (hasN 175 (fun args W => by rfl) #[] (fun y => !sizeN y.l) x.A x.n x.c U x.ns w0 (h.rd.below (hb0.mono hU)) (by omega) (fun y _ m hm W _ => by
    rw [app0]
    have := netSize_any y.A m y.c W (Nat.le_trans hm.cap hm.max)
    rw [show decide (1 ≤ m ∧ m ≤ 4) = sizeN y.l by unfold sizeN Nx.l; rw [sns_len, hm.len]] at this
    exact this))
  rw [← nets_any (fun n => !sizeN n)] at HN
  have HL := Lib.hid h.nets
  have hcap := h.rd.cap
  have hmax := h.rd.max
  have HR := Lib.hid (fun W => Aw.right_any x.server W)
  have HS := Lib.hid (fun W => span_any x.prob W)
  have HB := Lib.hid hb0
  have HC0 := Lib.hid hc0
  clear h hU hc0 hb0 hz
  have hdef : wrongC x.cf = (!rightB x.server || !spanB x.prob || decide (4 < x.cf.nets.length) || (netsOf x.ns).any fun n => !sizeN n) := rfl
  cases f0 : rightB x.server with
  | false =>
    have H : Hid (wrongC x.cf = true) := by show _ = _; rw [hdef, f0]; simp
    rw [f0] at HR
    clear hdef
    go_enter Tryz.func124, Tryz.ntmps124
    go_upto_region 1 with fail
    rw [← hw0]
    clear hw0
    obtain ⟨c0, c1, c2⟩ := cel3C HC0.out
    go_wp2_with fail
    refine (HR.out w0).mono ?_
    rintro e w1 ⟨rfl, rfl⟩
    go_wp2
    go_ret
    exact ⟨ret_bool H.out.symm, HB.out⟩
  | true =>
  rw [f0] at HR
  cases f1 : decide (1 ≤ x.prob ∧ x.prob ≤ 2147483648) with
  | false =>
    have H : Hid (wrongC x.cf = true) := by show _ = _; rw [hdef, f0, show spanB x.prob = false from f1]; simp
    rw [f1] at HS
    clear hdef
    go_enter Tryz.func124, Tryz.ntmps124
    go_upto_region 1 with fail
    rw [← hw0]
    clear hw0
    obtain ⟨c0, c1, c2⟩ := cel3C HC0.out
    go_wp2_with fail
    refine (HR.out w0).mono ?_
    rintro e w1 ⟨rfl, rfl⟩
    go_wp2_with fail
    refine (HS.out _).mono ?_
    rintro e w1 ⟨rfl, rfl⟩
    go_wp2
    go_ret
    exact ⟨ret_bool H.out.symm, HB.out⟩
  | true =>
  rw [f1] at HS
  by_cases g2 : (x.n : Int) > 4
  · have H : Hid (wrongC x.cf = true) := by show _ = _; rw [hdef, f0, show spanB x.prob = true from f1, decide_eq_true (show 4 < x.cf.nets.length by rw [HL.out]; omega)]; simp
    clear hdef
    go_enter Tryz.func124, Tryz.ntmps124
    go_upto_region 1 with fail
    rw [← hw0]
    clear hw0
    obtain ⟨c0, c1, c2⟩ := cel3C HC0.out
    go_wp2_with fail
    refine (HR.out w0).mono ?_
    rintro e w1 ⟨rfl, rfl⟩
    go_wp2_with fail
    refine (HS.out _).mono ?_
    rintro e w1 ⟨rfl, rfl⟩
    go_wp2
    go_ret
    exact ⟨ret_bool H.out.symm, HB.out⟩
  have K2 : Hid (decide ((4 : Int) < x.n) = false) := decide_eq_false g2
  have H : Hid (wrongC x.cf = (netsOf x.ns).any fun n => !sizeN n) := by show _ = _; rw [hdef, f0, show spanB x.prob = true from f1, decide_eq_false (show ¬ 4 < x.cf.nets.length by rw [HL.out]; omega)]; simp
  clear hdef
  go_enter Tryz.func124, Tryz.ntmps124
  go_upto_region 1 with fail
  rw [← hw0]
  clear hw0
  obtain ⟨c0, c1, c2⟩ := cel3C HC0.out
  go_wp2_with fail
  refine (HR.out w0).mono ?_
  rintro e w1 ⟨rfl, rfl⟩
  go_wp2_with fail
  refine (HS.out _).mono ?_
  rintro e w1 ⟨rfl, rfl⟩
  go_wp2_with fail
  refine HN.out.mono ?_
  rintro e w1 ⟨rfl, hb1⟩
  go_wp2
  go_ret
  exact ⟨ret_bool (by rw [H.out, K2.out]; rfl), HB.out.trans (hb1.mono HB.out.size)⟩
set_option maxHeartbeats 4000000 in
theorem check1_any (x : Cx) (p : Px) (pn rn U g : Nat) (w : World) (hok : p.x.ok U w pn rn) (hU : U ≤ w.heap.size) (hg : g < w.heap.size) (hc : Cel w g 24 x.cs) (hf : fairB p.x.base p.x.bits = true) :
    Calls Tryz.prog 127 #[p.v pn rn, .pointer (some ⟨g, 0, none⟩)] w (isB (strayB p.x.s || takesB p.x.s x.server) w) := by
  obtain ⟨w0, hw0, hc0, hb0⟩ := boxed w p pn rn
  have hz : w0.heap.size = w.heap.size + 1 := by rw [hw0]; simp
  have HS := Lib.hid (strays_any p pn rn U w0 (hok.below (hb0.mono hU)) (by omega) hf)
  have HT := Lib.hid (fun w1 (h1 : Below w0.heap.size w0 w1) => takes_any p pn rn U x.server w1 ((hok.below (hb0.mono hU)).below (h1.mono (by omega))) (by have := h1.size; omega))
  have HB := Lib.hid hb0
  have HC0 := Lib.hid hc0
  have HG := Lib.hid (hc.below hb0 hg)
  clear hok hU hg hc hf hc0 hb0 hz
  cases h1 : strayB p.x.s with
  | true =>
    rw [h1] at HS
    clear h1
    go_enter Tryz.func127, Tryz.ntmps127
    go_wp2_with fail
    rw [← hw0]
    clear hw0
    refine HS.out.mono ?_
    rintro e w1 ⟨rfl, hb1⟩
    go_wp2
    go_ret
    exact ⟨rfl, HB.out.trans (hb1.mono HB.out.size)⟩
  | false =>
    rw [h1] at HS
    clear h1
    go_enter Tryz.func127, Tryz.ntmps127
    go_wp2_with fail
    rw [← hw0]
    clear hw0
    refine HS.out.mono ?_
    rintro e w1 ⟨rfl, hb1⟩
    obtain ⟨c0, c1, c2, c3, c4, c5, c6, c7, c8⟩ := cel9 (HC0.out.below hb1 HC0.out.lt)
    obtain ⟨d0, d1, d2⟩ := cel3C (HG.out.below hb1 HG.out.lt)
    have HB1 := Lib.hid (HB.out.trans (hb1.mono HB.out.size))
    have HTT := Lib.hid (HT.out w1 hb1)
    clear hb1
    go_wp2_with fail
    refine HTT.out.mono ?_
    rintro e w2 ⟨rfl, hb2⟩
    go_wp2
    go_ret
    exact ⟨rfl, HB1.out.trans (hb2.mono HB1.out.size)⟩
set_option maxHeartbeats 1000000 in
theorem pooled_any (p : Px) (pn rn U : Nat) (w : World) (hok : p.x.ok U w pn rn) (hU : U ≤ w.heap.size) : Calls Tryz.prog 192 #[p.v pn rn] w (isB (pooledB p.x.s) w) := by
  obtain ⟨w0, hw0, _, hb0⟩ := boxed w p pn rn
  have hz : w0.heap.size = w.heap.size + 1 := by rw [hw0]; simp
  have HC := Lib.hid (any2P 194 (fun args W => by rfl) plMeet p.x.pA pn p.x.pc U p.x.pools w0 (hok.p.below (hb0.mono hU)) (by omega) (fun a _ b _ W => plMeet_any a b W))
  have HB := Lib.hid hb0
  clear hok hU hb0 hz
  go_enter Tryz.func192, Tryz.ntmps192
  go_wp2_with fail
  rw [← hw0]
  clear hw0
  refine HC.out.mono ?_
  rintro e w1 ⟨rfl, hb1⟩
  go_wp2
  go_ret
  exact ⟨rfl, HB.out.trans (hb1.mono HB.out.size)⟩
theorem ok_of {U V n c pn rn : Nat} {w W : World} {A : Option Addr} {ps : List Px} {p : Px} (h : RdPx U w A n c ps) (hp : p ∈ ps) (h1 : p.x.pools.length = pn) (h2 : p.x.res.length = rn) (hV : U ≤ V) (hb : Below V w W) : p.x.ok U W pn rn := by
  subst h1 h2
  exact (h.2 p hp).below (hb.mono hV)
set_option maxHeartbeats 4000000 in
theorem clash_any (A : Option Addr) (n c U : Nat) (ps : List Px) (w : World) (h : RdPx U w A n c ps) (hU : U ≤ w.heap.size) (hn : n ≤ 100) (hs : ∀ p ∈ ps, p.x.res.length ≤ 20) :
    Calls Tryz.prog 130 #[.slice A n c] w (isB (twiceL (ps.map Px.ns)) w) := by
  have H1 := Lib.hid (any2X 188 (fun args W => by rfl) (fun a b => snClash a.ns b.ns) A n c U ps w h hU (fun a _ b _ pn rn qn sn W => pnClash_any a b pn rn qn sn W))
  rw [← pair_map (p := fun a b : Px => snClash a.ns b.ns) (q := snClash) Px.ns (fun _ _ => rfl) ps] at H1
  have H2 := Lib.hid (fun w1 (b1 : Below w.heap.size w w1) => reserves_any A n c U ps w1 (h.below (b1.mono hU)) (Nat.le_trans hU b1.size) hn hs)
  have H3 := Lib.hid (fun w1 A2 n2 c2 (r2 : RdKx w1.heap.size w1 A2 n2 c2 (kxF ps)) => any2K 191 (fun args W => by rfl) (fun a b => rsClash a.nr b.nr) A2 n2 c2 w1.heap.size (kxF ps) w1 r2 (Nat.le_refl _) (fun a _ b _ W => rsClash_any a b W))
  rw [← pair_map (p := fun a b : Kx => rsClash a.nr b.nr) (q := rsClash) Kx.nr (fun _ _ => rfl) (kxF ps), kxF_nr] at H3
  have H4 := Lib.hid (fun w1 (b1 : Below w.heap.size w w1) => hasX 192 (fun args W => by rfl) #[] (fun p => pooledB p.x.s) A n c U ps w1 (h.below (b1.mono hU)) (Nat.le_trans hU b1.size)
    (fun p hp pn rn e1 e2 W hW => by rw [app0]; exact pooled_any p pn rn U W (ok_of (h.below (b1.mono hU)) hp e1 e2 (Nat.le_trans hU b1.size) hW) (Nat.le_trans hU (Nat.le_trans b1.size hW.size))))
  have HT : Hid ((pairB snClash (ps.map Px.ns) || pairB rsClash (resA (ps.map Px.ns)) || ps.any fun p => pooledB p.x.s) = twiceL (ps.map Px.ns)) := by
    show _ = _
    rw [← twice_code, List.any_map]
    rfl
  clear h hU hn hs
  cases h1 : pairB snClash (ps.map Px.ns) with
  | true =>
    rw [h1] at H1 HT
    clear h1
    go_enter Tryz.func130, Tryz.ntmps130
    go_wp2_with fail
    refine H1.out.mono ?_
    rintro e w1 ⟨rfl, hb1⟩
    go_wp2
    go_ret
    exact ⟨ret_bool HT.out, hb1⟩
  | false =>
  rw [h1] at H1 HT
  clear h1
  cases h2 : pairB rsClash (resA (ps.map Px.ns)) with
  | true =>
    rw [h2] at H3 HT
    clear h2
    go_enter Tryz.func130, Tryz.ntmps130
    go_wp2_with fail
    refine H1.out.mono ?_
    rintro e w1 ⟨rfl, hb1⟩
    go_wp2_with fail
    refine (H2.out w1 hb1).mono ?_
    rintro e w2 ⟨A2, n2, c2, rfl, r2, hb2⟩
    have HB2 := Lib.hid (hb1.trans (hb2.mono hb1.size))
    go_wp2_with fail
    refine (H3.out w2 A2 n2 c2 r2).mono ?_
    rintro e w3 ⟨rfl, hb3⟩
    go_wp2
    go_ret
    exact ⟨ret_bool HT.out, HB2.out.trans (hb3.mono HB2.out.size)⟩
  | false =>
    rw [h2] at H3 HT
    clear h2
    go_enter Tryz.func130, Tryz.ntmps130
    go_wp2_with fail
    refine H1.out.mono ?_
    rintro e w1 ⟨rfl, hb1⟩
    go_wp2_with fail
    refine (H2.out w1 hb1).mono ?_
    rintro e w2 ⟨A2, n2, c2, rfl, r2, hb2⟩
    have HB2 := Lib.hid (hb1.trans (hb2.mono hb1.size))
    go_wp2_with fail
    refine (H3.out w2 A2 n2 c2 r2).mono ?_
    rintro e w3 ⟨rfl, hb3⟩
    have HB3 := Lib.hid (HB2.out.trans (hb3.mono HB2.out.size))
    go_wp2_with fail
    refine (H4.out w3 HB3.out).mono ?_
    rintro e w4 ⟨rfl, hb4⟩
    go_wp2
    go_ret
    exact ⟨ret_bool HT.out, HB3.out.trans (hb4.mono HB3.out.size)⟩
end Go.Proofs.YtoldppbakapohaaGreatDoor.Vw
end
/- What conf's Check comes to: what is wrong with a configuration; and known: the subnets in which something may be found. Condition: it is small (boarderlaw13's Great is false). -/
section
set_option maxRecDepth 8000
namespace Go.Proofs.YtoldppbakapohaaGreatDoor.Vw
open Go.RowKit By Cf Ad Ky
open Dw (ba ba_size ba_data ba_list alloc_more)

/-- The answer is a number; what was in memory stays. -/
def isI (z : Int) (w : World) (e : Ending) (w' : World) : Prop := e = .returned (.int .i64 z) ∧ Below w.heap.size w w'
theorem flat_px (ns : List Nx) : flatN 0 (netsOf ns) = (pxF 0 ns).map Px.ns := (pxF_ns 0 ns).symm
theorem px_any (f : Nat × Sn → Bool) (ns : List Nx) : (flatN 0 (netsOf ns)).any f = (pxF 0 ns).any fun p => f p.ns := by rw [flat_px, List.any_map]; rfl
theorem mem_px {ns : List Nx} {p : Px} (h : p ∈ pxF 0 ns) : ∃ n ∈ netsOf ns, p.x.s ∈ n := by
  obtain ⟨y, hy, hp⟩ := mem_pxF h
  exact ⟨y.l, List.mem_map.2 ⟨y, hy, rfl⟩, List.mem_map.2 ⟨p.x, hp, rfl⟩⟩
theorem small_res {x : Cx} (hS : Small x.cf) : ∀ p ∈ pxF 0 x.ns, p.x.res.length ≤ 20 := fun p hp => by
  obtain ⟨n, hn, hs⟩ := mem_px hp
  exact hS.res n hn p.x.s hs
theorem small_sns {x : Cx} (hS : Small x.cf) : ∀ y ∈ x.ns, y.xs.length ≤ 10 := fun y hy => by
  have := hS.sns y.l (List.mem_map.2 ⟨y, hy, rfl⟩)
  rwa [show y.l.length = y.xs.length from sns_len y.xs] at this
theorem small_n {x : Cx} {U : Nat} {w : World} (h : x.ok U w) (hS : Small x.cf) : x.n ≤ 10 := by rw [← h.nets]; exact hS.nets
theorem small_px {x : Cx} {U : Nat} {w : World} (h : x.ok U w) (hS : Small x.cf) : (pxF 0 x.ns).length ≤ 100 := by
  have := pxF_len x.ns 0 (small_sns hS)
  have := small_n h hS
  have := h.len
  omega
set_option maxHeartbeats 4000000 in
theorem check_any (x : Cx) (U : Nat) (w : World) (h : x.ok U w) (hU : U ≤ w.heap.size) (hS : Small x.cf) : Calls Tryz.prog 75 #[x.v] w (isI (checkC x.cf) w) := by
  obtain ⟨w0, hw0, hc0, hb0⟩ := boxedC w x
  have hz : w0.heap.size = w.heap.size + 1 := by rw [hw0]; simp
  have h0 := h.below (hb0.mono hU)
  have HA := Lib.hid (subnets_any x U w0 h0 (by omega) (small_n h hS) (small_sns hS))
  have HWC := Lib.hid (fun w1 (b1 : Below w0.heap.size w0 w1) => wrongC_any x U w1 (h0.below (b1.mono (by omega))) (by have := b1.size; omega))
  have HF : Hid ((!formC x.cf) = (wrongC x.cf || (pxF 0 x.ns).any fun p => !snF p.x.s)) := by
    show _ = _
    rw [form_code, show x.cf.nets = netsOf x.ns from rfl, px_any]
    rfl
  have HPC : Hid ((!placesC x.cf) = (pxF 0 x.ns).any fun p => strayB p.x.s || takesB p.x.s x.server) := by
    show _ = _
    rw [places_code, show x.cf.nets = netsOf x.ns from rfl, px_any]
    rfl
  have HTW : Hid (twiceC x.cf = twiceL ((pxF 0 x.ns).map Px.ns)) := by
    show _ = _
    unfold twiceC
    rw [show x.cf.nets = netsOf x.ns from rfl, flat_px]
  have HX1 := Lib.hid (fun w1 w2 A n c (r1 : RdPx w1.heap.size w1 A n c (pxF 0 x.ns)) (b2 : Below w1.heap.size w1 w2) => hasX 126 (fun args W => by rfl) #[] (fun p => !snF p.x.s) A n c w1.heap.size (pxF 0 x.ns) w2 (r1.below b2) b2.size
    (fun p hp pn rn e1 e2 W hW => by rw [app0]; exact wrong_any p pn rn w1.heap.size W (ok_of (r1.below b2) hp e1 e2 b2.size hW) (Nat.le_trans b2.size hW.size)))
  have HX2 := Lib.hid (fun w1 w2 A n c (hf : ((pxF 0 x.ns).any fun p => !snF p.x.s) = false) (b0 : Below w0.heap.size w0 w2) (r1 : RdPx w1.heap.size w1 A n c (pxF 0 x.ns)) (b2 : Below w1.heap.size w1 w2) => hasX 127 (fun args W => by rfl) #[.pointer (some ⟨w.heap.size, 0, none⟩)] (fun p => strayB p.x.s || takesB p.x.s x.server) A n c w1.heap.size (pxF 0 x.ns) w2 (r1.below b2) b2.size
    (fun p hp pn rn e1 e2 W hW => by
      rw [app1]
      have hfp : snF p.x.s = true := by
        have := List.any_eq_false.1 hf p hp
        simpa using this
      exact check1_any x p pn rn w1.heap.size _ W (ok_of (r1.below b2) hp e1 e2 b2.size hW) (Nat.le_trans b2.size hW.size) (by have := b0.size; have := hW.size; omega) ((hc0.below b0 hc0.lt).below hW (Nat.lt_of_lt_of_le hc0.lt b0.size)) (sn_fair hfp)))
  have HX3 := Lib.hid (fun w1 w2 A n c (r1 : RdPx w1.heap.size w1 A n c (pxF 0 x.ns)) (b2 : Below w1.heap.size w1 w2) => clash_any A n c w1.heap.size (pxF 0 x.ns) w2 (r1.below b2) b2.size (by have := r1.len; have := small_px h hS; omega) (small_res hS))
  have HB := Lib.hid hb0
  have HC0 := Lib.hid hc0
  have hdef : checkC x.cf = if formC x.cf = true then (if placesC x.cf = true then (if twiceC x.cf = true then 8 else 0) else 9) else 1 := rfl
  clear h hU hS hc0 hb0 hz h0
  cases f1 : wrongC x.cf with
  | true =>
    have H : Hid (checkC x.cf = 1) := by
      show _ = _
      have hf : formC x.cf = false := by have := HF.out; rw [f1] at this; simpa using this
      rw [hdef, hf]
      rfl
    rw [f1] at HWC
    clear f1 hdef
    go_enter Tryz.func75, Tryz.ntmps75
    go_wp2_with fail
    rw [← hw0]
    clear hw0
    refine HA.out.mono ?_
    rintro e w1 ⟨A, n, c, rfl, r1, hb1⟩
    obtain ⟨c0, c1, c2⟩ := cel3C (HC0.out.below hb1 HC0.out.lt)
    have HB1 := Lib.hid (HB.out.trans (hb1.mono HB.out.size))
    have HW1 := Lib.hid (HWC.out w1 hb1)
    clear hb1
    go_wp2_with fail
    refine HW1.out.mono ?_
    rintro e w2 ⟨rfl, hb2⟩
    go_wp2
    go_ret
    exact ⟨ret_int H.out.symm, HB1.out.trans (hb2.mono HB1.out.size)⟩
  | false =>
  rw [f1] at HWC
  cases f2 : ((pxF 0 x.ns).any fun p => !snF p.x.s) with
  | true =>
    have H : Hid (checkC x.cf = 1) := by
      show _ = _
      have hf : formC x.cf = false := by have := HF.out; rw [f1, f2] at this; simpa using this
      rw [hdef, hf]
      rfl
    rw [f2] at HX1
    clear f1 f2 hdef
    go_enter Tryz.func75, Tryz.ntmps75
    go_wp2_with fail
    rw [← hw0]
    clear hw0
    refine HA.out.mono ?_
    rintro e w1 ⟨A, n, c, rfl, r1, hb1⟩
    obtain ⟨c0, c1, c2⟩ := cel3C (HC0.out.below hb1 HC0.out.lt)
    have HB1 := Lib.hid (HB.out.trans (hb1.mono HB.out.size))
    have HW1 := Lib.hid (HWC.out w1 hb1)
    clear hb1
    go_wp2_with fail
    refine HW1.out.mono ?_
    rintro e w2 ⟨rfl, hb2⟩
    have HB2 := Lib.hid (HB1.out.trans (hb2.mono HB1.out.size))
    have HY := Lib.hid (HX1.out w1 w2 A n c r1 hb2)
    clear hb2
    go_wp2_with fail
    refine HY.out.mono ?_
    rintro e w3 ⟨rfl, hb3⟩
    go_wp2
    go_ret
    exact ⟨ret_int H.out.symm, HB2.out.trans (hb3.mono HB2.out.size)⟩
  | false =>
  have hf : formC x.cf = true := by have := HF.out; rw [f1, f2] at this; simpa using this
  have HX2F := Lib.hid (fun w1 w2 A n c => HX2.out w1 w2 A n c f2)
  rw [f2] at HX1
  clear f1 f2 HX2
  cases f3 : ((pxF 0 x.ns).any fun p => strayB p.x.s || takesB p.x.s x.server) with
  | true =>
    have H : Hid (checkC x.cf = 9) := by
      show _ = _
      have hp : placesC x.cf = false := by have := HPC.out; rw [f3] at this; simpa using this
      rw [hdef, hf, hp]
      rfl
    rw [f3] at HX2F
    clear f3 hdef hf
    go_enter Tryz.func75, Tryz.ntmps75
    go_wp2_with fail
    rw [← hw0]
    clear hw0
    refine HA.out.mono ?_
    rintro e w1 ⟨A, n, c, rfl, r1, hb1⟩
    obtain ⟨c0, c1, c2⟩ := cel3C (HC0.out.below hb1 HC0.out.lt)
    have HBa := Lib.hid hb1
    have HB1 := Lib.hid (HB.out.trans (hb1.mono HB.out.size))
    have HW1 := Lib.hid (HWC.out w1 hb1)
    clear hb1
    go_wp2_with fail
    refine HW1.out.mono ?_
    rintro e w2 ⟨rfl, hb2⟩
    have HB2 := Lib.hid hb2
    have HY := Lib.hid (HX1.out w1 w2 A n c r1 hb2)
    clear hb2
    go_wp2_with fail
    refine HY.out.mono ?_
    rintro e w3 ⟨rfl, hb3⟩
    have hb13 := HB2.out.trans (hb3.mono HB2.out.size)
    have HY2 := Lib.hid (HX2F.out w1 w3 A n c (HBa.out.trans (hb13.mono HBa.out.size)) r1 hb13)
    have HB3 := Lib.hid (HB1.out.trans (hb13.mono HB1.out.size))
    clear hb3 hb13
    go_wp2_with fail
    refine HY2.out.mono ?_
    rintro e w4 ⟨rfl, hb4⟩
    go_wp2
    go_ret
    exact ⟨ret_int H.out.symm, HB3.out.trans (hb4.mono HB3.out.size)⟩
  | false =>
  have hp : placesC x.cf = true := by have := HPC.out; rw [f3] at this; simpa using this
  rw [f3] at HX2F
  rw [← HTW.out] at HX3
  clear f3
  cases f4 : twiceC x.cf with
  | true =>
    have H : Hid (checkC x.cf = 8) := by
      show _ = _
      rw [hdef, hf, hp, f4]
      rfl
    rw [f4] at HX3
    clear f4 hdef hf hp
    go_enter Tryz.func75, Tryz.ntmps75
    go_wp2_with fail
    rw [← hw0]
    clear hw0
    refine HA.out.mono ?_
    rintro e w1 ⟨A, n, c, rfl, r1, hb1⟩
    obtain ⟨c0, c1, c2⟩ := cel3C (HC0.out.below hb1 HC0.out.lt)
    have HBa := Lib.hid hb1
    have HB1 := Lib.hid (HB.out.trans (hb1.mono HB.out.size))
    have HW1 := Lib.hid (HWC.out w1 hb1)
    clear hb1
    go_wp2_with fail
    refine HW1.out.mono ?_
    rintro e w2 ⟨rfl, hb2⟩
    have HB2 := Lib.hid hb2
    have HY := Lib.hid (HX1.out w1 w2 A n c r1 hb2)
    clear hb2
    go_wp2_with fail
    refine HY.out.mono ?_
    rintro e w3 ⟨rfl, hb3⟩
    have hb13 := HB2.out.trans (hb3.mono HB2.out.size)
    have HB13 := Lib.hid hb13
    have HY2 := Lib.hid (HX2F.out w1 w3 A n c (HBa.out.trans (hb13.mono HBa.out.size)) r1 hb13)
    clear hb3 hb13
    go_wp2_with fail
    refine HY2.out.mono ?_
    rintro e w4 ⟨rfl, hb4⟩
    have hb14 := HB13.out.trans (hb4.mono HB13.out.size)
    have HY3 := Lib.hid (HX3.out w1 w4 A n c r1 hb14)
    have HB4 := Lib.hid (HB1.out.trans (hb14.mono HB1.out.size))
    clear hb4 hb14
    go_wp2_with fail
    refine HY3.out.mono ?_
    rintro e w5 ⟨rfl, hb5⟩
    go_wp2
    go_ret
    exact ⟨ret_int H.out.symm, HB4.out.trans (hb5.mono HB4.out.size)⟩
  | false =>
    have H : Hid (checkC x.cf = 0) := by
      show _ = _
      rw [hdef, hf, hp, f4]
      rfl
    rw [f4] at HX3
    clear f4 hdef hf hp
    go_enter Tryz.func75, Tryz.ntmps75
    go_wp2_with fail
    rw [← hw0]
    clear hw0
    refine HA.out.mono ?_
    rintro e w1 ⟨A, n, c, rfl, r1, hb1⟩
    obtain ⟨c0, c1, c2⟩ := cel3C (HC0.out.below hb1 HC0.out.lt)
    have HBa := Lib.hid hb1
    have HB1 := Lib.hid (HB.out.trans (hb1.mono HB.out.size))
    have HW1 := Lib.hid (HWC.out w1 hb1)
    clear hb1
    go_wp2_with fail
    refine HW1.out.mono ?_
    rintro e w2 ⟨rfl, hb2⟩
    have HB2 := Lib.hid hb2
    have HY := Lib.hid (HX1.out w1 w2 A n c r1 hb2)
    clear hb2
    go_wp2_with fail
    refine HY.out.mono ?_
    rintro e w3 ⟨rfl, hb3⟩
    have hb13 := HB2.out.trans (hb3.mono HB2.out.size)
    have HB13 := Lib.hid hb13
    have HY2 := Lib.hid (HX2F.out w1 w3 A n c (HBa.out.trans (hb13.mono HBa.out.size)) r1 hb13)
    clear hb3 hb13
    go_wp2_with fail
    refine HY2.out.mono ?_
    rintro e w4 ⟨rfl, hb4⟩
    have hb14 := HB13.out.trans (hb4.mono HB13.out.size)
    have HY3 := Lib.hid (HX3.out w1 w4 A n c r1 hb14)
    have HB4 := Lib.hid (HB1.out.trans (hb14.mono HB1.out.size))
    clear hb4 hb14
    go_wp2_with fail
    refine HY3.out.mono ?_
    rintro e w5 ⟨rfl, hb5⟩
    go_wp2
    go_ret
    exact ⟨ret_int H.out.symm, HB4.out.trans (hb5.mono HB4.out.size)⟩
set_option maxHeartbeats 2000000 in
/-- What is known of a configuration: its subnets, if it is valid. -/
theorem known_any (x : Cx) (U : Nat) (w : World) (h : x.ok U w) (hU : U ≤ w.heap.size) (hS : Small x.cf) : Calls Tryz.prog 208 #[x.v] w (PlR w (if checkC x.cf = 0 then pxF 0 x.ns else [])) := by
  obtain ⟨w0, hw0, hc0, hb0⟩ := boxedC w x
  have hz : w0.heap.size = w.heap.size + 1 := by rw [hw0]; simp
  have h0 := h.below (hb0.mono hU)
  have HK := Lib.hid (check_any x U w0 h0 (by omega) hS)
  have HA := Lib.hid (fun w1 (b1 : Below w0.heap.size w0 w1) => subnets_any x U w1 (h0.below (b1.mono (by omega))) (by have := b1.size; omega) (small_n h hS) (small_sns hS))
  have HB := Lib.hid hb0
  have HC0 := Lib.hid hc0
  clear h hU hS hc0 hb0 hz h0
  by_cases hk : checkC x.cf = 0
  · rw [if_pos hk]
    rw [hk] at HK
    clear hk
    go_enter Tryz.func208, Tryz.ntmps208
    go_wp2_with fail
    rw [← hw0]
    clear hw0
    refine HK.out.mono ?_
    rintro e w1 ⟨rfl, hb1⟩
    obtain ⟨c0, c1, c2⟩ := cel3C (HC0.out.below hb1 HC0.out.lt)
    have HB1 := Lib.hid (HB.out.trans (hb1.mono HB.out.size))
    have HA1 := Lib.hid (HA.out w1 hb1)
    clear hb1
    go_wp2_with fail
    refine HA1.out.mono ?_
    rintro e w2 ⟨A, n, c, rfl, r2, hb2⟩
    go_wp2
    go_ret
    exact ⟨A, n, c, rfl, r2, HB1.out.trans (hb2.mono HB1.out.size)⟩
  · rw [if_neg hk]
    have hkz : (checkC x.cf == 0) = false := by simpa using hk
    have hkn : (checkC x.cf != 0) = true := by rw [bne, hkz]; rfl
    clear hk
    go_enter Tryz.func208, Tryz.ntmps208
    go_wp2_with fail
    rw [← hw0]
    clear hw0
    refine HK.out.mono ?_
    rintro e w1 ⟨rfl, hb1⟩
    go_wp2
    go_ret
    exact ⟨none, 0, 0, rfl, ⟨RdG.nil _ _, fun p hp => by cases hp⟩, HB.out.trans (hb1.mono HB.out.size)⟩
end Go.Proofs.YtoldppbakapohaaGreatDoor.Vw
end
