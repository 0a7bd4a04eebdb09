/- What the document's own Flat and Pooled come to. Conditions: the configuration reads; for Flat, at most ten networks of ten subnets each. -/
import Derived.Test.YtoilljilndmmfaaVwRf3
set_option maxRecDepth 8000
namespace Go.Proofs.Ytoilljilndmmfaa.Vw
open Go.RowKit By Cf Ad Ky
open Dw (ba ba_size ba_data ba_list alloc_more)

/-! ### Rows of numbers -/
def layI : Lay Nat := ⟨1, fun n => [.int .i64 (n : Int)], fun _ => rfl, fun e u hu => by
  simp only [List.mem_cons, List.not_mem_nil, or_false] at hu
  rcases hu with rfl; rfl⟩
abbrev RdI (U : Nat) (w : World) (A : Option Addr) (n c : Nat) (l : List Nat) : Prop := RdG layI U w A n c l
theorem intP : RgP Try.prog 66 3 layI (.int .i64 0) 8 := ⟨Try.underlying66, by kernel_rfl⟩
theorem snP : RgP Try.prog 39 45 layS (.agg #[.int .i64 0, .int .i64 0, .slice none 0 0, .slice none 0 0, .int .i64 0, .int .i64 0, .int .i64 0]) 88 := ⟨Try.underlying39, by kernel_rfl⟩
theorem rsP : RgP Try.prog 43 47 layR (.agg #[.string ⟨#[]⟩, .int .i64 0]) 24 := ⟨Try.underlying43, by kernel_rfl⟩
theorem atI {U : Nat} {w : World} {A : Option Addr} {n c : Nat} {l : List Nat} (h : RdI U w A n c l) {k : Nat} (hk : k < n) : ∃ b o i, A = some ⟨b, o, none⟩ ∧ b < U ∧ Hid (l[k]? = some i) ∧ w.cell? ⟨b, o + k, none⟩ = some (.int .i64 (i : Int)) := by
  obtain ⟨b, o, e, hU, i, hl, hc⟩ := h.at_ hk
  refine ⟨b, o, i, e, hU, hl, ?_⟩
  have := hc 0 _ rfl
  rw [show o + k * layI.s + 0 = o + k from by show o + k * 1 + 0 = o + k; omega] at this
  exact this
/-- Two rows of different element types do not share a block: what is done to one leaves the other. -/
theorem rowsApart {w : World} {e e' B B' s s' n n' : Nat} {A A' : Option Addr} {c c' : Nat} {xs ys : List Value} (hne : e ≠ e') (h : w.ownsRow B e s (.slice A n c) n xs) (h' : w.ownsRow B' e' s' (.slice A' n' c') n' ys) :
    (Value.slice A n c).ownBlock = none ∨ (Value.slice A n c).ownBlock ≠ (Value.slice A' n' c').ownBlock := by
  rcases h.2 with ⟨e1, _⟩ | ⟨g, cap, cur, e1, _, hg, _⟩
  · rw [e1]; exact .inl rfl
  · rcases h'.2 with ⟨e2, _⟩ | ⟨g', cap', cur', e2, _, hg', _⟩
    · rw [e1, e2]; exact .inr (by simp [Value.ownBlock])
    · rw [e1, e2]
      refine .inr fun k => ?_
      simp [Value.ownBlock] at k
      subst k
      rw [hg] at hg'
      injection hg' with hg'
      injection hg' with _ ht
      exact hne ht
theorem ownG_grown {α β : Type} {Y : Lay α} {Z : Lay β} {e e' B B' n n' c c' : Nat} {A A' : Option Addr} {l : List α} {m : List β} {w w' : World} (hne : e ≠ e') (h : OwnG Y e B w A n c l) (h' : OwnG Z e' B' w A' n' c' m) (hg : w.grownBy w' (Value.slice A' n' c').ownBlock) : OwnG Y e B w' A n c l :=
  ⟨World.ownsRow.kept h.1 hg (rowsApart hne h.1 h'.1), h.2⟩
theorem litSx (w : World) (x : Sx) {pn rn : Nat} (hp : x.pools.length = pn) (hr : x.res.length = rn) : RdG layS (w.heap.size + 1) (w.alloc (.cells (x.cs pn rn) 45)) (some ⟨w.heap.size, 0, none⟩) 1 1 [x] := by
  subst hp hr
  have := (OwnG.lit (Y := layS) 45 w [x] (by simp)).rd
  have e : (w.alloc (.cells (layS.cells [x]).toArray 45)).heap.size = w.heap.size + 1 := by simp
  rw [e, layS.cells_one] at this
  exact this
theorem litI (w : World) (i : Nat) : RdI (w.heap.size + 1) (w.alloc (.cells #[.int .i64 (i : Int)] 3)) (some ⟨w.heap.size, 0, none⟩) 1 1 [i] := by
  have := (OwnG.lit (Y := layI) 3 w [i] (by simp)).rd
  have e : (w.alloc (.cells (layI.cells [i]).toArray 3)).heap.size = w.heap.size + 1 := by simp
  rw [e, layI.cells_one] at this
  exact this
/-- What Flat answers: all subnets, and of each its network. -/
def FlR (w : World) (ps : List Px) (e : Ending) (w' : World) : Prop := ∃ A1 c1 A2 c2 n, e = .returned (.tuple #[.slice A1 n c1, .slice A2 n c2]) ∧ RdSx w'.heap.size w' A1 n c1 (ps.map Px.x) ∧ RdI w'.heap.size w' A2 n c2 (ps.map Px.net) ∧ Below w.heap.size w w'
set_option maxHeartbeats 8000000 in
theorem refFlat_any (x : Cx) (U : Nat) (w : World) (h : x.ok U w) (hU : U ≤ w.heap.size) (hn : x.n ≤ 10) (hs : ∀ y ∈ x.ns, y.xs.length ≤ 10) : Calls Try.prog 42 #[x.v] w (FlR w (pxF 0 x.ns)) := by
  obtain ⟨w0, hw0, hc0, hb0⟩ := boxedC w x
  obtain ⟨srv, prob, A, n, c, ns⟩ := x
  have HX : Hid (RdNx U w A n c ns) := h.rd
  have HL : Hid (ns.length = n) := h.rd.len
  have HUU := Lib.hid hU
  have hcp : n ≤ c := h.rd.cap
  have hmx : c ≤ 9223372036854775807 := h.rd.max
  have HS : Hid (∀ y ∈ ns, y.xs.length ≤ 10) := hs
  replace hn : n ≤ 10 := hn
  have HB := Lib.hid hb0
  have HC0 : Hid (Cel w0 w.heap.size 24 #[.int .i64 srv, .int .i64 prob, .slice A n c]) := hc0
  show Calls _ _ #[.agg #[.int .i64 srv, .int .i64 prob, .slice A n c]] w (FlR w (pxF 0 ns))
  have hw0' : w0 = w.alloc (.cells #[.int .i64 srv, .int .i64 prob, .slice A n c] 24) := hw0
  clear h hU hc0 hb0 hw0 hs
  go_enter Try.func42, Try.ntmps42
  go_upto_region 1 with fail
  rw [← hw0']
  clear hw0'
  go_wp2_with fail
  go_loopw [4, 5, 6] (fun u v i wr => ∃ (k : Nat) (A1 : Option Addr) (c1 : Nat) (A2 : Option Addr) (c2 : Nat) (ps : List Px), k ≤ n ∧ ps.length ≤ 10 * k ∧ i = .int .i64 k ∧ u = .slice A1 ps.length c1 ∧ v = .slice A2 ps.length c2 ∧ Hid (OwnG layS 45 w0.heap.size wr A1 ps.length c1 (ps.map Px.x)) ∧ Hid (OwnG layI 3 w0.heap.size wr A2 ps.length c2 (ps.map Px.net)) ∧ Hid (ps = pxF 0 (ns.take k)) ∧ Hid (Below w0.heap.size w0 wr)) (fun _ _ i _ => n - (intOf i).toNat)
  case atStart => exact ⟨0, none, 0, none, 0, [], by omega, Nat.le_refl _, rfl, rfl, rfl, OwnG.nil _ _ _, OwnG.nil _ _ _, rfl, Below.refl _ _⟩
  case round =>
    obtain ⟨k, A1, c1, A2, c2, ps, hk, hkl, rfl, rfl, rfl, HO1, HO2, HE, HB2⟩ := hrel
    have HBW := Lib.hid (HB.out.trans (HB2.out.mono HB.out.size))
    obtain ⟨q0, q1, q2⟩ := celC (HC0.out.below HB2.out HC0.out.lt)
    by_cases hlt : k < n
    · obtain ⟨b, o, y, m, rfl, hbU, HA, hy, n0⟩ := atN HX.out hlt
      have hkz : (k : Int) < (n : Int) := by omega
      have hm10 : m ≤ 10 := by have := HS.out y (List.mem_of_getElem? HA.out); have := hy.len; omega
      have HY0 := Lib.hid hy
      have hyc := hy.cap
      have hym := hy.max
      have HN0 : Hid (∀ W, Below w.heap.size w W → W.cell? ⟨b, o + k, none⟩ = some (.slice y.A m y.c)) := fun W hW => (hW.cell (p := ⟨b, o + k, none⟩) (Nat.lt_of_lt_of_le hbU HUU.out)).trans n0
      clear hy n0
      obtain ⟨yA, yc, xs⟩ := y
      have HY : Hid (RdSx U w yA m yc xs) := HY0
      have HN : Hid (∀ W, Below w.heap.size w W → W.cell? ⟨b, o + k, none⟩ = some (.slice yA m yc)) := HN0
      replace hyc : m ≤ yc := hyc
      replace hym : yc ≤ 9223372036854775807 := hym
      clear HY0 HN0
      have n0 := HN.out wr HBW.out
      go_wp2_with fail
      clear q0 q1 q2 n0
      go_loopw [4, 5, 7] (fun u v i wr => ∃ (j : Nat) (A3 : Option Addr) (c3 : Nat) (A4 : Option Addr) (c4 : Nat) (qs : List Px), j ≤ m ∧ qs.length ≤ 10 * k + j ∧ i = .int .i64 j ∧ u = .slice A3 qs.length c3 ∧ v = .slice A4 qs.length c4 ∧ Hid (OwnG layS 45 w0.heap.size wr A3 qs.length c3 (qs.map Px.x)) ∧ Hid (OwnG layI 3 w0.heap.size wr A4 qs.length c4 (qs.map Px.net)) ∧ Hid (qs = ps ++ pxN k (xs.take j)) ∧ Hid (Below w0.heap.size w0 wr)) (fun _ _ i _ => m - (intOf i).toNat)
      case atStart => exact ⟨0, A1, c1, A2, c2, ps, by omega, by omega, rfl, rfl, rfl, HO1.out, HO2.out, by simp [pxN, Hid], HB2.out⟩
      case round =>
        obtain ⟨j, A3, c3, A4, c4, qs, hj, hjl, rfl, rfl, rfl, HP1, HP2, HF, HB3⟩ := hrel
        have HBV := Lib.hid (HB.out.trans (HB3.out.mono HB.out.size))
        obtain ⟨q0, q1, q2⟩ := celC (HC0.out.below HB3.out HC0.out.lt)
        have n0 := HN.out wr HBV.out
        by_cases hlt2 : j < m
        · obtain ⟨b2, o2, x, pn, rn, rfl, hbU2, HD, hok, HP, HR, hsv⟩ := atS HY.out hlt2
          have hjz : (j : Int) < (m : Int) := by omega
          obtain ⟨s0, s1, s2, s3, s4, s5, s6⟩ := hsv.below (HBV.out.mono HUU.out) hbU2
          have hba : Below wr.heap.size wr (wr.alloc (.cells (x.cs pn rn) 45)) := alloc_more _ _
          have hown := HP1.out.below hba
          have hown2 := HP2.out.below hba
          have hlit := litSx wr x HP.out HR.out
          have hsz := HB3.out.size
          have HBA := Lib.hid (HB3.out.trans (hba.mono hsz))
          have HT : Hid (qs ++ [⟨x, k, j⟩] = ps ++ pxN k (xs.take (j + 1))) := by
            show _ = _
            rw [HF.out, take_at HD.out, pxN_snoc, List.append_assoc, List.length_take, Nat.min_eq_left (by have := HY.out.len; omega)]
          clear hok HP HR HD hsv hba
          go_upto_region 10 with (at_builtin; refine wpList_appG snP (by decide) (by decide) (by kernel_rfl) ?_ (.tmp 26) (.tmp 36) ?_ ?_ hown ?_ hlit (by omega) (by simp; omega) ?_; rfl; rfl; rfl; rfl; intro A5 c5 w5 happ)
          have HB5 := Lib.hid (HBA.out.trans happ.2.1)
          have hsz5 := HB5.out.size
          have hI5 := ownG_grown (by decide) hown2 hown happ.2.2.1
          have hba5 : Below w5.heap.size w5 (w5.alloc (.cells #[.int .i64 (k : Int)] 3)) := alloc_more _ _
          have HS6 := Lib.hid (happ.1.below hba5)
          have hI6 := hI5.below hba5
          have hlit2 := litI w5 k
          have HB6 := Lib.hid (HB5.out.trans (hba5.mono hsz5))
          clear happ hba5 hI5
          go_wp2_with (at_builtin; refine wpList_appG intP (by decide) (by decide) (by kernel_rfl) ?_ (.tmp 38) (.tmp 40) ?_ ?_ hI6 ?_ hlit2 (by omega) (by simp; omega) ?_; rfl; rfl; rfl; rfl; intro A7 c7 w7 happ7)
          go_roundw
          case rel =>
            refine ⟨j + 1, A5, c5, A7, c7, qs ++ [⟨x, k, j⟩], by omega, by rw [List.length_append]; simp; omega, by go_num, by rw [List.length_append]; rfl, by rw [List.length_append]; rfl, ?_, ?_, HT, HB6.out.trans happ7.2.1⟩
            · rw [List.length_append, List.map_append]
              exact ownG_grown (by decide) HS6.out hI6 happ7.2.2.1
            · rw [List.length_append, List.map_append]
              exact happ7.1
          case measure => simp [intOf]; omega
        · obtain rfl : j = m := by omega
          have HT : Hid (qs = pxF 0 (ns.take (k + 1))) := by
            show _ = _
            rw [HF.out, take_at HA.out, pxF_snoc, List.length_take, Nat.min_eq_left (by rw [HL.out]; omega), Nat.zero_add, ← HE.out, ← HY.out.len, List.take_length]
          have hjz : ¬ (j : Int) < (j : Int) := by omega
          clear hlt2 HE HA HF
          go_wp2
          go_roundw
          case rel => exact ⟨k + 1, A3, c3, A4, c4, qs, by omega, by omega, by go_num, rfl, rfl, HP1.out, HP2.out, HT.out, HB3.out⟩
          case measure => simp [intOf]; omega
    · obtain rfl : k = n := by omega
      have HT : Hid (ps = pxF 0 ns) := by rw [← HL.out] at HE; rw [List.take_length] at HE; exact HE
      have hkz : ¬ (k : Int) < (k : Int) := by omega
      clear hlt HE
      go_wp2
      go_ret2
      refine ⟨A1, c1, A2, c2, ps.length, rfl, ?_, ?_, HBW.out⟩
      · rw [← HT.out]
        refine ⟨HO1.out.rd, fun s hp => ?_⟩
        obtain ⟨p, hq, rfl⟩ := List.mem_map.1 hp
        obtain ⟨y, hy, hp⟩ := mem_pxF (show p ∈ pxF 0 ns by rw [← HT.out]; exact hq)
        exact (((HX.out.below (HBW.out.mono HUU.out)).2 y hy).2 _ hp).mono (Nat.le_trans HUU.out HBW.out.size)
      · rw [← HT.out]
        exact HO2.out.rd
theorem atPb {U : Nat} {w : World} {b o n c : Nat} {l : List Pl} (h : RdPl U w (some ⟨b, o, none⟩) n c l) {k : Nat} (hk : k < n) : ∃ p, Hid (l[k]? = some p) ∧ w.cell? ⟨b, o + k * 2, none⟩ = some (.int .i64 p.first) ∧ w.cell? ⟨b, o + k * 2 + 1, none⟩ = some (.int .i64 p.last) := by
  obtain ⟨b', o', p, e, _, hl, c0, c1⟩ := atP h hk
  injection e with e
  injection e with e1 e2
  subst e1 e2
  exact ⟨p, hl, c0, c1⟩
set_option maxHeartbeats 8000000 in
theorem refPooled_any (x : Sx) (pn rn U : Nat) (w : World) (hok : x.ok U w pn rn) (hU : U ≤ w.heap.size) : Calls Try.prog 72 #[x.v pn rn] w (isB (pooledB x.s) w) := by
  obtain ⟨w0, hw0, hc0, hb0⟩ := boxedS w x pn rn
  obtain ⟨base, bits, A, pc, pools, rA, rc, res, iface, router, time⟩ := x
  have HP : Hid (RdPl U w A pn pc pools) := hok.p
  have HL : Hid (pools.length = pn) := hok.p.len
  have hcp : pn ≤ pc := hok.p.cap
  have hmx : pc ≤ 9223372036854775807 := hok.p.max
  have HUU := Lib.hid hU
  have HB := Lib.hid hb0
  have HC0 : Hid (Cel w0 w.heap.size 45 #[.int .i64 base, .int .i64 bits, .slice A pn pc, .slice rA rn rc, .int .i64 iface, .int .i64 router, .int .i64 time]) := hc0
  show Calls _ _ #[.agg #[.int .i64 base, .int .i64 bits, .slice A pn pc, .slice rA rn rc, .int .i64 iface, .int .i64 router, .int .i64 time]] w (isB (pairB plMeet pools) w)
  have hw0' : w0 = w.alloc (.cells #[.int .i64 base, .int .i64 bits, .slice A pn pc, .slice rA rn rc, .int .i64 iface, .int .i64 router, .int .i64 time] 45) := hw0
  clear hok hU hc0 hb0 hw0
  go_enter Try.func72, Try.ntmps72
  go_upto_region 1 with fail
  rw [← hw0']
  clear hw0'
  go_wp2_with fail
  go_loopw [3] (fun v wr => ∃ i : Nat, v = .int .i64 i ∧ i ≤ pn ∧ Hid (pairB plMeet (pools.take i) = false) ∧ Hid (Below w0.heap.size w0 wr)) (fun v _ => pn - (intOf v).toNat)
  case atStart => exact ⟨0, rfl, by omega, rfl, Below.refl _ _⟩
  case round =>
    obtain ⟨i, rfl, hi2, HE, HB2⟩ := hrel
    have HBW := Lib.hid (HB.out.trans (HB2.out.mono HB.out.size))
    have c2 : wr.cell? ⟨w.heap.size, 2, none⟩ = some (.slice A pn pc) := by rw [(HC0.out.below HB2.out HC0.out.lt).cell]; rfl
    by_cases hlt : i < pn
    · obtain ⟨b, o, p, rfl, hbU, HA, p0, p1⟩ := atP HP.out hlt
      have HPC : Hid (∀ W, Below w.heap.size w W → W.cell? ⟨b, o + i * 2, none⟩ = some (.int .i64 p.first) ∧ W.cell? ⟨b, o + i * 2 + 1, none⟩ = some (.int .i64 p.last)) := fun W hW => ⟨(hW.cell (p := ⟨b, o + i * 2, none⟩) (Nat.lt_of_lt_of_le hbU HUU.out)).trans p0, (hW.cell (p := ⟨b, o + i * 2 + 1, none⟩) (Nat.lt_of_lt_of_le hbU HUU.out)).trans p1⟩
      have hiz : (i : Int) < (pn : Int) := by omega
      clear p0 p1
      go_wp2_with fail
      clear c2
      go_loopw [4] (fun v wr => ∃ k : Nat, v = .int .i64 k ∧ k ≤ i ∧ Hid ((pools.take k).any (plMeet p) = false) ∧ Hid (Below w0.heap.size w0 wr)) (fun v _ => i - (intOf v).toNat)
      case atStart => exact ⟨0, rfl, by omega, rfl, HB2.out⟩
      case round =>
        obtain ⟨k, rfl, hk2, HF, HB3⟩ := hrel
        have HBV := Lib.hid (HB.out.trans (HB3.out.mono HB.out.size))
        have c2 : wr.cell? ⟨w.heap.size, 2, none⟩ = some (.slice (some ⟨b, o, none⟩) pn pc) := by rw [(HC0.out.below HB3.out HC0.out.lt).cell]; rfl
        by_cases hlt2 : k < i
        · obtain ⟨p0, p1⟩ := HPC.out wr HBV.out
          obtain ⟨q, HD, q0, q1⟩ := atPb (HP.out.below (HBV.out.mono HUU.out)) (show k < pn by omega)
          have hkz : (k : Int) < (i : Int) := by omega
          have hkn : (k : Int) < (pn : Int) := by omega
          by_cases h1 : p.first ≤ q.last
          · by_cases h2 : q.first ≤ p.last
            · have HT : Hid (pairB plMeet pools = true) := pair_hit HA.out HD.out hlt2 (by unfold plMeet; exact decide_eq_true ⟨h1, h2⟩)
              clear HE HA HD HF
              go_wp2_with fail
              go_quiet (fail)
              go_wp2
              go_ret
              exact ⟨ret_bool HT.out.symm, below_drewN HBV.out _⟩
            · have HT : Hid ((pools.take (k + 1)).any (plMeet p) = false) := any_skip HD.out HF.out (by unfold plMeet; exact decide_eq_false fun z => h2 z.2)
              clear HD HF
              go_wp2_with fail
              go_quiet (fail)
              go_wp2
              go_roundw
              case rel => exact ⟨k + 1, by go_num, by omega, HT.out, below_drewN HB3.out _⟩
              case measure => simp [intOf]; omega
          · have HT : Hid ((pools.take (k + 1)).any (plMeet p) = false) := any_skip HD.out HF.out (by unfold plMeet; exact decide_eq_false fun z => h1 z.1)
            have hd : decide (p.first ≤ q.last) = false := decide_eq_false h1
            clear HD HF
            go_wp2_with fail
            go_quiet (fail)
            go_wp2
            go_roundw
            case rel => exact ⟨k + 1, by go_num, by omega, HT.out, below_drewN HB3.out _⟩
            case measure => simp [intOf]; omega
        · obtain rfl : k = i := by omega
          have HT : Hid (pairB plMeet (pools.take (k + 1)) = false) := pair_next HA.out HE.out HF.out
          have hkz : ¬ (k : Int) < (k : Int) := by omega
          clear hlt2 HE HA HF
          go_wp2
          go_roundw
          case rel => exact ⟨k + 1, by go_num, by omega, HT.out, HB3.out⟩
          case measure => simp [intOf]; omega
    · obtain rfl : i = pn := by omega
      have HT : Hid (pairB plMeet pools = false) := by rw [← HL.out] at HE; rw [List.take_length] at HE; exact HE
      have hiz : ¬ (i : Int) < (i : Int) := by omega
      clear hlt HE
      go_wp2
      go_ret
      exact ⟨ret_bool HT.out.symm, HBW.out⟩
end Go.Proofs.Ytoilljilndmmfaa.Vw
