/- What disk.normalize comes to. For disks of up to 1000 entries, each of a file that is there. -/
import Derived.Test.YtoifdjpflannlaaDwNormz
set_option maxRecDepth 8000
namespace Go.Proofs.Ytoifdjpflannlaa.Dw
open Go.RowKit By Dk

/-! ### normalize -/
theorem apart_any {w : World} {B e s n B' e' s' n' : Nat} {v v' : Value} {xs ys : List Value} (h : w.ownsRow B e s v n xs) (h' : w.ownsRow B' e' s' v' n' ys) (hne : e ≠ e') : v.ownBlock = none ∨ v.ownBlock ≠ v'.ownBlock := by
  cases hb : v.ownBlock with
  | none => exact .inl rfl
  | some i =>
    refine .inr fun k => ?_
    obtain ⟨c1, e1⟩ := own_cells h hb
    obtain ⟨c2, e2⟩ := own_cells h' k.symm
    rw [e1] at e2
    injection e2 with e2
    injection e2 with _ e3
    exact hne e3
/-- Files whose array and bytes are the call's own. -/
def OwnFs (e B : Nat) (w : World) (A : Option Addr) (n c : Nat) (ys : List Fv) : Prop := OwnG layF e B w A n c ys ∧ ∀ y ∈ ys, Own 5 B w y.A y.l.length y.c y.l
theorem OwnFs.nil (e B : Nat) (w : World) : OwnFs e B w none 0 0 [] := ⟨OwnG.nil _ _ _, fun y hy => by cases hy⟩
theorem OwnFs.below {e B : Nat} {w w' : World} {A : Option Addr} {n c : Nat} {ys : List Fv} (h : OwnFs e B w A n c ys) (hb : Below w.heap.size w w') : OwnFs e B w' A n c ys := ⟨h.1.below hb, fun y hy => (h.2 y hy).below hb⟩
theorem OwnFs.rd {e B : Nat} {w : World} {A : Option Addr} {n c : Nat} {ys : List Fv} (h : OwnFs e B w A n c ys) : RdF w.heap.size w A n c ys := ⟨h.1.rd, fun y hy => (h.2 y hy).bs.upto⟩
theorem OwnFs.snoc {e B m : Nat} {w w' : World} {A A' : Option Addr} {n c c' : Nat} {ys : List Fv} {y : Fv} (h : OwnFs e B w A n c ys) (hne : 5 ≠ e) (ha : AppG layF e B w A n c m (ys ++ [y]) A' c' w') (hy : Own 5 B w y.A y.l.length y.c y.l) : OwnFs e B w' A' (n + m) c' (ys ++ [y]) := by
  refine ⟨ha.1, fun z hz => ?_⟩
  have hk : ∀ z : Fv, Own 5 B w z.A z.l.length z.c z.l → Own 5 B w' z.A z.l.length z.c z.l := fun z ho => World.ownsRow.kept ho ha.2.2.1 (apart_any ho h.1.1 hne)
  rcases List.mem_append.1 hz with hz | hz
  · exact hk z (h.2 z hz)
  · simp at hz
    subst hz
    exact hk _ hy
theorem litF (e : Nat) (V : World) (y : Fv) : RdG layF (V.heap.size + 1) (V.alloc (.cells #[.slice y.A y.l.length y.c, .int .i64 y.s] e)) (some ⟨V.heap.size, 0, none⟩) 1 1 [y] := by
  have := (OwnG.lit (Y := layF) e V [y] (by simp)).rd
  rw [show (V.alloc (.cells (layF.cells [y]).toArray e)).heap.size = V.heap.size + 1 by simp] at this
  exact this
theorem grown_put3 (w : World) (g : Nat) (a b c : Value) : w.grownBy (((w.setCell ⟨g, 0, none⟩ a).setCell ⟨g, 1, none⟩ b).setCell ⟨g, 2, none⟩ c) (some g) := grownBy_trans (grownBy_trans (grown_set w g 0 a) (grown_set _ g 1 b) (.inl rfl)) (grown_set _ g 2 c) (.inl rfl)
theorem row_away {w w' : World} {g e B s n : Nat} {t : TypeId} {cs : Array Value} {v : Value} {xs : List Value} (h : w.ownsRow B e s v n xs) (hc : Cel w g t cs) (hne : t ≠ e) (hg : w.grownBy w' (some g)) : w'.ownsRow B e s v n xs := World.ownsRow.kept h hg (.inr fun k => hc.not_row h hne k.symm)
theorem _root_.Go.Proofs.Ytoifdjpflannlaa.By.OwnG.away {α : Type} {Y : Lay α} {w w' : World} {g e B n c : Nat} {t : TypeId} {cs : Array Value} {A : Option Addr} {l : List α} (h : OwnG Y e B w A n c l) (hc : Cel w g t cs) (hne : t ≠ e) (hg : w.grownBy w' (some g)) : OwnG Y e B w' A n c l := ⟨row_away h.1 hc hne hg, h.2⟩
theorem OwnFs.away {w w' : World} {g e B n c : Nat} {t : TypeId} {cs : Array Value} {A : Option Addr} {ys : List Fv} (h : OwnFs e B w A n c ys) (hc : Cel w g t cs) (hne : t ≠ e) (hn2 : t ≠ 5) (hg : w.grownBy w' (some g)) : OwnFs e B w' A n c ys := ⟨h.1.away hc hne hg, fun y hy => row_away (h.2 y hy) hc hn2 hg⟩
/-- A disk whose rows are the call's own. -/
structure OwnD (B : Nat) (w : World) (z : Dv) : Prop where
  f : OwnFs 58 B w z.fA z.fn z.fc z.xs
  n : OwnE 68 B w z.nA z.nn z.nc z.now
  k : OwnE 68 B w z.kA z.kn z.kc z.kept
theorem OwnFs.mono {e B B' : Nat} {w : World} {A : Option Addr} {n c : Nat} {ys : List Fv} (h : OwnFs e B w A n c ys) (hB : B' ≤ B) : OwnFs e B' w A n c ys := ⟨h.1.mono hB, fun y hy => (h.2 y hy).mono hB⟩
theorem OwnD.rd {B : Nat} {w : World} {z : Dv} (h : OwnD B w z) : RdD w.heap.size w z := ⟨h.f.rd, h.n.rd, h.k.rd⟩
theorem OwnD.mono {B B' : Nat} {w : World} {z : Dv} (h : OwnD B w z) (hB : B' ≤ B) : OwnD B' w z := ⟨h.f.mono hB, h.n.mono hB, h.k.mono hB⟩
theorem OwnD.away {B : Nat} {w w' : World} {z : Dv} (h : OwnD B w z) {g : Nat} {cs : Array Value} (hc : Cel w g 25 cs) (hg : w.grownBy w' (some g)) : OwnD B w' z := ⟨h.f.away hc (by decide) (by decide) hg, h.n.away hc (by decide) hg, h.k.away hc (by decide) hg⟩
/-- A call that answers a disk of its own. -/
def DO (w : World) (d : D) (e : Ending) (w' : World) : Prop := ∃ z : Dv, e = .returned (.agg #[.slice z.fA z.fn z.fc, .slice z.nA z.nn z.nc, .slice z.kA z.kn z.kc]) ∧ z.d = d ∧ OwnD w.heap.size w' z ∧ Below w.heap.size w w'
def StNo (x : Dv) (N : Nat) (w3 : World) (v i : Value) (wr : World) : Prop :=
  ∃ (k : Nat) (A1 : Option Addr) (c1 : Nat) (ys : List Fv), k ≤ N ∧ i = .int .i64 k ∧ v = .slice A1 k c1 ∧ OwnFs 58 w3.heap.size wr A1 k c1 ys ∧ fsOf ys = ((cameD x.d).take k).map (fileAt x.d) ∧ Below w3.heap.size w3 wr
set_option maxHeartbeats 2000000 in
theorem normalize_any (x : Dv) (w : World) (h : RdD w.heap.size w x) (hin : ∀ f ∈ cameD x.d, 0 ≤ f ∧ f < (x.fn : Int)) (hn : x.now.length + x.kept.length ≤ 1000) (hby : ∀ v ∈ x.xs, v.l.length ≤ 1000000) :
    Calls Try.prog 58 #[x.v] w (DO w (orderedD x.d)) := by
  obtain ⟨w1, hw1⟩ : ∃ w1, w1 = ((w.alloc (.cells x.cs 25)).alloc (.cells #[.slice none 0 0, .slice none 0 0, .slice none 0 0] 25)).alloc (.cells #[.slice x.fA x.fn x.fc, .slice x.nA x.nn x.nc, .slice x.kA x.kn x.kc, .slice none 0 0] 111) := ⟨_, rfl⟩
  have hb1 : Below w.heap.size w w1 := by rw [hw1]; exact (((Below.refl _ _).alloc (Nat.le_refl _) _).alloc (by simp) _).alloc (by simp; omega) _
  have hs1 : w1.heap.size = w.heap.size + 3 := by rw [hw1]; simp
  have hc1 : Cel w1 (w.heap.size + 2) 111 #[.slice x.fA x.fn x.fc, .slice x.nA x.nn x.nc, .slice x.kA x.kn x.kc, .slice none 0 0] := by
    rw [hw1]
    have := Cel.born ((w.alloc (.cells x.cs 25)).alloc (.cells #[.slice none 0 0, .slice none 0 0, .slice none 0 0] 25)) 111 #[.slice x.fA x.fn x.fc, .slice x.nA x.nn x.nc, .slice x.kA x.kn x.kc, .slice none 0 0]
    simpa using this
  have hc0 : Cel w1 (w.heap.size + 1) 25 #[.slice none 0 0, .slice none 0 0, .slice none 0 0] := by
    rw [hw1]
    have := Cel.born (w.alloc (.cells x.cs 25)) 25 #[.slice none 0 0, .slice none 0 0, .slice none 0 0]
    have h2 := this.below ((Below.refl _ _).alloc (Nat.le_refl _) (.cells #[.slice x.fA x.fn x.fc, .slice x.nA x.nn x.nc, .slice x.kA x.kn x.kc, .slice none 0 0] 111)) this.lt
    simpa using h2
  have hz : Nz (w.heap.size + 3) (w.heap.size + 2) w1 x [] := ⟨by omega, none, 0, 0, hc1, OwnV.nil _ _ _⟩
  have hnm := h.n.len
  have hkm := h.k.len
  have hfl : x.xs.length = x.fn := h.f.len
  have hmx := h.f.max
  have hcp := h.f.cap
  have HR1 := Lib.hid (renumbered_any (w.heap.size + 3) (w.heap.size + 2) w1 x [] x.nA x.nn x.nc x.now hz (by omega) (by simp; omega) ((h.n.below hb1).mono (by omega)))
  have r1 : w1.cell? ⟨w.heap.size + 2, 1, none⟩ = some (.slice x.nA x.nn x.nc) := by rw [hc1.cell]; rfl
  have HB1 := Lib.hid hb1
  have HC0 := Lib.hid hc0
  have HR := Lib.hid h
  have HIN := Lib.hid hin
  have HBY := Lib.hid hby
  have HFL := Lib.hid hfl
  have hnn : x.nn + x.kn ≤ 1000 := by omega
  have HNM := Lib.hid hnm
  have HKM := Lib.hid hkm
  clear hz hc1 hc0 h hb1 hfl hin hby hnm hkm hn
  go_enter Try.func58, Try.ntmps58
  go_wp2_with fail
  rw [← hw1]
  clear hw1
  refine HR1.out.mono ?_
  rintro e w2 ⟨An, nn, cn, rfl, hon, hz2, hb2, hkt2⟩
  obtain ⟨_, Ao, no, co, hc2, _⟩ := id hz2
  have r2 : w2.cell? ⟨w.heap.size + 2, 2, none⟩ = some (.slice x.kA x.kn x.kc) := by rw [hc2.cell]; rfl
  have hs2 := hb2.size
  have HB2 := Lib.hid (HB1.out.trans (hb2.mono (show w.heap.size ≤ w.heap.size + 2 by omega)))
  have HC2 := Lib.hid (hkt2.cel HC0.out (by decide) (by decide))
  have HON := Lib.hid hon
  have HR2 := Lib.hid (renumbered_any (w.heap.size + 3) (w.heap.size + 2) w2 x (firsts (filesOf x.now)) x.kA x.kn x.kc x.kept hz2 (by omega) (by
    have h1 := from_len (filesOf x.now) []
    have e : (filesOf x.now).length = x.now.length := List.length_map ..
    have e2 := HNM.out
    have e3 := HKM.out
    unfold firsts
    simp at h1
    omega) ((HR.out.k.below HB2.out).mono (by omega)))
  clear hz2 hb2 hkt2 hc2 hon
  go_wp2_with fail
  refine HR2.out.mono ?_
  rintro e w3 ⟨Ak, nk, ck, rfl, hok, hz3, hb3, hkt3⟩
  have ec : firstsFrom (firsts (filesOf x.now)) (filesOf x.kept) = cameD x.d := (came_two x.d).symm
  rw [ec] at hok hz3
  obtain ⟨_, A3, n3, c3, hc3, ho3⟩ := hz3
  have r3 : w3.cell? ⟨w.heap.size + 2, 3, none⟩ = some (.slice A3 n3 c3) := by rw [hc3.cell]; rfl
  have hs3 := hb3.size
  have HB3 := Lib.hid (HB2.out.trans (hb3.mono (show w.heap.size ≤ w.heap.size + 2 by omega)))
  have HC3 := Lib.hid (hkt3.cel HC2.out (by decide) (by decide))
  have HN3 := Lib.hid hc3
  have HON3 := Lib.hid (hkt3.own HON.out (by decide) (by decide))
  have HOK := Lib.hid hok
  have hrd3 := ho3.rd
  have hm3 := hrd3.max
  have hcap3 := hrd3.cap
  have HL3 : Hid ((cameD x.d).length = n3) := by have := hrd3.len; rwa [intV_len] at this
  have hn3 : n3 ≤ 1000 := by
    have h1 := from_len (filesOf x.kept) (firsts (filesOf x.now))
    have h2 := from_len (filesOf x.now) []
    have e1 : (filesOf x.now).length = x.now.length := List.length_map ..
    have e2 : (filesOf x.kept).length = x.kept.length := List.length_map ..
    have e3 := HNM.out
    have e4 := HKM.out
    have e5 := HL3.out
    rw [← ec] at e5
    unfold firsts at h1 e5
    simp at h2
    omega
  clear hc3 ho3 hkt3 hb3 hok ec
  go_wp2
  go_loopw [6, 23] (fun v i wr => StNo x n3 w3 v i wr) (fun _ i _ => n3 - (intOf i).toNat)
  case atStart => exact ⟨0, none, 0, [], by omega, rfl, rfl, OwnFs.nil _ _ _, rfl, Below.refl _ _⟩
  case round =>
    obtain ⟨k, A1, c1, ys, hk, rfl, rfl, hof, hys, hbw⟩ := hrel
    have HYS := Lib.hid hys
    clear hys
    by_cases hlt : k < n3
    · obtain ⟨b, o, rfl, hc⟩ := (hrd3.below hbw).at_ hlt
      have hkl : k < (cameD x.d).length := by have := HL3.out; omega
      have hcell := hc k (by rw [intV_len]; exact hkl)
      rw [intV_get hkl] at hcell
      clear hc
      obtain ⟨g0, g1⟩ := HIN.out _ (List.getElem_mem hkl)
      have HCK : Hid ((cameD x.d)[k]? = some (cameD x.d)[k]) := List.getElem?_eq_getElem hkl
      generalize (cameD x.d)[k] = f at hcell g0 g1 HCK
      obtain ⟨j, rfl⟩ := Int.eq_ofNat_of_zero_le g0
      have hj : j < x.fn := by omega
      have hb0r := HB3.out.trans (hbw.mono HB3.out.size)
      obtain ⟨b2, o2, v, eA, _, HE, hbs, d1, d2⟩ := atF (HR.out.f.below hb0r) hj
      have HV : Hid (fileAt x.d (j : Int) = v.f) := fileAt_get g0 (by simpa using HE.out)
      have hvl : v.l.length ≤ 1000000 := HBY.out v (List.mem_of_getElem? HE.out)
      have r4 : wr.cell? ⟨w.heap.size + 2, 0, none⟩ = some (.slice (some ⟨b2, o2, none⟩) x.fn x.fc) := by rw [← eA, (HN3.out.below hbw HN3.out.lt).cell]; rfl
      obtain ⟨w4, hw4⟩ : ∃ w4, w4 = wr.alloc (.cells #[.slice v.A v.l.length v.c, .int .i64 v.s] 58) := ⟨_, rfl⟩
      have hb4 : Below wr.heap.size wr w4 := by rw [hw4]; exact (Below.refl _ _).alloc (Nat.le_refl _) _
      have hc4 : Cel w4 wr.heap.size 58 #[.slice v.A v.l.length v.c, .int .i64 v.s] := by rw [hw4]; exact Cel.born wr _ _
      have q0 : w4.cell? ⟨wr.heap.size, 0, none⟩ = some (.slice v.A v.l.length v.c) := by rw [hc4.cell]; rfl
      have q1 : w4.cell? ⟨wr.heap.size, 1, none⟩ = some (.int .i64 v.s) := by rw [hc4.cell]; rfl
      have HCL := Lib.hid (Cw.clone_any v.A v.l.length v.c v.l w4.drew (hbs.bs.below hb4).drew (by omega))
      have hlit : ∀ (V : World) (A : Option Addr) (c : Nat), RdG layF (V.heap.size + 1) (V.alloc (.cells #[.slice A v.l.length c, .int .i64 v.s] 58)) (some ⟨V.heap.size, 0, none⟩) 1 1 [⟨A, c, v.l, v.s⟩] := fun V A c => litF _ V ⟨A, c, v.l, v.s⟩
      have hs4 := hb4.size
      have hsw := hbw.size
      clear HE hbs hb0r eA
      go_wp2_with fail
      rw [← hw4]
      clear hw4
      go_region_law (first
        | (refine step_appG filP (by decide) (by decide) (by kernel_rfl) (by rfl) (.tmp 33) (.tmp 40) (by rfl) (by rfl) hofb.1 (by rfl) (hlit w5 _ _) (by omega) hszb ?_; intro A6 c6 w6 happ)
        | (go_simp; go_at_call 59; refine HCL.out.mono ?_; rintro e w5 ⟨A5, c5, rfl, hown5, hb5⟩; have hb45 : Below w4.heap.size w4 w5 := below_undrew hb5; have s1 : w5.cell? ⟨wr.heap.size, 1, none⟩ = some (.int .i64 v.s) := (by rw [(hc4.below hb45 hc4.lt).cell]; rfl); have hal : Below w5.heap.size w5 (w5.alloc (.cells #[.slice A5 v.l.length c5, .int .i64 v.s] 58)) := (Below.refl _ _).alloc (Nat.le_refl _) _; have hofb := ((hof.below hb4).below hb45).below hal; have hszb : w3.heap.size ≤ (w5.alloc (.cells #[.slice A5 v.l.length c5, .int .i64 v.s] 58)).heap.size := Nat.le_trans hsw (Nat.le_trans hs4 (Nat.le_trans hb45.size hal.size))))
      all_goals (
        go_wp2
        go_roundw
        case rel =>
          have hown6 : Own 5 w3.heap.size (w5.alloc (.cells #[.slice A5 v.l.length c5, .int .i64 v.s] 58)) A5 v.l.length c5 v.l := (hown5.mono (by show w3.heap.size ≤ w4.heap.size; omega)).below hal
          refine ⟨k + 1, A6, c6, ys ++ [⟨A5, c5, v.l, v.s⟩], by omega, by go_num, rfl, hofb.snoc (by decide) happ hown6, ?_, ((hbw.trans (hb4.mono hsw)).trans (hb45.mono (by omega))).trans ((hal.mono (by have := hb45.size; omega)).trans happ.2.1)⟩
          rw [take_next HCK.out, List.map_append]
          unfold fsOf at HYS ⊢
          rw [List.map_append, HYS.out]
          simp only [List.map_cons, List.map_nil]
          rw [HV.out]
          rfl
        case measure => simp [intOf]; omega)
    · obtain rfl : k = n3 := by omega
      have HT : Hid ((cameD x.d).take k = cameD x.d) := List.take_of_length_le (by rw [HL3.out]; exact Nat.le_refl _)
      have hcr := HC3.out.below hbw HC3.out.lt
      obtain ⟨q0, q1, q2⟩ := cel3 hcr
      have f0 := cel_fr hcr 0
      have f1 := cel_fr hcr 1
      have f2 := cel_fr hcr 2
      have HCR := Lib.hid hcr
      clear hcr
      go_wp2
      (try simp only [Exit.inBlock, Exit.then])
      refine bodyPost_ret (ret_disk rfl _ _ (w.heap.size + 1) #[.slice A1 k c1, .slice An nn cn, .slice Ak nk ck] rfl (cel_put3 HCR.out) rfl) rfl ?_
      have hb := below_put3 (HB3.out.trans (hbw.mono HB3.out.size)) (show w.heap.size ≤ w.heap.size + 1 by omega) (.slice A1 k c1) (.slice An nn cn) (.slice Ak nk ck)
      refine ⟨⟨A1, k, c1, ys, An, nn, cn, renum x.now (firsts (filesOf x.now)), Ak, nk, ck, renum x.kept (cameD x.d)⟩, rfl, ?_, ?_, hb⟩
      · show D.mk _ _ _ = _
        rw [show fsOf ys = (cameD x.d).map (fileAt x.d) by rw [HYS.out, HT.out]]
        unfold orderedD
        rw [← renum_two x.d]
        rfl
      · have hg := grown_put3 wr (w.heap.size + 1) (.slice A1 k c1) (.slice An nn cn) (.slice Ak nk ck)
        exact ⟨(hof.mono (by omega)).away HCR.out (by decide) (by decide) hg, ((HON3.out.mono (by omega)).below hbw).away HCR.out (by decide) hg, ((HOK.out.mono (by omega)).below hbw).away HCR.out (by decide) hg⟩
end Go.Proofs.Ytoifdjpflannlaa.Dw
