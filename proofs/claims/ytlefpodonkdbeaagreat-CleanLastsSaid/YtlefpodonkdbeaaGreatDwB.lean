/- What disk's renumbered and normalize come to. For disks of up to 1000 entries. -/
import Derived.Test.YtlefpodonkdbeaaGreatDwA
import Derived.Deep.RegionLaw
import Derived.Lib.AppendZeros
import Derived.Lib.SliceRun
section
set_option maxRecDepth 8000
namespace Go.Proofs.YtlefpodonkdbeaaGreat.Dw
open Go.RowKit By Dk

theorem KeepT.low {W V V' : World} (h : KeepT W V) (hb : Below W.heap.size V V') : KeepT W V' := fun i cs t fr hc h1 h2 => (hb.block i (lt_of_heap hc)).trans (h i cs t fr hc h1 h2)
theorem Nz.grown {B g B' e s n : Nat} {w w' : World} {x : Dv} {acc : List Int} {v : Value} {xs : List Value} (h : Nz B g w x acc) (ho : w.ownsRow B' e s v n xs) (h1 : e ≠ 3) (h2 : e ≠ 108) (hg : w.grownBy w' v.ownBlock) : Nz B g w' x acc := by
  obtain ⟨hgB, A, m, c, hc, hr⟩ := h
  refine ⟨hgB, A, m, c, hc.grown hg (hc.not_row ho (Ne.symm h2)), World.ownsRow.kept hr hg ?_⟩
  by_cases k : (Value.slice A m c).ownBlock = none
  · exact .inl k
  · refine .inr fun k2 => ?_
    cases hb : (Value.slice A m c).ownBlock with
    | none => exact k hb
    | some i =>
      obtain ⟨cur, e1⟩ := own_cells hr hb
      rw [hb] at k2
      obtain ⟨cur2, e2⟩ := own_cells ho k2.symm
      rw [e1] at e2
      injection e2 with e2
      injection e2 with _ e3
      exact h1 e3.symm
theorem litE (V : World) (s : N) (q : Int) : RdE (V.heap.size + 1) (V.alloc (.cells #[.string (ba s), .int .i64 q] 68)) (some ⟨V.heap.size, 0, none⟩) 1 1 [(s, q)] := by
  have := (OwnG.lit (Y := layE) 68 V [(s, q)] (by simp)).rd
  rw [show (V.alloc (.cells (layE.cells [(s, q)]).toArray 68)).heap.size = V.heap.size + 1 by simp] at this
  exact this
def ReR (B g : Nat) (W : World) (x : Dv) (acc : List Int) (l : List E) (e : Ending) (W' : World) : Prop :=
  ∃ A n c, e = .returned (.slice A n c) ∧ OwnE 68 W.heap.size W' A n c (renum l (firstsFrom acc (filesOf l))) ∧ Nz B g W' x (firstsFrom acc (filesOf l)) ∧ Below g W W' ∧ KeepT W W'
def StRe (B g : Nat) (W : World) (x : Dv) (acc : List Int) (l : List E) (n : Nat) (v i : Value) (wr : World) : Prop :=
  ∃ (k : Nat) (A1 : Option Addr) (c1 : Nat), k ≤ n ∧ i = .int .i64 k ∧ v = .slice A1 k c1 ∧ OwnE 68 W.heap.size wr A1 k c1 (renumK acc l k) ∧ Nz B g wr x (accAt acc l k) ∧ Below g W wr ∧ KeepT W wr
set_option maxHeartbeats 2000000 in
theorem renumbered_any (B g : Nat) (W : World) (x : Dv) (acc : List Int) (A : Option Addr) (n c : Nat) (l : List E) (h : Nz B g W x acc) (hB : B ≤ W.heap.size) (ha : acc.length + l.length ≤ 2000) (hl : RdE g W A n c l) :
    Calls Tryz.prog 65 #[.pointer (some ⟨g, 0, none⟩), .slice A n c] W (ReR B g W x acc l) := by
  have hgW : g < W.heap.size := Nat.lt_of_lt_of_le h.1 hB
  have HL := Lib.hid hl.len
  have hm := hl.max
  have hcap := hl.cap
  have hn : n ≤ 2000 := by have := hl.len; omega
  have HA := Lib.hid ha
  clear ha
  go_enter Tryz.func65, Tryz.ntmps65
  go_wp2
  go_loopw [5, 10] (fun v i wr => StRe B g W x acc l n v i wr) (fun _ i _ => n - (intOf i).toNat)
  case atStart => exact ⟨0, none, 0, by omega, rfl, rfl, OwnG.nil _ _ _, h, Below.refl _ _, KeepT.refl _⟩
  case round =>
    obtain ⟨k, A1, c1, hk, rfl, rfl, hown, hnz, hbw, hkt⟩ := hrel
    have hsz := hbw.size
    by_cases hlt : k < n
    · obtain ⟨b, o, s, f, rfl, hbg, HE, d1, d2⟩ := atE (hl.below hbw) hlt
      have H := Lib.hid (renumK_next (acc := acc) HE.out)
      have H2 := Lib.hid (acc_next (acc := acc) HE.out)
      have hlen : (accAt acc l k).length ≤ 2000 := by have := acc_len acc l k; have := HA.out; omega
      obtain ⟨w1, hw1⟩ : ∃ w1, w1 = wr.alloc (.cells #[.string (ba s), .int .i64 f] 68) := ⟨_, rfl⟩
      have hb1 : Below wr.heap.size wr w1 := by rw [hw1]; exact (Below.refl _ _).alloc (Nat.le_refl _) _
      have hc1 : Cel w1 wr.heap.size 68 #[.string (ba s), .int .i64 f] := by rw [hw1]; exact Cel.born wr _ _
      have HNUM := Lib.hid (number_any B g w1.drew x (accAt acc l k) f (hnz.below hb1.drew) (Nat.le_trans hB (Nat.le_trans hsz hb1.size)) hlen)
      have r0 : w1.cell? ⟨wr.heap.size, 0, none⟩ = some (.string (ba s)) := by rw [hc1.cell]; rfl
      have r1 : w1.cell? ⟨wr.heap.size, 1, none⟩ = some (.int .i64 f) := by rw [hc1.cell]; rfl
      have HO1 := Lib.hid (hown.below hb1)
      have hbw1 := hbw.trans (hb1.mono (Nat.le_trans (Nat.le_of_lt hgW) hsz))
      have hs1 := hb1.size
      have HK1 := Lib.hid (hkt.trans (KeepT.of_below hb1))
      have hblit : ∀ (V : World) (q : Int), RdE (V.heap.size + 1) (V.alloc (.cells #[.string (ba s), .int .i64 q] 68)) (some ⟨V.heap.size, 0, none⟩) 1 1 [(s, q)] := fun V q => litE V s q
      clear HE hown hnz hbw hkt hlen
      go_wp2_with fail
      rw [← hw1]
      clear hw1
      go_region_law (first
        | (refine step_appG entP (by decide) (by decide) (by kernel_rfl) (by rfl) (.tmp 14) (.tmp 22) (by rfl) (by rfl) hownb (by rfl) (hblit w2 _) (by omega) hszb ?_; intro A3 c3 w3 happ)
        | (go_simp; go_at_call 95; refine HNUM.out.mono ?_; rintro e w2 ⟨rfl, hnz, hb2, hk2⟩; have hk3 := hk2.undrew; have s0 : w2.cell? ⟨wr.heap.size, 0, none⟩ = some (.string (ba s)) := hk3.cell hc1 (by decide) (by decide) 0; have hown2 := hk3.own HO1.out (by decide) (by decide); have hownb := hown2.below ((Below.refl w2.heap.size w2).alloc (Nat.le_refl _) (.cells #[.string (ba s), .int .i64 (idx (accAt acc l k) f)] 68)); have hszb : W.heap.size ≤ (w2.alloc (.cells #[.string (ba s), .int .i64 (idx (accAt acc l k) f)] 68)).heap.size := (by have := hb2.size; simp; exact Nat.le_succ_of_le (Nat.le_trans hsz (Nat.le_trans hs1 this)))))
      all_goals (
        go_wp2
        go_roundw
        case rel =>
          have hal : Below w2.heap.size w2 (w2.alloc (.cells #[.string (ba s), .int .i64 (idx (accAt acc l k) f)] 68)) := (Below.refl _ _).alloc (Nat.le_refl _) _
          have hgw2 : W.heap.size ≤ w2.heap.size := by have := hb2.size; exact Nat.le_trans hsz (Nat.le_trans hs1 this)
          refine ⟨k + 1, A3, c3, by omega, by go_num, rfl, by rw [H.out]; exact happ.1, ?_, ?_, ?_⟩
          · rw [H2.out]
            exact (hnz.below hal).grown hownb.1 (by decide) (by decide) happ.2.2.1
          · exact ((hbw1.trans (below_undrewB hb2)).trans (hal.mono (by omega))).trans (happ.2.1.mono (by omega))
          · exact (HK1.out.trans (hk3.trans (KeepT.of_below hal))).low happ.2.1
        case measure => simp [intOf]; omega)
    · obtain rfl : k = n := by omega
      have H1 := Lib.hid (renumK_end (acc := acc) (l := l) (k := k) (by rw [HL.out]; exact Nat.le_refl _))
      have H2 := Lib.hid (acc_end (acc := acc) (l := l) (k := k) (by rw [HL.out]; exact Nat.le_refl _))
      rw [H1.out] at hown
      rw [H2.out] at hnz
      go_wp2
      go_ret
      exact ⟨A1, k, c1, rfl, hown, hnz, hbw, hkt⟩
end Go.Proofs.YtlefpodonkdbeaaGreat.Dw
end
/- What disk.normalize comes to. For disks of up to 1000 entries, each of a file that is there. -/
section
set_option maxRecDepth 8000
namespace Go.Proofs.YtlefpodonkdbeaaGreat.Dw
open Go.RowKit By Dk

/-! ### normalize -/
theorem apart_any {w : World} {B e s n B' e' s' n' : Nat} {v v' : Value} {xs ys : List Value} (h : w.ownsRow B e s v n xs) (h' : w.ownsRow B' e' s' v' n' ys) (hne : e ≠ e') : v.ownBlock = none ∨ v.ownBlock ≠ v'.ownBlock := by
  cases hb : v.ownBlock with
  | none => exact .inl rfl
  | some i =>
    refine .inr fun k => ?_
    obtain ⟨c1, e1⟩ := own_cells h hb
    obtain ⟨c2, e2⟩ := own_cells h' k.symm
    rw [e1] at e2
    injection e2 with e2
    injection e2 with _ e3
    exact hne e3
/-- Files whose array and bytes are the call's own. -/
def OwnFs (e B : Nat) (w : World) (A : Option Addr) (n c : Nat) (ys : List Fv) : Prop := OwnG layF e B w A n c ys ∧ ∀ y ∈ ys, Own 5 B w y.A y.l.length y.c y.l
theorem OwnFs.nil (e B : Nat) (w : World) : OwnFs e B w none 0 0 [] := ⟨OwnG.nil _ _ _, fun y hy => by cases hy⟩
theorem OwnFs.below {e B : Nat} {w w' : World} {A : Option Addr} {n c : Nat} {ys : List Fv} (h : OwnFs e B w A n c ys) (hb : Below w.heap.size w w') : OwnFs e B w' A n c ys := ⟨h.1.below hb, fun y hy => (h.2 y hy).below hb⟩
theorem OwnFs.rd {e B : Nat} {w : World} {A : Option Addr} {n c : Nat} {ys : List Fv} (h : OwnFs e B w A n c ys) : RdF w.heap.size w A n c ys := ⟨h.1.rd, fun y hy => (h.2 y hy).bs.upto⟩
theorem OwnFs.snoc {e B m : Nat} {w w' : World} {A A' : Option Addr} {n c c' : Nat} {ys : List Fv} {y : Fv} (h : OwnFs e B w A n c ys) (hne : 5 ≠ e) (ha : AppG layF e B w A n c m (ys ++ [y]) A' c' w') (hy : Own 5 B w y.A y.l.length y.c y.l) : OwnFs e B w' A' (n + m) c' (ys ++ [y]) := by
  refine ⟨ha.1, fun z hz => ?_⟩
  have hk : ∀ z : Fv, Own 5 B w z.A z.l.length z.c z.l → Own 5 B w' z.A z.l.length z.c z.l := fun z ho => World.ownsRow.kept ho ha.2.2.1 (apart_any ho h.1.1 hne)
  rcases List.mem_append.1 hz with hz | hz
  · exact hk z (h.2 z hz)
  · simp at hz
    subst hz
    exact hk _ hy
theorem litF (e : Nat) (V : World) (y : Fv) : RdG layF (V.heap.size + 1) (V.alloc (.cells #[.slice y.A y.l.length y.c, .int .i64 y.s] e)) (some ⟨V.heap.size, 0, none⟩) 1 1 [y] := by
  have := (OwnG.lit (Y := layF) e V [y] (by simp)).rd
  rw [show (V.alloc (.cells (layF.cells [y]).toArray e)).heap.size = V.heap.size + 1 by simp] at this
  exact this
theorem grown_put3 (w : World) (g : Nat) (a b c : Value) : w.grownBy (((w.setCell ⟨g, 0, none⟩ a).setCell ⟨g, 1, none⟩ b).setCell ⟨g, 2, none⟩ c) (some g) := grownBy_trans (grownBy_trans (grown_set w g 0 a) (grown_set _ g 1 b) (.inl rfl)) (grown_set _ g 2 c) (.inl rfl)
theorem row_away {w w' : World} {g e B s n : Nat} {t : TypeId} {cs : Array Value} {v : Value} {xs : List Value} (h : w.ownsRow B e s v n xs) (hc : Cel w g t cs) (hne : t ≠ e) (hg : w.grownBy w' (some g)) : w'.ownsRow B e s v n xs := World.ownsRow.kept h hg (.inr fun k => hc.not_row h hne k.symm)
theorem _root_.Go.Proofs.YtlefpodonkdbeaaGreat.By.OwnG.away {α : Type} {Y : Lay α} {w w' : World} {g e B n c : Nat} {t : TypeId} {cs : Array Value} {A : Option Addr} {l : List α} (h : OwnG Y e B w A n c l) (hc : Cel w g t cs) (hne : t ≠ e) (hg : w.grownBy w' (some g)) : OwnG Y e B w' A n c l := ⟨row_away h.1 hc hne hg, h.2⟩
theorem OwnFs.away {w w' : World} {g e B n c : Nat} {t : TypeId} {cs : Array Value} {A : Option Addr} {ys : List Fv} (h : OwnFs e B w A n c ys) (hc : Cel w g t cs) (hne : t ≠ e) (hn2 : t ≠ 5) (hg : w.grownBy w' (some g)) : OwnFs e B w' A n c ys := ⟨h.1.away hc hne hg, fun y hy => row_away (h.2 y hy) hc hn2 hg⟩
/-- A disk whose rows are the call's own. -/
structure OwnD (B : Nat) (w : World) (z : Dv) : Prop where
  f : OwnFs 63 B w z.fA z.fn z.fc z.xs
  n : OwnE 68 B w z.nA z.nn z.nc z.now
  k : OwnE 68 B w z.kA z.kn z.kc z.kept
theorem OwnFs.mono {e B B' : Nat} {w : World} {A : Option Addr} {n c : Nat} {ys : List Fv} (h : OwnFs e B w A n c ys) (hB : B' ≤ B) : OwnFs e B' w A n c ys := ⟨h.1.mono hB, fun y hy => (h.2 y hy).mono hB⟩
theorem OwnD.rd {B : Nat} {w : World} {z : Dv} (h : OwnD B w z) : RdD w.heap.size w z := ⟨h.f.rd, h.n.rd, h.k.rd⟩
theorem OwnD.mono {B B' : Nat} {w : World} {z : Dv} (h : OwnD B w z) (hB : B' ≤ B) : OwnD B' w z := ⟨h.f.mono hB, h.n.mono hB, h.k.mono hB⟩
theorem OwnD.away {B : Nat} {w w' : World} {z : Dv} (h : OwnD B w z) {g : Nat} {cs : Array Value} (hc : Cel w g 30 cs) (hg : w.grownBy w' (some g)) : OwnD B w' z := ⟨h.f.away hc (by decide) (by decide) hg, h.n.away hc (by decide) hg, h.k.away hc (by decide) hg⟩
/-- A call that answers a disk of its own. -/
def DO (w : World) (d : D) (e : Ending) (w' : World) : Prop := ∃ z : Dv, e = .returned (.agg #[.slice z.fA z.fn z.fc, .slice z.nA z.nn z.nc, .slice z.kA z.kn z.kc]) ∧ z.d = d ∧ OwnD w.heap.size w' z ∧ Below w.heap.size w w'
def StNo (x : Dv) (N : Nat) (w3 : World) (v i : Value) (wr : World) : Prop :=
  ∃ (k : Nat) (A1 : Option Addr) (c1 : Nat) (ys : List Fv), k ≤ N ∧ i = .int .i64 k ∧ v = .slice A1 k c1 ∧ OwnFs 63 w3.heap.size wr A1 k c1 ys ∧ fsOf ys = ((cameD x.d).take k).map (fileAt x.d) ∧ Below w3.heap.size w3 wr
set_option maxHeartbeats 2000000 in
theorem normalize_any (x : Dv) (w : World) (h : RdD w.heap.size w x) (hin : ∀ f ∈ cameD x.d, 0 ≤ f ∧ f < (x.fn : Int)) (hn : x.now.length + x.kept.length ≤ 1000) (hby : ∀ v ∈ x.xs, v.l.length ≤ 1000000) :
    Calls Tryz.prog 41 #[x.v] w (DO w (orderedD x.d)) := by
  obtain ⟨w1, hw1⟩ : ∃ w1, w1 = ((w.alloc (.cells x.cs 30)).alloc (.cells #[.slice none 0 0, .slice none 0 0, .slice none 0 0] 30)).alloc (.cells #[.slice x.fA x.fn x.fc, .slice x.nA x.nn x.nc, .slice x.kA x.kn x.kc, .slice none 0 0] 108) := ⟨_, rfl⟩
  have hb1 : Below w.heap.size w w1 := by rw [hw1]; exact (((Below.refl _ _).alloc (Nat.le_refl _) _).alloc (by simp) _).alloc (by simp; omega) _
  have hs1 : w1.heap.size = w.heap.size + 3 := by rw [hw1]; simp
  have hc1 : Cel w1 (w.heap.size + 2) 108 #[.slice x.fA x.fn x.fc, .slice x.nA x.nn x.nc, .slice x.kA x.kn x.kc, .slice none 0 0] := by
    rw [hw1]
    have := Cel.born ((w.alloc (.cells x.cs 30)).alloc (.cells #[.slice none 0 0, .slice none 0 0, .slice none 0 0] 30)) 108 #[.slice x.fA x.fn x.fc, .slice x.nA x.nn x.nc, .slice x.kA x.kn x.kc, .slice none 0 0]
    simpa using this
  have hc0 : Cel w1 (w.heap.size + 1) 30 #[.slice none 0 0, .slice none 0 0, .slice none 0 0] := by
    rw [hw1]
    have := Cel.born (w.alloc (.cells x.cs 30)) 30 #[.slice none 0 0, .slice none 0 0, .slice none 0 0]
    have h2 := this.below ((Below.refl _ _).alloc (Nat.le_refl _) (.cells #[.slice x.fA x.fn x.fc, .slice x.nA x.nn x.nc, .slice x.kA x.kn x.kc, .slice none 0 0] 108)) this.lt
    simpa using h2
  have hz : Nz (w.heap.size + 3) (w.heap.size + 2) w1 x [] := ⟨by omega, none, 0, 0, hc1, OwnV.nil _ _ _⟩
  have hnm := h.n.len
  have hkm := h.k.len
  have hfl : x.xs.length = x.fn := h.f.len
  have hmx := h.f.max
  have hcp := h.f.cap
  have HR1 := Lib.hid (renumbered_any (w.heap.size + 3) (w.heap.size + 2) w1 x [] x.nA x.nn x.nc x.now hz (by omega) (by simp; omega) ((h.n.below hb1).mono (by omega)))
  have r1 : w1.cell? ⟨w.heap.size + 2, 1, none⟩ = some (.slice x.nA x.nn x.nc) := by rw [hc1.cell]; rfl
  have HB1 := Lib.hid hb1
  have HC0 := Lib.hid hc0
  have HR := Lib.hid h
  have HIN := Lib.hid hin
  have HBY := Lib.hid hby
  have HFL := Lib.hid hfl
  have hnn : x.nn + x.kn ≤ 1000 := by omega
  have HNM := Lib.hid hnm
  have HKM := Lib.hid hkm
  clear hz hc1 hc0 h hb1 hfl hin hby hnm hkm hn
  go_enter Tryz.func41, Tryz.ntmps41
  go_wp2_with fail
  rw [← hw1]
  clear hw1
  refine HR1.out.mono ?_
  rintro e w2 ⟨An, nn, cn, rfl, hon, hz2, hb2, hkt2⟩
  obtain ⟨_, Ao, no, co, hc2, _⟩ := id hz2
  have r2 : w2.cell? ⟨w.heap.size + 2, 2, none⟩ = some (.slice x.kA x.kn x.kc) := by rw [hc2.cell]; rfl
  have hs2 := hb2.size
  have HB2 := Lib.hid (HB1.out.trans (hb2.mono (show w.heap.size ≤ w.heap.size + 2 by omega)))
  have HC2 := Lib.hid (hkt2.cel HC0.out (by decide) (by decide))
  have HON := Lib.hid hon
  have HR2 := Lib.hid (renumbered_any (w.heap.size + 3) (w.heap.size + 2) w2 x (firsts (filesOf x.now)) x.kA x.kn x.kc x.kept hz2 (by omega) (by
    have h1 := from_len (filesOf x.now) []
    have e : (filesOf x.now).length = x.now.length := List.length_map ..
    have e2 := HNM.out
    have e3 := HKM.out
    unfold firsts
    simp at h1
    omega) ((HR.out.k.below HB2.out).mono (by omega)))
  clear hz2 hb2 hkt2 hc2 hon
  go_wp2_with fail
  refine HR2.out.mono ?_
  rintro e w3 ⟨Ak, nk, ck, rfl, hok, hz3, hb3, hkt3⟩
  have ec : firstsFrom (firsts (filesOf x.now)) (filesOf x.kept) = cameD x.d := (came_two x.d).symm
  rw [ec] at hok hz3
  obtain ⟨_, A3, n3, c3, hc3, ho3⟩ := hz3
  have r3 : w3.cell? ⟨w.heap.size + 2, 3, none⟩ = some (.slice A3 n3 c3) := by rw [hc3.cell]; rfl
  have hs3 := hb3.size
  have HB3 := Lib.hid (HB2.out.trans (hb3.mono (show w.heap.size ≤ w.heap.size + 2 by omega)))
  have HC3 := Lib.hid (hkt3.cel HC2.out (by decide) (by decide))
  have HN3 := Lib.hid hc3
  have HON3 := Lib.hid (hkt3.own HON.out (by decide) (by decide))
  have HOK := Lib.hid hok
  have hrd3 := ho3.rd
  have hm3 := hrd3.max
  have hcap3 := hrd3.cap
  have HL3 : Hid ((cameD x.d).length = n3) := by have := hrd3.len; rwa [intV_len] at this
  have hn3 : n3 ≤ 1000 := by
    have h1 := from_len (filesOf x.kept) (firsts (filesOf x.now))
    have h2 := from_len (filesOf x.now) []
    have e1 : (filesOf x.now).length = x.now.length := List.length_map ..
    have e2 : (filesOf x.kept).length = x.kept.length := List.length_map ..
    have e3 := HNM.out
    have e4 := HKM.out
    have e5 := HL3.out
    rw [← ec] at e5
    unfold firsts at h1 e5
    simp at h2
    omega
  clear hc3 ho3 hkt3 hb3 hok ec
  go_wp2
  go_loopw [6, 23] (fun v i wr => StNo x n3 w3 v i wr) (fun _ i _ => n3 - (intOf i).toNat)
  case atStart => exact ⟨0, none, 0, [], by omega, rfl, rfl, OwnFs.nil _ _ _, rfl, Below.refl _ _⟩
  case round =>
    obtain ⟨k, A1, c1, ys, hk, rfl, rfl, hof, hys, hbw⟩ := hrel
    have HYS := Lib.hid hys
    clear hys
    by_cases hlt : k < n3
    · obtain ⟨b, o, rfl, hc⟩ := (hrd3.below hbw).at_ hlt
      have hkl : k < (cameD x.d).length := by have := HL3.out; omega
      have hcell := hc k (by rw [intV_len]; exact hkl)
      rw [intV_get hkl] at hcell
      clear hc
      obtain ⟨g0, g1⟩ := HIN.out _ (List.getElem_mem hkl)
      have HCK : Hid ((cameD x.d)[k]? = some (cameD x.d)[k]) := List.getElem?_eq_getElem hkl
      generalize (cameD x.d)[k] = f at hcell g0 g1 HCK
      obtain ⟨j, rfl⟩ := Int.eq_ofNat_of_zero_le g0
      have hj : j < x.fn := by omega
      have hb0r := HB3.out.trans (hbw.mono HB3.out.size)
      obtain ⟨b2, o2, v, eA, _, HE, hbs, d1, d2⟩ := atF (HR.out.f.below hb0r) hj
      have HV : Hid (fileAt x.d (j : Int) = v.f) := fileAt_get g0 (by simpa using HE.out)
      have hvl : v.l.length ≤ 1000000 := HBY.out v (List.mem_of_getElem? HE.out)
      have r4 : wr.cell? ⟨w.heap.size + 2, 0, none⟩ = some (.slice (some ⟨b2, o2, none⟩) x.fn x.fc) := by rw [← eA, (HN3.out.below hbw HN3.out.lt).cell]; rfl
      obtain ⟨w4, hw4⟩ : ∃ w4, w4 = wr.alloc (.cells #[.slice v.A v.l.length v.c, .int .i64 v.s] 63) := ⟨_, rfl⟩
      have hb4 : Below wr.heap.size wr w4 := by rw [hw4]; exact (Below.refl _ _).alloc (Nat.le_refl _) _
      have hc4 : Cel w4 wr.heap.size 63 #[.slice v.A v.l.length v.c, .int .i64 v.s] := by rw [hw4]; exact Cel.born wr _ _
      have q0 : w4.cell? ⟨wr.heap.size, 0, none⟩ = some (.slice v.A v.l.length v.c) := by rw [hc4.cell]; rfl
      have q1 : w4.cell? ⟨wr.heap.size, 1, none⟩ = some (.int .i64 v.s) := by rw [hc4.cell]; rfl
      have HCL := Lib.hid (Cw.clone_any v.A v.l.length v.c v.l w4.drew (hbs.bs.below hb4).drew (by omega))
      have hlit : ∀ (V : World) (A : Option Addr) (c : Nat), RdG layF (V.heap.size + 1) (V.alloc (.cells #[.slice A v.l.length c, .int .i64 v.s] 63)) (some ⟨V.heap.size, 0, none⟩) 1 1 [⟨A, c, v.l, v.s⟩] := fun V A c => litF _ V ⟨A, c, v.l, v.s⟩
      have hs4 := hb4.size
      have hsw := hbw.size
      clear HE hbs hb0r eA
      go_wp2_with fail
      rw [← hw4]
      clear hw4
      go_region_law (first
        | (refine step_appG filP (by decide) (by decide) (by kernel_rfl) (by rfl) (.tmp 33) (.tmp 40) (by rfl) (by rfl) hofb.1 (by rfl) (hlit w5 _ _) (by omega) hszb ?_; intro A6 c6 w6 happ)
        | (go_simp; go_at_call 60; refine HCL.out.mono ?_; rintro e w5 ⟨A5, c5, rfl, hown5, hb5⟩; have hb45 : Below w4.heap.size w4 w5 := below_undrew hb5; have s1 : w5.cell? ⟨wr.heap.size, 1, none⟩ = some (.int .i64 v.s) := (by rw [(hc4.below hb45 hc4.lt).cell]; rfl); have hal : Below w5.heap.size w5 (w5.alloc (.cells #[.slice A5 v.l.length c5, .int .i64 v.s] 63)) := (Below.refl _ _).alloc (Nat.le_refl _) _; have hofb := ((hof.below hb4).below hb45).below hal; have hszb : w3.heap.size ≤ (w5.alloc (.cells #[.slice A5 v.l.length c5, .int .i64 v.s] 63)).heap.size := Nat.le_trans hsw (Nat.le_trans hs4 (Nat.le_trans hb45.size hal.size))))
      all_goals (
        go_wp2
        go_roundw
        case rel =>
          have hown6 : Own 5 w3.heap.size (w5.alloc (.cells #[.slice A5 v.l.length c5, .int .i64 v.s] 63)) A5 v.l.length c5 v.l := (hown5.mono (by show w3.heap.size ≤ w4.heap.size; omega)).below hal
          refine ⟨k + 1, A6, c6, ys ++ [⟨A5, c5, v.l, v.s⟩], by omega, by go_num, rfl, hofb.snoc (by decide) happ hown6, ?_, ((hbw.trans (hb4.mono hsw)).trans (hb45.mono (by omega))).trans ((hal.mono (by have := hb45.size; omega)).trans happ.2.1)⟩
          rw [take_next HCK.out, List.map_append]
          unfold fsOf at HYS ⊢
          rw [List.map_append, HYS.out]
          simp only [List.map_cons, List.map_nil]
          rw [HV.out]
          rfl
        case measure => simp [intOf]; omega)
    · obtain rfl : k = n3 := by omega
      have HT : Hid ((cameD x.d).take k = cameD x.d) := List.take_of_length_le (by rw [HL3.out]; exact Nat.le_refl _)
      have hcr := HC3.out.below hbw HC3.out.lt
      obtain ⟨q0, q1, q2⟩ := cel3 hcr
      have f0 := cel_fr hcr 0
      have f1 := cel_fr hcr 1
      have f2 := cel_fr hcr 2
      have HCR := Lib.hid hcr
      clear hcr
      go_wp2
      (try simp only [Exit.inBlock, Exit.then])
      refine bodyPost_ret (ret_disk rfl _ _ (w.heap.size + 1) #[.slice A1 k c1, .slice An nn cn, .slice Ak nk ck] rfl (cel_put3 HCR.out) rfl) rfl ?_
      have hb := below_put3 (HB3.out.trans (hbw.mono HB3.out.size)) (show w.heap.size ≤ w.heap.size + 1 by omega) (.slice A1 k c1) (.slice An nn cn) (.slice Ak nk ck)
      refine ⟨⟨A1, k, c1, ys, An, nn, cn, renum x.now (firsts (filesOf x.now)), Ak, nk, ck, renum x.kept (cameD x.d)⟩, rfl, ?_, ?_, hb⟩
      · show D.mk _ _ _ = _
        rw [show fsOf ys = (cameD x.d).map (fileAt x.d) by rw [HYS.out, HT.out]]
        unfold orderedD
        rw [← renum_two x.d]
        rfl
      · have hg := grown_put3 wr (w.heap.size + 1) (.slice A1 k c1) (.slice An nn cn) (.slice Ak nk ck)
        exact ⟨(hof.mono (by omega)).away HCR.out (by decide) (by decide) hg, ((HON3.out.mono (by omega)).below hbw).away HCR.out (by decide) hg, ((HOK.out.mono (by omega)).below hbw).away HCR.out (by decide) hg⟩
end Go.Proofs.YtlefpodonkdbeaaGreat.Dw
end
/- What slices.Clone, slices.Grow of nil and slices.Concat come to at disk's entries and files. For up to 100000 of them. -/
section
set_option maxRecDepth 8000
namespace Go.Proofs.YtlefpodonkdbeaaGreat.Dw
open Go.RowKit By Dk

/-- A part of a list. -/
structure PartG (α : Type) where
  A : Option Addr
  c : Nat
  l : List α
section
variable {α : Type} (Y : Lay α)
def PartsG (U : Nat) (w : World) (b o : Nat) (ps : List (PartG α)) : Prop :=
  b < U ∧ ∀ i (h : i < ps.length), w.cell? ⟨b, o + i, none⟩ = some (.slice ps[i].A ps[i].l.length ps[i].c) ∧ RdG Y U w ps[i].A ps[i].l.length ps[i].c ps[i].l
end
theorem PartsG.below {α : Type} {Y : Lay α} {U : Nat} {w w' : World} {b o : Nat} {ps : List (PartG α)} (h : PartsG Y U w b o ps) (hb : Below U w w') : PartsG Y U w' b o ps := ⟨h.1, fun i hi =>
  ⟨(hb.cell (p := ⟨b, o + i, none⟩) h.1).trans (h.2 i hi).1, (h.2 i hi).2.below hb⟩⟩
section
variable {α : Type}
def totG (ps : List (PartG α)) : Nat := (ps.map fun p => p.l.length).sum
def catG (ps : List (PartG α)) : List α := ps.flatMap (·.l)
theorem totG_next {ps : List (PartG α)} {k : Nat} (h : k < ps.length) : totG (ps.take (k + 1)) = totG (ps.take k) + (ps[k]).l.length := by
  unfold totG
  rw [List.take_succ_eq_append_getElem h]
  simp only [List.map_append, List.sum_append, List.map_cons, List.map_nil, List.sum_cons, List.sum_nil, Nat.add_zero]
theorem catG_next {ps : List (PartG α)} {k : Nat} (h : k < ps.length) : catG (ps.take (k + 1)) = catG (ps.take k) ++ (ps[k]).l := by
  unfold catG
  rw [List.take_succ_eq_append_getElem h, List.flatMap_append]
  simp only [List.flatMap_cons, List.flatMap_nil, List.append_nil]
theorem totG_le (ps : List (PartG α)) (k : Nat) : totG (ps.take k) ≤ totG ps := by
  have h : totG (ps.take k) + totG (ps.drop k) = totG ps := by
    unfold totG
    rw [← List.sum_append, ← List.map_append, List.take_append_drop]
  omega
end
/-- A call that answers a row of its own. -/
def RG {α : Type} (Y : Lay α) (e : Nat) (w : World) (n : Nat) (l : List α) (en : Ending) (w' : World) : Prop := ∃ A c, en = .returned (.slice A n c) ∧ OwnG Y e w.heap.size w' A n c l ∧ Below w.heap.size w w'
theorem OwnG.lit0 {α : Type} {Y : Lay α} (e : Nat) (w : World) : OwnG Y e w.heap.size (w.alloc (.cells #[] e)) (some ⟨w.heap.size, 0, none⟩) 0 0 ([] : List α) := ⟨World.ownsRow_lit w #[] 0 (Nat.le_refl _) (by unfold maxLen; omega) (by simp), rfl⟩

set_option maxHeartbeats 400000 in
theorem cloneE_any (U : Nat) (A : Option Addr) (n c : Nat) (l : List E) (w : World) (h : RdG layE U w A n c l) (hU : U ≤ w.heap.size) (hn : n ≤ 100000) :
    Calls Tryz.prog 92 #[.slice A n c] w (RG layE 68 w n l) := by
  have q : ∀ (w : World) (a : Option Addr) (n c n' c' : Nat), (binOp .eql 28 (.slice a n c) (.slice none n' c')).run Tryz.prog w = .ok (.bool a.isNone) w := fun w a n c n' c' => Lib.run_eql_slice_nil w _ _ a n c n' c' Tryz.underlying28
  cases A with
  | none =>
    obtain ⟨rfl, rfl⟩ := nil_of h
    clear h
    go_enter Tryz.func92, Tryz.ntmps92
    go_wp2
    go_ret
    exact ⟨none, 0, rfl, OwnG.nil _ _ _, Below.refl _ _⟩
  | some a =>
    have hlit := OwnG.lit0 (Y := layE) 68 w
    have hr := h.below (w' := w.alloc (.cells #[] 68)) (((Below.refl _ _).alloc (Nat.le_refl _) _).mono hU)
    go_enter Tryz.func92, Tryz.ntmps92
    go_wp2_with (at_builtin; refine wpList_appG entP (by decide) (by decide) (by kernel_rfl) rfl (.tmp 5) (.tmp 6) rfl rfl hlit rfl hr (by omega) (by simp) ?_; intro A' c' w2 happ)
    go_ret
    exact ⟨A', c', by simp, by simpa using happ.1, ((Below.refl _ _).alloc (Nat.le_refl _) _).trans happ.2.1⟩

theorem growE_nil (n : Nat) (w : World) (hn : n ≤ 100000) :
    Calls Tryz.prog 134 #[.slice none 0 0, .int .i64 (n : Int)] w (RG layE 68 w 0 []) := by
  by_cases h0 : n = 0
  · subst h0
    go_enter Tryz.func134, Tryz.ntmps134
    go_wp2
    go_ret
    exact ⟨none, 0, rfl, OwnG.nil _ _ _, Below.refl _ _⟩
  · have hpos : 0 < n := by omega
    obtain ⟨i0, hi0, hz0, hz1, hz2⟩ := info_parts entP.hi
    have hrun := fun ty => Lib.run_append_nil_zeros (P := Tryz.prog) w 28 3 ty 68 i0 _ .i64 .i64 Tryz.underlying28 Tryz.underlying3 hi0 hz0 n hpos (by rw [hz1]; decide) (by omega) (by rw [hz2]; omega)
    have hge := grownCap_ge w n 0 68
    have hcm := grownCap_le_maxLen w n 0 68 (by unfold maxLen; omega)
    generalize grownCap w n 0 68 = G at hrun hge hcm
    generalize hcs : (Builtin.zeroCells (Value.agg #[.string ⟨#[]⟩, .int .i64 0]).cells n ++ Builtin.zeroCells (Value.agg #[.string ⟨#[]⟩, .int .i64 0]).cells (G - n)) = cs at hrun
    have hsz : cs.size = G * 2 := by
      rw [← hcs, Array.size_append, size_zeroCells, size_zeroCells, show (Value.agg #[.string ⟨#[]⟩, .int .i64 0]).cells.size = 2 by kernel_rfl]
      omega
    have HR := Lib.hid hrun
    have HS := Lib.hid hsz
    have HM := Lib.hid hcm
    have hcm2 : G ≤ 9223372036854775807 := by unfold maxLen at hcm; omega
    clear hrun hsz hcm hcs hi0 hz0 hz1 hz2 h0
    go_enter Tryz.func134, Tryz.ntmps134
    go_wp2_with (at_builtin; refine Lib.wpList_append_run _ rfl (.tmp 20) (.tmp 21) _ _ rfl _ _ rfl rfl _ _ (HR.out _) ?_)
    go_ret
    exact ⟨some ⟨w.heap.size, 0, none⟩, G, rfl, ⟨(World.ownsRow_made w cs G (Nat.le_refl _) HM.out (by rw [HS.out]; rfl)).drew, rfl⟩, ((Below.refl _ _).alloc (Nat.le_refl _) _).drew⟩

set_option maxHeartbeats 1000000 in
theorem concatE_any (U b o N c : Nat) (ps : List (PartG E)) (w : World) (h : PartsG layE U w b o ps) (hU : U ≤ w.heap.size) (hN : ps.length = N) (hc : c ≤ 9223372036854775807) (hNc : N ≤ c) (ht : totG ps ≤ 100000) :
    Calls Tryz.prog 132 #[.slice (some ⟨b, o, none⟩) N c] w (RG layE 68 w (totG ps) (catG ps)) := by
  have HN := Lib.hid hN
  clear hN
  go_enter Tryz.func132, Tryz.ntmps132
  go_wp2
  go_loop [3, 11] (fun v i => ∃ k : Nat, k ≤ N ∧ i = .int .i64 k ∧ v = .int .i64 (totG (ps.take k) : Nat)) (fun _ i => N - (intOf i).toNat)
  case atStart => exact ⟨0, by omega, rfl, rfl⟩
  case round =>
    obtain ⟨k, hk, rfl, rfl⟩ := hrel
    have hle := totG_le ps k
    by_cases hlt : k < N
    · have hkl : k < ps.length := by have := HN.out; omega
      have hcell := (h.2 k hkl).1
      have H := Lib.hid (totG_next hkl)
      have hle2 := totG_le ps (k + 1)
      rw [totG_next hkl] at hle2
      generalize ps[k].l.length = m at hcell H hle2
      generalize ps[k].A = A' at hcell
      generalize ps[k].c = c' at hcell
      generalize totG (ps.take k) = x at H hle hle2
      clear hkl
      go_wp2
      go_round
      case rel => exact ⟨k + 1, by omega, by go_num, by rw [H.out]; go_num⟩
      case measure => simp [intOf]; omega
    · obtain rfl : k = N := by omega
      have H := Lib.hid (show ps.take k = ps from List.take_of_length_le (by have := HN.out; omega))
      rw [H.out]
      go_wp2_with fail
      refine (growE_nil _ _ ht).mono ?_
      rintro e w1 ⟨A1, c1, rfl, hown0, hb1⟩
      go_wp2
      go_loopw [6, 27] (fun v i wr => ∃ (j : Nat) (A2 : Option Addr) (c2 : Nat), j ≤ k ∧ i = .int .i64 j ∧ v = .slice A2 (totG (ps.take j)) c2 ∧ OwnG layE 68 w.heap.size wr A2 (totG (ps.take j)) c2 (catG (ps.take j)) ∧ Below w.heap.size w wr) (fun _ i _ => k - (intOf i).toNat)
      case atStart => exact ⟨0, A1, c1, by omega, rfl, rfl, hown0, hb1⟩
      case round =>
        obtain ⟨j, A2, c2, hj, rfl, rfl, hown, hb⟩ := hrel
        have hle3 := totG_le ps j
        by_cases hlt2 : j < k
        · have hkl : j < ps.length := by have := HN.out; omega
          have hP := h.below (hb.mono hU)
          have hcell := (hP.2 j hkl).1
          have hbs := (hP.2 j hkl).2
          have H1 := Lib.hid (totG_next hkl)
          have H2 := Lib.hid (catG_next hkl)
          have hle2 := totG_le ps (j + 1)
          rw [totG_next hkl] at hle2
          generalize ps[j] = p at hcell H1 H2 hle2 hbs
          clear hP
          clear hkl
          generalize totG (ps.take j) = x at H1 hle3 hle2 hown
          generalize catG (ps.take j) = y at H2 hown
          go_wp2_with (at_builtin; refine wpList_appG entP (by decide) (by decide) (by kernel_rfl) rfl (.tmp 31) (.tmp 32) rfl rfl hown rfl hbs (by omega) (by have := hb.size; omega) ?_; intro A3 c3 w3 happ)
          go_roundw
          case rel => exact ⟨j + 1, A3, c3, by omega, by go_num, by rw [H1.out], by rw [H1.out, H2.out]; exact happ.1, hb.trans happ.2.1⟩
          case measure => simp [intOf]; omega
        · obtain rfl : j = k := by omega
          go_wp2
          go_ret
          rw [H.out] at hown
          exact ⟨A2, c2, by rw [H.out]; rfl, hown, hb⟩

set_option maxHeartbeats 400000 in
theorem cloneF_any (U : Nat) (A : Option Addr) (n c : Nat) (l : List Fv) (w : World) (h : RdG layF U w A n c l) (hU : U ≤ w.heap.size) (hn : n ≤ 100000) :
    Calls Tryz.prog 39 #[.slice A n c] w (RG layF 63 w n l) := by
  have q : ∀ (w : World) (a : Option Addr) (n c n' c' : Nat), (binOp .eql 27 (.slice a n c) (.slice none n' c')).run Tryz.prog w = .ok (.bool a.isNone) w := fun w a n c n' c' => Lib.run_eql_slice_nil w _ _ a n c n' c' Tryz.underlying27
  cases A with
  | none =>
    obtain ⟨rfl, rfl⟩ := nil_of h
    clear h
    go_enter Tryz.func39, Tryz.ntmps39
    go_wp2
    go_ret
    exact ⟨none, 0, rfl, OwnG.nil _ _ _, Below.refl _ _⟩
  | some a =>
    have hlit := OwnG.lit0 (Y := layF) 63 w
    have hr := h.below (w' := w.alloc (.cells #[] 63)) (((Below.refl _ _).alloc (Nat.le_refl _) _).mono hU)
    go_enter Tryz.func39, Tryz.ntmps39
    go_wp2_with (at_builtin; refine wpList_appG filP (by decide) (by decide) (by kernel_rfl) rfl (.tmp 5) (.tmp 6) rfl rfl hlit rfl hr (by omega) (by simp) ?_; intro A' c' w2 happ)
    go_ret
    exact ⟨A', c', by simp, by simpa using happ.1, ((Below.refl _ _).alloc (Nat.le_refl _) _).trans happ.2.1⟩

theorem growF_nil (n : Nat) (w : World) (hn : n ≤ 100000) :
    Calls Tryz.prog 133 #[.slice none 0 0, .int .i64 (n : Int)] w (RG layF 63 w 0 []) := by
  by_cases h0 : n = 0
  · subst h0
    go_enter Tryz.func133, Tryz.ntmps133
    go_wp2
    go_ret
    exact ⟨none, 0, rfl, OwnG.nil _ _ _, Below.refl _ _⟩
  · have hpos : 0 < n := by omega
    obtain ⟨i0, hi0, hz0, hz1, hz2⟩ := info_parts filP.hi
    have hrun := fun ty => Lib.run_append_nil_zeros (P := Tryz.prog) w 27 3 ty 63 i0 _ .i64 .i64 Tryz.underlying27 Tryz.underlying3 hi0 hz0 n hpos (by rw [hz1]; decide) (by omega) (by rw [hz2]; omega)
    have hge := grownCap_ge w n 0 63
    have hcm := grownCap_le_maxLen w n 0 63 (by unfold maxLen; omega)
    generalize grownCap w n 0 63 = G at hrun hge hcm
    generalize hcs : (Builtin.zeroCells (Value.agg #[.slice none 0 0, .int .i64 0]).cells n ++ Builtin.zeroCells (Value.agg #[.slice none 0 0, .int .i64 0]).cells (G - n)) = cs at hrun
    have hsz : cs.size = G * 2 := by
      rw [← hcs, Array.size_append, size_zeroCells, size_zeroCells, show (Value.agg #[.slice none 0 0, .int .i64 0]).cells.size = 2 by kernel_rfl]
      omega
    have HR := Lib.hid hrun
    have HS := Lib.hid hsz
    have HM := Lib.hid hcm
    have hcm2 : G ≤ 9223372036854775807 := by unfold maxLen at hcm; omega
    clear hrun hsz hcm hcs hi0 hz0 hz1 hz2 h0
    go_enter Tryz.func133, Tryz.ntmps133
    go_wp2_with (at_builtin; refine Lib.wpList_append_run _ rfl (.tmp 20) (.tmp 21) _ _ rfl _ _ rfl rfl _ _ (HR.out _) ?_)
    go_ret
    exact ⟨some ⟨w.heap.size, 0, none⟩, G, rfl, ⟨(World.ownsRow_made w cs G (Nat.le_refl _) HM.out (by rw [HS.out]; rfl)).drew, rfl⟩, ((Below.refl _ _).alloc (Nat.le_refl _) _).drew⟩

set_option maxHeartbeats 1000000 in
theorem concatF_any (U b o N c : Nat) (ps : List (PartG Fv)) (w : World) (h : PartsG layF U w b o ps) (hU : U ≤ w.heap.size) (hN : ps.length = N) (hc : c ≤ 9223372036854775807) (hNc : N ≤ c) (ht : totG ps ≤ 100000) :
    Calls Tryz.prog 130 #[.slice (some ⟨b, o, none⟩) N c] w (RG layF 63 w (totG ps) (catG ps)) := by
  have HN := Lib.hid hN
  clear hN
  go_enter Tryz.func130, Tryz.ntmps130
  go_wp2
  go_loop [3, 11] (fun v i => ∃ k : Nat, k ≤ N ∧ i = .int .i64 k ∧ v = .int .i64 (totG (ps.take k) : Nat)) (fun _ i => N - (intOf i).toNat)
  case atStart => exact ⟨0, by omega, rfl, rfl⟩
  case round =>
    obtain ⟨k, hk, rfl, rfl⟩ := hrel
    have hle := totG_le ps k
    by_cases hlt : k < N
    · have hkl : k < ps.length := by have := HN.out; omega
      have hcell := (h.2 k hkl).1
      have H := Lib.hid (totG_next hkl)
      have hle2 := totG_le ps (k + 1)
      rw [totG_next hkl] at hle2
      generalize ps[k].l.length = m at hcell H hle2
      generalize ps[k].A = A' at hcell
      generalize ps[k].c = c' at hcell
      generalize totG (ps.take k) = x at H hle hle2
      clear hkl
      go_wp2
      go_round
      case rel => exact ⟨k + 1, by omega, by go_num, by rw [H.out]; go_num⟩
      case measure => simp [intOf]; omega
    · obtain rfl : k = N := by omega
      have H := Lib.hid (show ps.take k = ps from List.take_of_length_le (by have := HN.out; omega))
      rw [H.out]
      go_wp2_with fail
      refine (growF_nil _ _ ht).mono ?_
      rintro e w1 ⟨A1, c1, rfl, hown0, hb1⟩
      go_wp2
      go_loopw [6, 27] (fun v i wr => ∃ (j : Nat) (A2 : Option Addr) (c2 : Nat), j ≤ k ∧ i = .int .i64 j ∧ v = .slice A2 (totG (ps.take j)) c2 ∧ OwnG layF 63 w.heap.size wr A2 (totG (ps.take j)) c2 (catG (ps.take j)) ∧ Below w.heap.size w wr) (fun _ i _ => k - (intOf i).toNat)
      case atStart => exact ⟨0, A1, c1, by omega, rfl, rfl, hown0, hb1⟩
      case round =>
        obtain ⟨j, A2, c2, hj, rfl, rfl, hown, hb⟩ := hrel
        have hle3 := totG_le ps j
        by_cases hlt2 : j < k
        · have hkl : j < ps.length := by have := HN.out; omega
          have hP := h.below (hb.mono hU)
          have hcell := (hP.2 j hkl).1
          have hbs := (hP.2 j hkl).2
          have H1 := Lib.hid (totG_next hkl)
          have H2 := Lib.hid (catG_next hkl)
          have hle2 := totG_le ps (j + 1)
          rw [totG_next hkl] at hle2
          generalize ps[j] = p at hcell H1 H2 hle2 hbs
          clear hP
          clear hkl
          generalize totG (ps.take j) = x at H1 hle3 hle2 hown
          generalize catG (ps.take j) = y at H2 hown
          go_wp2_with (at_builtin; refine wpList_appG filP (by decide) (by decide) (by kernel_rfl) rfl (.tmp 31) (.tmp 32) rfl rfl hown rfl hbs (by omega) (by have := hb.size; omega) ?_; intro A3 c3 w3 happ)
          go_roundw
          case rel => exact ⟨j + 1, A3, c3, by omega, by go_num, by rw [H1.out], by rw [H1.out, H2.out]; exact happ.1, hb.trans happ.2.1⟩
          case measure => simp [intOf]; omega
        · obtain rfl : j = k := by omega
          go_wp2
          go_ret
          rw [H.out] at hown
          exact ⟨A2, c2, by rw [H.out]; rfl, hown, hb⟩
end Go.Proofs.YtlefpodonkdbeaaGreat.Dw
end
/- What slices.Contains at strings, slices.DeleteFunc and disk.without come to: entries without those of some names, in an array of the call's own. For up to 1000 entries. -/
section
set_option maxRecDepth 8000
namespace Go.Proofs.YtlefpodonkdbeaaGreat.Dw
open Go.RowKit By Dk

/-! ### Memory: an entry stored, a tail cleared -/
theorem cellsE_cons (e : E) (l : List E) : layE.cells (e :: l) = .string (ba e.1) :: .int .i64 e.2 :: layE.cells l := by simp [Lay.cells, layE]
theorem cellsE_put (l : List E) (i : Nat) (h : i < l.length) (q : E) : ((layE.cells l).set (i * 2) (.string (ba q.1))).set (i * 2 + 1) (.int .i64 q.2) = layE.cells (l.set i q) := by
  induction l generalizing i with
  | nil => cases h
  | cons p l ih =>
    match i with
    | 0 => simp [cellsE_cons]
    | i + 1 =>
      rw [cellsE_cons, show (i + 1) * 2 = i * 2 + 2 by omega, show (i * 2 + 2) + 1 = (i * 2 + 1) + 2 by omega]
      simp only [List.set_cons_succ]
      rw [cellsE_cons, ih i (by simpa using h)]
theorem putE {e B g n c : Nat} {w : World} {l : List E} (h : OwnE e B w (some ⟨g, 0, none⟩) n c l) {i : Nat} (hi : i < l.length) (q : E) :
    OwnE e B ((w.setCell ⟨g, i * 2, none⟩ (.string (ba q.1))).setCell ⟨g, i * 2 + 1, none⟩ (.int .i64 q.2)) (some ⟨g, 0, none⟩) n c (l.set i q) := by
  have h1 := (World.ownsRow.stored h.1 (i * 2) (.string (ba q.1))).1
  have h2 := (World.ownsRow.stored h1 (i * 2 + 1) (.int .i64 q.2)).1
  refine ⟨?_, by rw [List.length_set]; exact h.2⟩
  rw [← cellsE_put l i hi q]
  exact h2
theorem atO {e B g n c : Nat} {w : World} {l : List E} (h : OwnE e B w (some ⟨g, 0, none⟩) n c l) {k : Nat} {s : N} {f : Int} (hk : l[k]? = some (s, f)) : w.cell? ⟨g, k * 2, none⟩ = some (.string (ba s)) ∧ w.cell? ⟨g, k * 2 + 1, none⟩ = some (.int .i64 f) := by
  have hlt := (List.getElem?_eq_some_iff.1 hk).1
  obtain ⟨b, o, s', f', e1, _, HE, c1, c2⟩ := atE h.rd (k := k) (by have := h.2; omega)
  simp only [Option.some.injEq, Addr.mk.injEq, and_true] at e1
  obtain ⟨rfl, rfl⟩ := e1
  have e2 := HE.out
  rw [hk] at e2
  injection e2 with e2
  injection e2 with e3 e4
  subst e3; subst e4
  rw [Nat.zero_add] at c1 c2
  exact ⟨c1, c2⟩
theorem headG {α : Type} {Y : Lay α} {e B n c : Nat} {w : World} {A : Option Addr} {l : List α} (h : OwnG Y e B w A n c l) (hn : 0 < n) : ∃ g, A = some ⟨g, 0, none⟩ ∧ B ≤ g ∧ g < w.heap.size := by
  obtain ⟨g, cap, hv, hB, hlt⟩ := World.ownsRow.form h.1 hn
  simp only [Value.slice.injEq, true_and] at hv
  exact ⟨g, hv.1, hB, hlt⟩
theorem grown_trans {a b c : World} {g : Nat} (h : a.grownBy b (some g)) (k : b.grownBy c (some g)) : a.grownBy c (some g) := grownBy_trans h k (.inl rfl)
theorem grown_below {a b c : World} {g : Nat} (h : a.grownBy b (some g)) (k : Below b.heap.size b c) : a.grownBy c (some g) := grown_trans h (grownBy_of_below k _)
theorem zero_oneE (m : Nat) : ∀ v ∈ (Builtin.zeroCells (Value.agg #[.string ⟨#[]⟩, .int .i64 0]).cells m).toList, v.oneCell' = true := by
  intro v hv
  have e : (Value.agg #[.string ⟨#[]⟩, .int .i64 0]).cells = #[.string ⟨#[]⟩, .int .i64 0] := by kernel_rfl
  rw [e] at hv
  simp only [Builtin.zeroCells, Array.toList_map, List.mem_map] at hv
  obtain ⟨i, _, rfl⟩ := hv
  have h2 : i % (#[Value.string ⟨#[]⟩, Value.int .i64 0] : Array Value).size = 0 ∨ i % (#[Value.string ⟨#[]⟩, Value.int .i64 0] : Array Value).size = 1 := by
    have : (#[Value.string ⟨#[]⟩, Value.int .i64 0] : Array Value).size = 2 := rfl
    rw [this]
    omega
  rcases h2 with h2 | h2 <;> rw [h2] <;> rfl
/-- 'clear(s[i:])', and what is left ahead. -/
theorem clear_tail {B g n c : Nat} {W : World} {qs : List E} (hO : OwnE 68 B W (some ⟨g, 0, none⟩) n c qs) {i : Nat} (hi : i < n) :
    ∃ W', (∀ ty, (Builtin.clear_ #[28] ty #[.slice (some ⟨g, i * 2, none⟩) (n - i) (c - i)]).run Tryz.prog W = .ok (.tuple #[]) W') ∧ OwnE 68 B W' (some ⟨g, 0, none⟩) i c (qs.take i) ∧ W.grownBy W' (some g) := by
  have hlen := hO.1.1
  have hl2 := hO.2
  rcases hO.1.2 with ⟨h', _⟩ | ⟨g', cap, cur, h', hBg, hg, hnc, hcm, hsz, htake⟩
  · cases h'
  simp only [Value.slice.injEq, Option.some.injEq, Addr.mk.injEq, true_and, and_true] at h'
  obtain ⟨rfl, rfl⟩ := h'
  have es : layE.s = 2 := rfl
  rw [es] at hsz htake
  obtain ⟨m, hm⟩ : ∃ m, n - i = m + 1 := ⟨n - i - 1, by omega⟩
  have e : (Value.agg #[.string ⟨#[]⟩, .int .i64 0]).cells.size = 2 := by kernel_rfl
  have hvl : (Builtin.zeroCells (Value.agg #[.string ⟨#[]⟩, .int .i64 0]).cells (m + 1)).toList.length = (m + 1) * 2 := by
    rw [Array.length_toList, size_zeroCells, e]
  have hst := run_storeCells_at Tryz.prog g (i * 2) 68 _ 0 cur W hg (by rw [hvl]; omega) (zero_oneE (m + 1))
  refine ⟨W.setRow g (cur.toList.take (i * 2 + 0) ++ (Builtin.zeroCells (Value.agg #[.string ⟨#[]⟩, .int .i64 0]).cells (m + 1)).toList ++ cur.toList.drop (i * 2 + 0 + (Builtin.zeroCells (Value.agg #[.string ⟨#[]⟩, .int .i64 0]).cells (m + 1)).toList.length)).toArray, fun ty => ?_, ⟨⟨?_, .inr ⟨g, c, _, rfl, hBg, setRow_heap W g cur _ _ _ hg, by omega, hcm, ?_, ?_⟩⟩, ?_⟩, ?_⟩
  · rw [hm]
    simp only [Builtin.clear_]
    simp [run_underlying Tryz.underlying28, hst, Result.andThen]
  · rw [layE.cells_len, List.length_take, Nat.min_eq_left (by omega)]
  · rw [es]
    simp only [List.size_toArray, List.length_append, List.length_take, List.length_drop, hvl, Array.length_toList, hsz]
    omega
  · rw [es, layE.cells_take _ _ (by omega), es, ← htake, List.take_take]
    simp only [Nat.add_zero]
    rw [List.append_assoc, List.take_append_of_le_length (by rw [List.length_take, Array.length_toList, hsz]; omega), List.take_take]
    congr 1
    omega
  · rw [List.length_take]; omega
  · exact ⟨rfl, rfl, rfl, by simp, fun k _ hne => setRow_other W g k _ (fun e => hne (by rw [e]))⟩

/-! ### Mathematics -/
def dropE (l : List E) (q : E → Bool) : List E := l.filter fun e => !q e
theorem dropE_none {l : List E} {q : E → Bool} (h : ∀ e ∈ l, q e = false) : dropE l q = l := List.filter_eq_self.2 fun e he => by rw [h e he]; rfl
theorem dropE_keep {l : List E} {q : E → Bool} {j : Nat} {x : E} (h : l[j]? = some x) (hc : q x = false) : dropE (l.take (j + 1)) q = dropE (l.take j) q ++ [x] := by
  unfold dropE
  rw [take_next h, List.filter_append]
  simp [hc]
theorem dropE_drop {l : List E} {q : E → Bool} {j : Nat} {x : E} (h : l[j]? = some x) (hc : q x = true) : dropE (l.take (j + 1)) q = dropE (l.take j) q := by
  unfold dropE
  rw [take_next h, List.filter_append]
  simp [hc]
/-- What DeleteFunc's loop holds of the array. -/
def HalfE (ps qs : List E) (q : E → Bool) (i j : Nat) : Prop := qs.length = ps.length ∧ qs.take i = dropE (ps.take j) q ∧ qs.drop j = ps.drop j ∧ (dropE (ps.take j) q).length = i ∧ i < j
theorem half_start {ps : List E} {q : E → Bool} {i : Nat} {x : E} (hi : ps[i]? = some x) (hc : q x = true) (hn : ∀ k, k < i → hitE q ps k = false) : HalfE ps ps q i (i + 1) := by
  have hlt := (List.getElem?_eq_some_iff.1 hi).1
  have e : dropE (ps.take (i + 1)) q = ps.take i := by
    rw [dropE_drop hi hc]
    refine dropE_none fun e he => ?_
    obtain ⟨k, hk⟩ := List.mem_iff_getElem?.1 he
    have hk1 := (List.getElem?_eq_some_iff.1 hk).1
    rw [List.length_take] at hk1
    rw [List.getElem?_take, if_pos (by omega)] at hk
    rw [← hit_at (q := q) hk]
    exact hn k (by omega)
  exact ⟨rfl, e.symm, rfl, by rw [e, List.length_take]; omega, by omega⟩
theorem half_get {ps qs : List E} {q : E → Bool} {i j : Nat} (h : HalfE ps qs q i j) (_ : j < ps.length) : qs[j]? = ps[j]? := by
  obtain ⟨h1, _, h3, _⟩ := h
  have e1 : (qs.drop j)[0]? = (ps.drop j)[0]? := by rw [h3]
  rw [List.getElem?_drop, List.getElem?_drop] at e1
  simpa using e1
theorem half_drop {ps qs : List E} {q : E → Bool} {i j : Nat} {x : E} (h : HalfE ps qs q i j) (hj : ps[j]? = some x) (hc : q x = true) : HalfE ps qs q i (j + 1) := by
  obtain ⟨h1, h2, h3, h4, h5⟩ := h
  refine ⟨h1, by rw [dropE_drop hj hc]; exact h2, ?_, by rw [dropE_drop hj hc]; exact h4, by omega⟩
  rw [← List.drop_drop, h3, List.drop_drop]
theorem half_keep {ps qs : List E} {q : E → Bool} {i j : Nat} {x : E} (h : HalfE ps qs q i j) (hj : ps[j]? = some x) (hc : q x = false) : HalfE ps (qs.set i x) q (i + 1) (j + 1) := by
  obtain ⟨h1, h2, h3, h4, h5⟩ := h
  have hlt := (List.getElem?_eq_some_iff.1 hj).1
  refine ⟨by simpa using h1, ?_, ?_, by rw [dropE_keep hj hc, List.length_append, h4]; rfl, by omega⟩
  · rw [dropE_keep hj hc, ← h2]
    rw [List.take_succ_eq_append_getElem (by simp; omega), List.take_set_of_le (Nat.le_refl _)]
    simp
  · rw [List.drop_set_of_lt (by omega), ← List.drop_drop, h3, List.drop_drop]

/-! ### slices.Contains at strings, the closure -/
def memB (ns : List N) (t : N) : Bool := decide (t ∈ ns)
theorem strV_get {l : List N} {k : Nat} (h : k < l.length) : (strV l)[k]'(by rw [strV_len]; exact h) = .string (ba l[k]) := by simp [strV]
set_option maxHeartbeats 400000 in
theorem indexS_any (A : Option Addr) (n c : Nat) (ns : List N) (t : N) (w : World) (h : Rd w A n c (strV ns)) :
    Calls Tryz.prog 117 #[.slice A n c, .string (ba t)] w fun e w' => (∃ i : Int, e = .returned (.int .i64 i) ∧ decide (0 ≤ i) = memB ns t) ∧ w = w' := by
  have hl : Hid (ns.length = n) := by have := h.len; rwa [strV_len] at this
  have hm := h.max
  have hcap := h.cap
  go_enter Tryz.func117, Tryz.ntmps117
  go_wp2
  go_loop [8] (fun i => ∃ k : Nat, k ≤ n ∧ i = .int .i64 k ∧ t ∉ ns.take k) (fun i => n - (intOf i).toNat)
  case atStart => exact ⟨0, by omega, rfl, by simp⟩
  case round =>
    obtain ⟨k, hk, rfl, hs⟩ := hrel
    have HS := Lib.hid hs
    clear hs
    by_cases hlt : k < n
    · obtain ⟨b, o, rfl, hc⟩ := h.at_ hlt
      have hkl : k < ns.length := by have := hl.out; omega
      have hcell := hc k (by rw [strV_len]; exact hkl)
      rw [strV_get hkl] at hcell
      clear hc
      by_cases he : t = ns[k]
      · have H : Hid (memB ns t = true) := decide_eq_true (by rw [he]; exact List.getElem_mem hkl)
        have hb := same_yes he
        clear he
        generalize ns[k] = y at hcell hb
        clear hkl
        go_wp2
        go_ret
        exact ⟨⟨_, rfl, by rw [H.out]; simp⟩, rfl⟩
      · have H : Hid (t ∉ ns.take (k + 1)) := by
          show ¬ _
          rw [List.take_succ_eq_append_getElem hkl]
          intro hm
          rcases List.mem_append.1 hm with hm | hm
          · exact HS.out hm
          · simp at hm; exact he hm
        have hb := same_no he
        clear he
        generalize ns[k] = y at hcell hb
        clear hkl
        go_wp2
        go_round
        case rel => exact ⟨k + 1, by omega, by go_num, H.out⟩
        case measure => simp [intOf]; omega
    · obtain rfl : k = n := by omega
      have H : Hid (memB ns t = false) := decide_eq_false (by have := HS.out; rwa [List.take_of_length_le (by rw [hl.out]; exact Nat.le_refl _)] at this)
      go_wp2
      go_ret
      exact ⟨⟨_, rfl, by rw [H.out]; rfl⟩, rfl⟩
theorem containsS_any (A : Option Addr) (n c : Nat) (ns : List N) (t : N) (w : World) (h : Rd w A n c (strV ns)) :
    Calls Tryz.prog 94 #[.slice A n c, .string (ba t)] w fun e w' => e = .returned (.bool (memB ns t)) ∧ w = w' := by
  have HC := Lib.hid (indexS_any A n c ns t w h)
  clear h
  go_enter Tryz.func94, Tryz.ntmps94
  go_wp2_with fail
  refine HC.out.mono ?_
  rintro e w1 ⟨⟨i, rfl, hi⟩, rfl⟩
  have HI := Lib.hid hi
  clear hi
  go_wp2
  go_ret
  exact ⟨ret_bool HI.out, rfl⟩
/-- The names that a closure holds, at g. -/
def Nms (w : World) (g : Nat) (ns : List N) : Prop := g < w.heap.size ∧ ∃ A n c, w.cell? ⟨g, 0, none⟩ = some (.slice A n c) ∧ Rd w A n c (strV ns)
theorem Nms.below {w w' : World} {g : Nat} {ns : List N} (h : Nms w g ns) (hb : Below w.heap.size w w') : Nms w' g ns := by
  obtain ⟨h1, A, n, c, h2, h3⟩ := h
  exact ⟨Nat.lt_of_lt_of_le h1 hb.size, A, n, c, (hb.cell (p := ⟨g, 0, none⟩) h1).trans h2, h3.below hb⟩
theorem without1_any (s : N) (f : Int) (g : Nat) (ns : List N) (w : World) (h : Nms w g ns) :
    Calls Tryz.prog 93 #[.agg #[.string (ba s), .int .i64 f], .pointer (some ⟨g, 0, none⟩)] w (isB w (memB ns s)) := by
  have hb : Below w.heap.size w (w.alloc (.cells #[.string (ba s), .int .i64 f] 68)) := (Below.refl _ _).alloc (Nat.le_refl _) _
  obtain ⟨hg, A, n, c, h2, h3⟩ := h
  have hne : g ≠ w.heap.size := by omega
  have HC := Lib.hid (containsS_any A n c ns s (w.alloc (.cells #[.string (ba s), .int .i64 f] 68)) (h3.below hb))
  clear h3
  go_enter Tryz.func93, Tryz.ntmps93
  go_wp2_with fail
  refine HC.out.mono ?_
  rintro e w1 ⟨rfl, rfl⟩
  go_wp2
  go_ret
  exact ⟨rfl, hb⟩

/-! ### DeleteFunc -/
def namedQ (ns : List N) (e : E) : Bool := memB ns e.1
def StD (B g n c : Nat) (ps : List E) (q : E → Bool) (w : World) (v5 v6 : Value) (wr : World) : Prop :=
  ∃ (i j : Nat) (qs : List E), j ≤ n ∧ v6 = .int .i64 (j : Nat) ∧ v5 = .int .i64 (i : Nat) ∧ OwnE 68 B wr (some ⟨g, 0, none⟩) n c qs ∧ HalfE ps qs q i j ∧ w.grownBy wr (some g)
/-- A slice of the call's own array that holds the entries qs. -/
def DeR (B : Nat) (w : World) (qs : List E) (e : Ending) (w' : World) : Prop := ∃ A' k c', e = .returned (.slice A' k c') ∧ OwnE 68 B w' A' k c' qs ∧ Below B w w'
set_option maxHeartbeats 2000000 in
theorem deleteE_any (B : Nat) (A : Option Addr) (n c : Nat) (ps : List E) (ns : List N) (gb : Nat) (w : World) (hB : B ≤ w.heap.size) (hO : OwnE 68 B w A n c ps) (hn : n ≤ 1000) (_ : gb < B) (hns : ∀ W, Below B w W → Nms W gb ns) :
    Calls Tryz.prog 91 #[.slice A n c, .func (.func 93) #[] #[.pointer (some ⟨gb, 0, none⟩)]] w (DeR B w (dropE ps (namedQ ns))) := by
  have HL := Lib.hid hO.2
  have hmax := hO.rd.max
  have hcap := hO.rd.cap
  have HNS := Lib.hid hns
  have HIX := Lib.hid (indexE_gen 93 gb Tryz.call93 w.heap.size A n c ps (hitE (namedQ ns) ps) (fun _ W => Below w.heap.size w W) w hO.rd (fun _ W hW => hO.rd.below hW) (Below.refl _ _) (fun k s f W hk hW => by
    refine (without1_any s f gb ns W (hns W (hW.mono hB))).mono ?_
    rintro e W' ⟨rfl, hb⟩
    exact ⟨by rw [hit_at hk]; rfl, hW.trans (hb.mono hW.size)⟩))
  clear hns
  go_enter Tryz.func91, Tryz.ntmps91
  go_wp2_with fail
  refine HIX.out.mono ?_
  rintro e w1 (⟨i, hin, rfl, h1, h2, hb1⟩ | ⟨rfl, h2, hb1⟩)
  rotate_left
  · have HK : Hid (dropE ps (namedQ ns) = ps) := dropE_none (hit_none (by rw [HL.out]; exact h2))
    clear h2
    go_wp2
    go_ret
    exact ⟨A, n, c, rfl, by rw [HK.out]; exact hO.below hb1, hb1.mono hB⟩
  obtain ⟨x0, hx0, hq0⟩ := hit_some h1
  have HH := Lib.hid (half_start hx0 hq0 h2)
  obtain ⟨g, rfl, hBg, hglt⟩ := headG hO (by omega)
  have hi1 : ((i : Int) == -1) = false := by simp
  have hO1 := hO.below hb1
  have hg1 : w.grownBy w1 (some g) := grownBy_of_below hb1 _
  clear hx0 hq0 h1 h2 x0
  go_wp2
  go_loopw [5, 6] (fun v5 v6 wr => StD B g n c ps (namedQ ns) w v5 v6 wr) (fun _ v6 _ => n - (intOf v6).toNat)
  case atStart => exact ⟨i, i + 1, ps, by omega, by go_num, rfl, hO1, HH.out, hg1⟩
  case round =>
    clear hi1 hin HH hO1 hg1 HIX
    obtain ⟨i, j, qs, hjn, rfl, rfl, hOr, hhalf, hgr⟩ := hrel
    have HHr := Lib.hid hhalf
    have hij : i < j := hhalf.2.2.2.2
    clear hhalf
    have hbB : Below B w wr := (Below.refl _ _).grown hgr hB (fun k hk => by cases hk; exact hBg)
    by_cases hlt : j < n
    · have hjp : j < ps.length := by have := HL.out; omega
      obtain ⟨s, f, hps⟩ : ∃ s f, ps[j]? = some (s, f) := ⟨_, _, List.getElem?_eq_getElem hjp⟩
      have hqs := (half_get HHr.out hjp).trans hps
      have hiq : i < qs.length := by have h1 := HHr.out.1; omega
      obtain ⟨si, fi, hqi⟩ : ∃ s f, qs[i]? = some (s, f) := ⟨_, _, List.getElem?_eq_getElem hiq⟩
      obtain ⟨c1, c2⟩ := atO hOr hqs
      obtain ⟨d1, d2⟩ := atO hOr hqi
      have HKP := Lib.hid (half_keep HHr.out hps)
      have HDR := Lib.hid (half_drop HHr.out hps)
      have hglr : g < wr.heap.size := World.block_lt_of_cell? wr _ c1
      have hba : Below wr.heap.size wr (wr.alloc (.cells #[.string (ba s), .int .i64 f] 68)) := (Below.refl _ _).alloc (Nat.le_refl _) _
      have hcel := Cel.born wr 68 #[.string (ba s), .int .i64 f]
      have HW1 := Lib.hid (without1_any s f gb ns (wr.alloc (.cells #[.string (ba s), .int .i64 f] 68)) (HNS.out _ (hbB.trans (hba.mono (Nat.le_trans hB hgr.size)))))
      clear hqs hqi hps hjp
      go_wp2_with fail
      refine HW1.out.mono ?_
      rintro e w2 ⟨rfl, hb2⟩
      have hb02 := hba.trans (hb2.mono hba.size)
      have hO2 := hOr.below hb02
      cases he : memB ns s with
      | true =>
        have H := Lib.hid (HDR.out he)
        have hg2 := Lib.hid (grown_below hgr hb02)
        clear he hcel d1 d2 c1 c2
        go_wp2
        go_roundw
        case rel => exact ⟨i, j + 1, qs, by omega, by go_num, rfl, hO2, H.out, hg2.out⟩
        case measure => simp [intOf]; omega
      | false =>
        have H := Lib.hid (HKP.out he)
        have hcel2 := hcel.below hb2 hcel.lt
        have k1 : w2.cell? ⟨wr.heap.size, 0, none⟩ = some (.string (ba s)) := by rw [hcel2.cell]; rfl
        have k2 : w2.cell? ⟨wr.heap.size, 1, none⟩ = some (.int .i64 f) := by rw [hcel2.cell]; rfl
        have e1 : w2.cell? ⟨g, i * 2, none⟩ = some (.string (ba si)) := (hb02.cell (p := ⟨g, i * 2, none⟩) hglr).trans d1
        have e2 : w2.cell? ⟨g, i * 2 + 1, none⟩ = some (.int .i64 fi) := (hb02.cell (p := ⟨g, i * 2 + 1, none⟩) hglr).trans d2
        have f1 : w2.frozen? ⟨g, i * 2, none⟩ = false := World.ownsRow.frozenAt hO2.1 _
        have f2 : w2.frozen? ⟨g, i * 2 + 1, none⟩ = false := World.ownsRow.frozenAt hO2.1 _
        have hput := Lib.hid (putE hO2 hiq (s, f))
        have hg2 := Lib.hid (grown_trans (grown_trans (grown_below hgr hb02) (grown_set w2 g (i * 2) (.string (ba s)))) (grown_set _ g (i * 2 + 1) (.int .i64 f)))
        clear hcel hcel2 hOr d1 d2 hO2 he c1 c2
        go_wp2
        go_roundw
        case rel => exact ⟨i + 1, j + 1, qs.set i (s, f), by omega, by go_num, by go_num, hput.out, H.out, hg2.out⟩
        case measure => simp [intOf]; omega
    · obtain rfl : j = n := by omega
      have HE : Hid (qs.take i = dropE ps (namedQ ns)) := by
        obtain ⟨_, h2, _⟩ := HHr.out
        show qs.take i = _
        rw [h2, List.take_of_length_le (by have := HL.out; omega)]
      obtain ⟨W', hclr, hown', hgr'⟩ := clear_tail hOr hij
      have HO' := Lib.hid hown'
      have HG' := Lib.hid (grown_trans hgr hgr')
      clear hown' hgr' hOr hgr hbB
      go_wp2
      go_ret
      exact ⟨_, i, c, rfl, by rw [← HE.out]; exact HO'.out, (Below.refl _ _).grown HG'.out hB (fun k hk => by cases hk; exact hBg)⟩

/-! ### without -/
def withoutNs (l : List E) (ns : List N) : List E := dropE l (namedQ ns)
theorem without_one (l : List E) (t : N) : withoutNs l [t] = withoutE l t := by
  unfold withoutNs dropE withoutE namedQ memB
  congr 1
  funext e
  simp
theorem without_two (l : List E) (a b : N) : withoutNs l [a, b] = withoutE (withoutE l a) b := by
  unfold withoutNs dropE withoutE namedQ memB
  rw [List.filter_filter]
  congr 1
  funext e
  simp
  rw [Bool.and_comm]
set_option maxHeartbeats 1000000 in
theorem without_any (A : Option Addr) (n c : Nat) (l : List E) (As : Option Addr) (m d : Nat) (ns : List N) (w : World) (h : RdE w.heap.size w A n c l) (hn : n ≤ 1000) (hs : Rd w As m d (strV ns)) :
    Calls Tryz.prog 64 #[.slice A n c, .slice As m d] w (DeR w.heap.size w (withoutNs l ns)) := by
  obtain ⟨w1, hw1⟩ : ∃ w1, w1 = w.alloc (.cells #[.slice As m d] 129) := ⟨_, rfl⟩
  have hb1 : Below w.heap.size w w1 := by rw [hw1]; exact (Below.refl _ _).alloc (Nat.le_refl _) _
  have hc1 : Cel w1 w.heap.size 129 #[.slice As m d] := by rw [hw1]; exact Cel.born w _ _
  have HCL := Lib.hid (cloneE_any w.heap.size A n c l w1 (h.below hb1) hb1.size (by omega))
  have hnm : Nms w1 w.heap.size ns := ⟨hc1.lt, As, m, d, by rw [hc1.cell]; rfl, hs.below hb1⟩
  have HNM := Lib.hid hnm
  have HB1 := Lib.hid hb1
  have hlt := hc1.lt
  clear h hb1 hc1 hs hnm
  go_enter Tryz.func64, Tryz.ntmps64
  go_wp2_with fail
  rw [← hw1]
  clear hw1
  refine HCL.out.mono ?_
  rintro e w2 ⟨A2, c2, rfl, hown, hb2⟩
  have HDE := Lib.hid (deleteE_any w1.heap.size A2 n c2 l ns w.heap.size w2 hb2.size hown hn hlt (fun W hW => HNM.out.below (hb2.trans hW)))
  have HB2 := Lib.hid hb2
  clear hown hb2
  go_wp2_with fail
  refine HDE.out.mono ?_
  rintro e w3 ⟨A3, k3, c3, rfl, hown3, hb3⟩
  go_wp2
  go_ret
  exact ⟨A3, k3, c3, rfl, hown3.mono HB1.out.size, (HB1.out.trans (HB2.out.mono HB1.out.size)).trans (hb3.mono HB1.out.size)⟩
end Go.Proofs.YtlefpodonkdbeaaGreat.Dw
end
/- What disk's inserted, withFile and created come to. For disks of up to 1000 entries. -/
section
set_option maxRecDepth 8000
namespace Go.Proofs.YtlefpodonkdbeaaGreat.Dw
open Go.RowKit By Dk

/-! ### inserted -/
theorem gtr_is (a b : N) : (!(Op.bytesLess (ba a).toList (ba b).toList || (ba a).toList == (ba b).toList)) = decide (b < a) := by
  rw [bytesLess_eq, ba_list, ba_list]
  by_cases h : a < b
  · have : ¬ b < a := fun k => lt_irr a (lt_tr h k)
    simp [h, this]
  · by_cases h2 : a = b
    · subst h2
      simp [lt_irr]
    · have := lt_or h h2
      simp [h, h2, this]
theorem greater_is (s : N) (f : Int) (t : N) (g : Nat) (w : World) (hg : g < w.heap.size) (hc : w.cell? ⟨g, 0, none⟩ = some (.string (ba t))) :
    Calls Tryz.prog 131 #[.agg #[.string (ba s), .int .i64 f], .pointer (some ⟨g, 0, none⟩)] w (isB w (decide (t < s))) := by
  have hne : g ≠ w.heap.size := by omega
  have HS := Lib.hid (gtr_is s t)
  go_enter Tryz.func131, Tryz.ntmps131
  go_wp2
  go_ret
  exact ⟨ret_bool (by rw [← HS.out]; simp), (Below.refl _ _).alloc (Nat.le_refl _) _⟩
theorem with_at : ∀ {l : List E} {t : N} {f : Int} {j : Nat} {x : E}, l[j]? = some x → t < x.1 → (∀ i, i < j → hitE (fun e => decide (t < e.1)) l i = false) → withE l t f = l.take j ++ [(t, f)] ++ l.drop j
  | [], _, _, _, _, h, _, _ => by simp at h
  | e :: l, t, f, 0, x, h, hx, _ => by
    simp at h
    subst h
    rw [withE, if_pos hx]
    rfl
  | e :: l, t, f, j + 1, x, h, hx, hn => by
    have h0 := hn 0 (by omega)
    rw [hit_at (e := e) rfl] at h0
    simp only [decide_eq_false_iff_not] at h0
    rw [withE, if_neg h0, with_at (j := j) (x := x) (by simpa using h) hx fun i hi => by
      have := hn (i + 1) (by omega)
      unfold hitE at this ⊢
      rwa [List.getElem?_cons_succ] at this]
    rfl
theorem with_end : ∀ {l : List E} {t : N} {f : Int}, (∀ e ∈ l, decide (t < e.1) = false) → withE l t f = l ++ [(t, f)]
  | [], _, _, _ => rfl
  | e :: l, t, f, h => by
    have h0 := h e (.head _)
    simp only [decide_eq_false_iff_not] at h0
    rw [withE, if_neg h0, with_end fun a ha => h a (.tail _ ha)]
    rfl
set_option maxHeartbeats 2000000 in
theorem inserted_any (A : Option Addr) (n c : Nat) (l : List E) (t : N) (f : Int) (w : World) (h : RdE w.heap.size w A n c l) (hn : n ≤ 1000) :
    Calls Tryz.prog 126 #[.slice A n c, .agg #[.string (ba t), .int .i64 f]] w (RG layE 68 w (n + 1) (withE l t f)) := by
  obtain ⟨w1, hw1⟩ : ∃ w1, w1 = w.alloc (.cells #[.string (ba t), .int .i64 f] 68) := ⟨_, rfl⟩
  have hb1 : Below w.heap.size w w1 := by rw [hw1]; exact (Below.refl _ _).alloc (Nat.le_refl _) _
  have hc1 : Cel w1 w.heap.size 68 #[.string (ba t), .int .i64 f] := by rw [hw1]; exact Cel.born w _ _
  have k2 : w1.cell? ⟨w.heap.size, 0, none⟩ = some (.string (ba t)) := by rw [hc1.cell]; rfl
  have HL := Lib.hid h.len
  have hm := h.max
  have hcap := h.cap
  have HIX := Lib.hid (indexE_gen 131 w.heap.size Tryz.call131 w.heap.size A n c l (hitE (fun e => decide (t < e.1)) l) (fun _ W => Below w1.heap.size w1 W) w1 (h.below hb1) (fun _ W hW => (h.below hb1).below (hW.mono hb1.size)) (Below.refl _ _) (fun k s f W hk hW => by
    refine (greater_is s f t w.heap.size W (Nat.lt_of_lt_of_le hc1.lt hW.size) ((hW.cell (p := ⟨w.heap.size, 0, none⟩) hc1.lt).trans k2)).mono ?_
    rintro e W' ⟨rfl, hb⟩
    exact ⟨by rw [hit_at hk], hW.trans (hb.mono hW.size)⟩))
  -- the tail, at any place
  have TAIL : Hid (∀ (w2 : World) (j : Nat), Below w1.heap.size w1 w2 → j ≤ n → withE l t f = l.take j ++ [(t, f)] ++ l.drop j →
      ∃ A1 A3, (∀ W, (Instr.slice 28 (.slice A n c) none (some (.int .i64 (j : Int))) none).run Tryz.prog W = .ok (.slice A1 j c) W) ∧ (∀ W, (Instr.slice 28 (.slice A n c) (some (.int .i64 (j : Int))) none none).run Tryz.prog W = .ok (.slice A3 (n - j) (c - j)) W) ∧
      Calls Tryz.prog 132 #[.slice (some ⟨w2.heap.size + 1, 0, none⟩) 3 3] ((w2.drew.alloc (.cells #[.string (ba t), .int .i64 f] 68)).alloc (.cells #[.slice A1 j c, .slice (some ⟨w2.heap.size, 0, none⟩) 1 1, .slice A3 (n - j) (c - j)] 28)) (fun e w' => RG layE 68 w (n + 1) (withE l t f) e w')) := by
    intro w2 j hb2 hj hw
    have hr := (h.below hb1).below (hb2.mono hb1.size)
    obtain ⟨A1, hA1, hrun1⟩ := entP.cut_h hr j (j : Int) rfl hj
    obtain ⟨A3, hA3, hrun3⟩ := entP.cut_l hr j (j : Int) rfl hj
    refine ⟨A1, A3, hrun1, hrun3, ?_⟩
    have hl := h.len
    have e1 : (l.take j).length = j := by rw [List.length_take]; omega
    have e3 : (l.drop j).length = n - j := by rw [List.length_drop]; omega
    have hs12 := hb2.size
    have hs01 := hb1.size
    have hal : Below w2.heap.size w2 (w2.drew.alloc (.cells #[.string (ba t), .int .i64 f] 68)) := (Below.refl _ _).drew.alloc (Nat.le_refl _) _
    have hal2 : Below w2.heap.size w2 ((w2.drew.alloc (.cells #[.string (ba t), .int .i64 f] 68)).alloc (.cells #[.slice A1 j c, .slice (some ⟨w2.heap.size, 0, none⟩) 1 1, .slice A3 (n - j) (c - j)] 28)) := hal.alloc (by simp) _
    have hsz : ((w2.drew.alloc (.cells #[.string (ba t), .int .i64 f] 68)).alloc (.cells #[.slice A1 j c, .slice (some ⟨w2.heap.size, 0, none⟩) 1 1, .slice A3 (n - j) (c - j)] 28)).heap.size = w2.heap.size + 2 := by simp
    have hcp := Cel.born (w2.drew.alloc (.cells #[.string (ba t), .int .i64 f] 68)) 28 #[.slice A1 j c, .slice (some ⟨w2.heap.size, 0, none⟩) 1 1, .slice A3 (n - j) (c - j)]
    rw [show (w2.drew.alloc (.cells #[.string (ba t), .int .i64 f] 68)).heap.size = w2.heap.size + 1 by simp] at hcp
    have hlit : RdE (w2.heap.size + 1) (w2.drew.alloc (.cells #[.string (ba t), .int .i64 f] 68)) (some ⟨w2.heap.size, 0, none⟩) 1 1 [(t, f)] := litE w2.drew t f
    have hparts : PartsG layE (w2.heap.size + 2) ((w2.drew.alloc (.cells #[.string (ba t), .int .i64 f] 68)).alloc (.cells #[.slice A1 j c, .slice (some ⟨w2.heap.size, 0, none⟩) 1 1, .slice A3 (n - j) (c - j)] 28)) (w2.heap.size + 1) 0 [⟨A1, c, l.take j⟩, ⟨some ⟨w2.heap.size, 0, none⟩, 1, [(t, f)]⟩, ⟨A3, c - j, l.drop j⟩] := by
      refine ⟨by omega, fun i hi => ?_⟩
      match i, hi with
      | 0, _ => exact ⟨by rw [hcp.cell]; show _ = some (Value.slice A1 (l.take j).length c); rw [e1]; rfl, by show RdG _ _ _ A1 (l.take j).length c (l.take j); rw [e1]; exact (hA1.below (hal2.mono (by omega))).mono (by omega)⟩
      | 1, _ => exact ⟨by rw [hcp.cell]; rfl, (hlit.below ((Below.refl _ _).alloc (by simp) _)).mono (by omega)⟩
      | 2, _ => exact ⟨by rw [hcp.cell]; show _ = some (Value.slice A3 (l.drop j).length (c - j)); rw [e3]; rfl, by show RdG _ _ _ A3 (l.drop j).length (c - j) (l.drop j); rw [e3]; exact (hA3.below (hal2.mono (by omega))).mono (by omega)⟩
    have htot : totG [(⟨A1, c, l.take j⟩ : PartG E), ⟨some ⟨w2.heap.size, 0, none⟩, 1, [(t, f)]⟩, ⟨A3, c - j, l.drop j⟩] = n + 1 := by
      simp [totG]
      omega
    have hcat : catG [(⟨A1, c, l.take j⟩ : PartG E), ⟨some ⟨w2.heap.size, 0, none⟩, 1, [(t, f)]⟩, ⟨A3, c - j, l.drop j⟩] = withE l t f := by
      rw [hw]
      simp [catG]
    refine (concatE_any (w2.heap.size + 2) (w2.heap.size + 1) 0 3 3 _ _ hparts (by rw [hsz]; exact Nat.le_refl _) rfl (by omega) (by omega) (by rw [htot]; omega)).mono ?_
    rintro e w' ⟨A5, c5, rfl, hown, hb5⟩
    rw [htot, hcat] at hown
    rw [hsz] at hown hb5
    exact ⟨A5, c5, by rw [htot], hown.mono (by omega), ((hb1.trans (hb2.mono hs01)).trans (hal2.mono (by omega))).trans (hb5.mono (by omega))⟩
  have HC1 := Lib.hid hc1
  clear h hb1 hc1 k2
  go_enter Tryz.func126, Tryz.ntmps126
  go_wp2_with fail
  rw [← hw1]
  clear hw1
  refine HIX.out.mono ?_
  rintro e w2 (⟨j, hj, rfl, h1, h2, hb2⟩ | ⟨rfl, h2, hb2⟩)
  · obtain ⟨x, hx, hq⟩ := hit_some h1
    obtain ⟨A1, A3, hr1, hr3, hcall⟩ := TAIL.out w2 j hb2 (by omega) (with_at hx (by simpa using hq) h2)
    have hk := HC1.out.below hb2 HC1.out.lt
    have q0 : w2.cell? ⟨w.heap.size, 0, none⟩ = some (.string (ba t)) := by rw [hk.cell]; rfl
    have q1 : w2.cell? ⟨w.heap.size, 1, none⟩ = some (.int .i64 f) := by rw [hk.cell]; rfl
    have HCALL := Lib.hid hcall
    clear h1 h2 hx hq x hk hcall
    go_wp2_with fail
    go_region_with ((go_at_call 132; refine HCALL.out.mono ?_; rintro e w3 ⟨A5, c5, rfl, hown5, hb5⟩))
    all_goals (
      go_wp2
      go_ret
      exact ⟨A5, c5, rfl, hown5, hb5⟩)
  · obtain ⟨A1, A3, hr1, hr3, hcall⟩ := TAIL.out w2 n hb2 (Nat.le_refl _) (by
      rw [with_end (hit_none (q := fun e => decide (t < e.1)) (by rw [HL.out]; exact h2)), List.take_of_length_le (by rw [HL.out]; exact Nat.le_refl _), List.drop_of_length_le (by rw [HL.out]; exact Nat.le_refl _), List.append_nil])
    have hk := HC1.out.below hb2 HC1.out.lt
    have q0 : w2.cell? ⟨w.heap.size, 0, none⟩ = some (.string (ba t)) := by rw [hk.cell]; rfl
    have q1 : w2.cell? ⟨w.heap.size, 1, none⟩ = some (.int .i64 f) := by rw [hk.cell]; rfl
    simp only [Nat.sub_self] at hr3 hcall
    have HCALL := Lib.hid hcall
    clear h2 hk hcall
    go_wp2_with fail
    go_region_with ((go_at_call 132; refine HCALL.out.mono ?_; rintro e w3 ⟨A5, c5, rfl, hown5, hb5⟩))
    all_goals (
      go_wp2
      go_ret
      exact ⟨A5, c5, rfl, hown5, hb5⟩)
end Go.Proofs.YtlefpodonkdbeaaGreat.Dw
end
/- What disk's withFile and created come to. For disks of up to 1000 entries. -/
section
set_option maxRecDepth 8000
namespace Go.Proofs.YtlefpodonkdbeaaGreat.Dw
open Go.RowKit By Dk

/-! ### Memory: a file stored -/
theorem cellsF_cons (e : Fv) (l : List Fv) : layF.cells (e :: l) = .slice e.A e.l.length e.c :: .int .i64 e.s :: layF.cells l := by simp [Lay.cells, layF]
theorem cellsF_put (l : List Fv) (i : Nat) (h : i < l.length) (q : Fv) : ((layF.cells l).set (i * 2) (.slice q.A q.l.length q.c)).set (i * 2 + 1) (.int .i64 q.s) = layF.cells (l.set i q) := by
  induction l generalizing i with
  | nil => cases h
  | cons p l ih =>
    match i with
    | 0 => simp [cellsF_cons]
    | i + 1 =>
      rw [cellsF_cons, show (i + 1) * 2 = i * 2 + 2 by omega, show (i * 2 + 2) + 1 = (i * 2 + 1) + 2 by omega]
      simp only [List.set_cons_succ]
      rw [cellsF_cons, ih i (by simpa using h)]
theorem putF {e B g n c : Nat} {w : World} {l : List Fv} (h : OwnG layF e B w (some ⟨g, 0, none⟩) n c l) {i : Nat} (hi : i < l.length) (q : Fv) :
    OwnG layF e B ((w.setCell ⟨g, i * 2, none⟩ (.slice q.A q.l.length q.c)).setCell ⟨g, i * 2 + 1, none⟩ (.int .i64 q.s)) (some ⟨g, 0, none⟩) n c (l.set i q) := by
  have h1 := (World.ownsRow.stored h.1 (i * 2) (.slice q.A q.l.length q.c)).1
  have h2 := (World.ownsRow.stored h1 (i * 2 + 1) (.int .i64 q.s)).1
  refine ⟨?_, by rw [List.length_set]; exact h.2⟩
  rw [← cellsF_put l i hi q]
  exact h2
theorem atOF {e B g n c : Nat} {w : World} {l : List Fv} (h : OwnG layF e B w (some ⟨g, 0, none⟩) n c l) {k : Nat} (hk : k < n) : ∃ v, l[k]? = some v ∧ w.cell? ⟨g, k * 2, none⟩ = some (.slice v.A v.l.length v.c) ∧ w.cell? ⟨g, k * 2 + 1, none⟩ = some (.int .i64 v.s) := by
  obtain ⟨b, o, e1, _, x, hx, hc⟩ := h.rd.at_ hk
  simp only [Option.some.injEq, Addr.mk.injEq, and_true] at e1
  obtain ⟨rfl, rfl⟩ := e1
  have c1 := hc 0 _ rfl
  have c2 := hc 1 _ rfl
  rw [Nat.zero_add] at c1 c2
  exact ⟨x, hx.out, c1, c2⟩
theorem fs_set (xs : List Fv) (k : Nat) (v : Fv) : fsOf (xs.set k v) = (fsOf xs).set k v.f := by unfold fsOf; rw [List.map_set]
theorem mem_set {xs : List Fv} {k : Nat} {v u : Fv} (h : u ∈ xs.set k v) : u ∈ xs ∨ u = v := List.mem_or_eq_of_mem_set h
theorem cel_far {w : World} {g g' : Nat} {t : TypeId} {cs : Array Value} (h : Cel w g t cs) (hne : g ≠ g') (j : Nat) (v : Value) : Cel (w.setCell ⟨g', j, none⟩ v) g t cs := (Below.heap_setCell w ⟨g', j, none⟩ v g hne).trans h
theorem cel2 {w : World} {g : Nat} {t : TypeId} {a b : Value} (h : Cel w g t #[a, b]) : w.cell? ⟨g, 0, none⟩ = some a ∧ w.cell? ⟨g, 1, none⟩ = some b := ⟨by rw [h.cell]; rfl, by rw [h.cell]; rfl⟩

set_option maxHeartbeats 2000000 in
theorem withFile_any (x : Dv) (k : Nat) (v : Fv) (w : World) (h : RdD w.heap.size w x) (hv : BsU w.heap.size w v.A v.l.length v.c v.l) (hk : k < x.fn) (hin : ∀ f ∈ cameD x.d, 0 ≤ f ∧ f < (x.fn : Int)) (hn : x.now.length + x.kept.length ≤ 1000) (hfn : x.fn ≤ 1000) (hby : ∀ u ∈ x.xs, u.l.length ≤ 1000000) (hvl : v.l.length ≤ 1000000) :
    Calls Tryz.prog 63 #[x.v, .int .i64 (k : Int), .agg #[.slice v.A v.l.length v.c, .int .i64 v.s]] w (DO w (orderedD (setD x.d (k : Int) v.f))) := by
  obtain ⟨w1, hw1⟩ : ∃ w1, w1 = ((w.alloc (.cells x.cs 30)).alloc (.cells #[.slice v.A v.l.length v.c, .int .i64 v.s] 63)).alloc (.cells #[.slice none 0 0, .slice none 0 0, .slice none 0 0] 30) := ⟨_, rfl⟩
  have hb1 : Below w.heap.size w w1 := by rw [hw1]; exact (((Below.refl _ _).alloc (Nat.le_refl _) _).alloc (by simp) _).alloc (by simp; omega) _
  have hs1 : w1.heap.size = w.heap.size + 3 := by rw [hw1]; simp
  have hc0 : Cel w1 w.heap.size 30 x.cs := by rw [hw1]; exact (Cel.born w _ _).below (((Below.refl _ _).alloc (Nat.le_refl _) _).alloc (by simp) _) (by simp)
  have hc1 : Cel w1 (w.heap.size + 1) 63 #[.slice v.A v.l.length v.c, .int .i64 v.s] := by
    rw [hw1]
    have := Cel.born (w.alloc (.cells x.cs 30)) 63 #[.slice v.A v.l.length v.c, .int .i64 v.s]
    have h2 := this.below ((Below.refl _ _).alloc (Nat.le_refl _) (.cells #[.slice none 0 0, .slice none 0 0, .slice none 0 0] 30)) this.lt
    simpa using h2
  have hc2 : Cel w1 (w.heap.size + 2) 30 #[.slice none 0 0, .slice none 0 0, .slice none 0 0] := by
    rw [hw1]
    have := Cel.born ((w.alloc (.cells x.cs 30)).alloc (.cells #[.slice v.A v.l.length v.c, .int .i64 v.s] 63)) 30 #[.slice none 0 0, .slice none 0 0, .slice none 0 0]
    simpa using this
  have HCL := Lib.hid (cloneF_any w.heap.size x.fA x.fn x.fc x.xs w1 (h.f.1.below hb1) hb1.size (by omega))
  have r0 : w1.cell? ⟨w.heap.size, 0, none⟩ = some (.slice x.fA x.fn x.fc) := (cel3 hc0).1
  have HR := Lib.hid h
  have HV := Lib.hid hv
  have HIN := Lib.hid hin
  have HBY := Lib.hid hby
  have HB1 := Lib.hid hb1
  have HC0 := Lib.hid hc0
  have HC1 := Lib.hid hc1
  have HC2 := Lib.hid hc2
  clear h hv hin hby hb1 hc0 hc1 hc2
  go_enter Tryz.func63, Tryz.ntmps63
  go_wp2_with fail
  rw [← hw1]
  clear hw1
  refine HCL.out.mono ?_
  rintro e w2 ⟨A2, c2, rfl, hown, hb2⟩
  obtain ⟨g, rfl, hgB, hglt⟩ := headG hown (by omega)
  have hl2 := hown.2
  obtain ⟨u, hu, d1, d2⟩ := atOF hown hk
  have hk0 := HC0.out.below hb2 HC0.out.lt
  have hk1 := HC1.out.below hb2 HC1.out.lt
  have hk2 := HC2.out.below hb2 HC2.out.lt
  obtain ⟨q0, q1, q2⟩ := cel3 hk0
  obtain ⟨p0, p1⟩ := cel2 hk1
  have f0 := cel_fr hk0 0
  have f3 : w2.frozen? ⟨g, k * 2, none⟩ = false := World.ownsRow.frozenAt hown.1 _
  have f4 : w2.frozen? ⟨g, k * 2 + 1, none⟩ = false := World.ownsRow.frozenAt hown.1 _
  have hne1 : g ≠ w.heap.size := by omega
  have hne2 : g ≠ w.heap.size + 1 := by omega
  have hne3 : w.heap.size ≠ g := by omega
  have hne4 : w.heap.size + 1 ≠ g := by omega
  have hx : (0 : Int) ≤ (k : Int) ∧ (k : Int) < (x.fn : Int) := by omega
  obtain ⟨hx1, hx2⟩ := hx
  have hfc := hown.rd.cap
  have hfm := hown.rd.max
  -- the world ahead of normalize
  obtain ⟨w4, hw4⟩ : ∃ w4, w4 = ((w2.setCell ⟨w.heap.size, 0, none⟩ (.slice (some ⟨g, 0, none⟩) x.fn c2)).setCell ⟨g, k * 2, none⟩ (.slice v.A v.l.length v.c)).setCell ⟨g, k * 2 + 1, none⟩ (.int .i64 v.s) := ⟨_, rfl⟩
  have HB2 := Lib.hid hb2
  have hown3 : OwnG layF 63 w1.heap.size (w2.setCell ⟨w.heap.size, 0, none⟩ (.slice (some ⟨g, 0, none⟩) x.fn c2)) (some ⟨g, 0, none⟩) x.fn c2 x.xs := hown.away hk0 (by decide) (grown_set _ _ _ _)
  have hown4 : OwnG layF 63 w1.heap.size w4 (some ⟨g, 0, none⟩) x.fn c2 (x.xs.set k v) := by rw [hw4]; exact putF hown3 (by omega) v
  have hb4 : Below w.heap.size w w4 := by
    rw [hw4]
    exact (((HB1.out.trans (hb2.mono HB1.out.size)).setCell (p := ⟨w.heap.size, 0, none⟩) (Nat.le_refl _) _).setCell (p := ⟨g, k * 2, none⟩) (by show w.heap.size ≤ g; omega) _).setCell (p := ⟨g, k * 2 + 1, none⟩) (by show w.heap.size ≤ g; omega) _
  have hc4 : Cel w4 (w.heap.size + 2) 30 #[.slice none 0 0, .slice none 0 0, .slice none 0 0] := by
    rw [hw4]
    exact cel_far (cel_far (cel_far hk2 (by omega) _ _) (by omega) _ _) (by omega) _ _
  have hbyt : Byt w4.heap.size w4 (x.xs.set k v) := fun u hu => by
    rcases mem_set hu with hu | rfl
    · exact bsu_mono ((HR.out.f.2 u hu).below hb4) hb4.size
    · exact bsu_mono (HV.out.below hb4) hb4.size
  have hr4 : RdD w4.heap.size w4 ⟨some ⟨g, 0, none⟩, x.fn, c2, x.xs.set k v, x.nA, x.nn, x.nc, x.now, x.kA, x.kn, x.kc, x.kept⟩ := ⟨⟨hown4.rd, hbyt⟩, (HR.out.n.below hb4).mono hb4.size, (HR.out.k.below hb4).mono hb4.size⟩
  have HNO := Lib.hid (normalize_any ⟨some ⟨g, 0, none⟩, x.fn, c2, x.xs.set k v, x.nA, x.nn, x.nc, x.now, x.kA, x.kn, x.kc, x.kept⟩ w4 hr4 HIN.out hn (fun u hu => by
    rcases mem_set hu with hu | rfl
    · exact HBY.out u hu
    · exact hvl))
  have HD : Hid (setD x.d (k : Int) v.f = (⟨some ⟨g, 0, none⟩, x.fn, c2, x.xs.set k v, x.nA, x.nn, x.nc, x.now, x.kA, x.kn, x.kc, x.kept⟩ : Dv).d) := by
    show D.mk ((fsOf x.xs).set ((k : Int)).toNat v.f) x.now x.kept = D.mk (fsOf (x.xs.set k v)) x.now x.kept
    rw [fs_set, Int.toNat_natCast]
  have HB4 := Lib.hid hb4
  have HC4 := Lib.hid hc4
  clear hown hu hk0 hk1 hk2 hb2 hown3 hown4 hb4 hc4 hbyt hr4
  go_wp2_with fail
  rw [← hw4]
  clear hw4
  refine HNO.out.mono ?_
  rintro e w5 ⟨z, rfl, hz, hoz, hb5⟩
  have hk5 := HC4.out.below hb5 HC4.out.lt
  obtain ⟨t0, t1, t2⟩ := cel3 hk5
  have f5 := cel_fr hk5 0
  have f6 := cel_fr hk5 1
  have f7 := cel_fr hk5 2
  have HK5 := Lib.hid hk5
  have HOZ := Lib.hid hoz
  have HZ := Lib.hid hz
  have HB5 := Lib.hid (HB4.out.trans (hb5.mono HB4.out.size))
  have hs4 := HB4.out.size
  clear hk5 hoz hz hb5
  go_wp2
  (try simp only [Exit.inBlock, Exit.then])
  refine bodyPost_ret (ret_disk rfl _ _ (w.heap.size + 2) z.cs rfl (cel_put3 HK5.out) rfl) rfl ?_
  refine ⟨z, rfl, by rw [HD.out]; exact HZ.out, (HOZ.out.mono hs4).away HK5.out (grown_put3 _ _ _ _ _), below_put3 HB5.out (by omega) _ _ _⟩
end Go.Proofs.YtlefpodonkdbeaaGreat.Dw
end
