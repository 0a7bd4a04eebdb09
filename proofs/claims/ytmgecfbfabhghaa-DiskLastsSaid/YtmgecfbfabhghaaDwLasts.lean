/- DiskLasts, walked: whatever the disk, the name, the bytes, the acts and the keeping, it returns true, and nothing that was there has turned. -/
import Derived.Test.YtmgecfbfabhghaaDwAct
import Derived.StillTailTactics
import Derived.Deep.RegionHeld3
set_option maxRecDepth 8000
namespace Go.Proofs.Ytmgecfbfabhghaa.Dw
open Go.RowKit By Dk

theorem append_found {d : D} (h : RightD d) {t : N} {b : List UInt8} (h0 : (appendG d t b).2 = 0) : ∃ f, findE (appendG d t b).1.now t = some f := by
  obtain ⟨f, hf, _⟩ := append_there h h0
  exact ⟨f, hf⟩
theorem Vd.otherC {B : Nat} {w : World} {g g' : Nat} {z : Dv} {a1 : Option Addr} {n1 c1 : Nat} {a2 : Option Addr} {n2 c2 : Nat} {a3 : Option Addr} {n3 c3 : Nat} (h : Vd B w g z) (hc : Cel w g' 25 #[.slice a1 n1 c1, .slice a2 n2 c2, .slice a3 n3 c3]) (hne : g ≠ g') (a b c : Value) :
    Vd B (((w.setCell ⟨g', 0, none⟩ a).setCell ⟨g', 1, none⟩ b).setCell ⟨g', 2, none⟩ c) g z :=
  ⟨cel_far (cel_far (cel_far h.c hne _ _) hne _ _) hne _ _, rdd_away h.r hc sl3 (cell_put3 w g' _ _ _), h.l⟩
theorem bsu_put3 {U : Nat} {w : World} {A : Option Addr} {n c g : Nat} {l : List UInt8} {t : TypeId} {a1 : Option Addr} {n1 c1 : Nat} {a2 : Option Addr} {n2 c2 : Nat} {a3 : Option Addr} {n3 c3 : Nat} (h : BsU U w A n c l) (hc : Cel w g t #[.slice a1 n1 c1, .slice a2 n2 c2, .slice a3 n3 c3]) (x y z : Value) :
    BsU U (((w.setCell ⟨g, 0, none⟩ x).setCell ⟨g, 1, none⟩ y).setCell ⟨g, 2, none⟩ z) A n c l := bs_away h hc sl3 (cell_put3 w g _ _ _)
def StLa (g : Nat) (t : N) (was : List UInt8) (nm : Nat) (Aw : Option Addr) (nw cw : Nat) (w w8 : World) (i : Value) (wr : World) : Prop :=
  ∃ (k : Nat) (z : Dv), k ≤ nm ∧ i = .int .i64 k ∧ Vd wr.heap.size wr g z ∧ Lasts z.d t was ∧ BsU wr.heap.size wr Aw nw cw was ∧ Below w.heap.size w wr ∧ w8.heap.size ≤ wr.heap.size
section
variable {g : Nat} {t : N} {was : List UInt8} {nm nw cw k : Nat} {Aw : Option Addr} {w w8 w9 wu : World} {z z4 : Dv}
theorem stla_next1 (hk : k + 1 ≤ nm) (VU : Vd w9.heap.size wu g z) (hr4 : RdD wu.heap.size wu z4) (hgu : g < wu.heap.size) (hg0 : w.heap.size ≤ g) (hl : Lasts z4.d t was) (HW : BsU w9.heap.size w9 Aw nw cw was) (HB : Below w.heap.size w w9) (hb : Below w9.heap.size w9 wu) (h8 : w8.heap.size ≤ w9.heap.size) (o : Obj) :
    StLa g t was nm Aw nw cw w w8 (.int .i64 ((k : Int) + 1)) ((((wu.setCell ⟨g, 0, none⟩ (.slice z4.fA z4.fn z4.fc)).setCell ⟨g, 1, none⟩ (.slice z4.nA z4.nn z4.nc)).setCell ⟨g, 2, none⟩ (.slice z4.kA z4.kn z4.kc)).alloc o) := by
  have hu := hb.size
  have hBu : Below w.heap.size w wu := HB.trans (hb.mono HB.size)
  have VX := VU.put hr4 hgu
  have BX := below_put3 hBu hg0 (.slice z4.fA z4.fn z4.fc) (.slice z4.nA z4.nn z4.nc) (.slice z4.kA z4.kn z4.kc)
  have WX := bsu_put3 (HW.below hb) VU.c (.slice z4.fA z4.fn z4.fc) (.slice z4.nA z4.nn z4.nc) (.slice z4.kA z4.kn z4.kc)
  have hs : ((((wu.setCell ⟨g, 0, none⟩ (.slice z4.fA z4.fn z4.fc)).setCell ⟨g, 1, none⟩ (.slice z4.nA z4.nn z4.nc)).setCell ⟨g, 2, none⟩ (.slice z4.kA z4.kn z4.kc))).heap.size = wu.heap.size := by simp
  generalize ((((wu.setCell ⟨g, 0, none⟩ (.slice z4.fA z4.fn z4.fc)).setCell ⟨g, 1, none⟩ (.slice z4.nA z4.nn z4.nc)).setCell ⟨g, 2, none⟩ (.slice z4.kA z4.kn z4.kc))) = X at *
  have hal := alloc_more X o
  have hsz := hal.size
  exact ⟨k + 1, z4, hk, by go_num, (VX.below (hal.mono (by omega))).mono (by omega), hl, bsu_mono (WX.below (hal.mono (by omega))) (by omega), BX.trans (hal.mono BX.size), by omega⟩
theorem stla_next2 {gz : Nat} {a1 : Option Addr} {n1 c1 : Nat} {a2 : Option Addr} {n2 c2 : Nat} {a3 : Option Addr} {n3 c3 : Nat} (hk : k + 1 ≤ nm) (hcz : Cel wu gz 25 #[.slice a1 n1 c1, .slice a2 n2 c2, .slice a3 n3 c3]) (VU : Vd w9.heap.size wu g z) (hr4 : RdD wu.heap.size wu z4) (hgu : g < wu.heap.size) (hne : g ≠ gz) (hgz : w.heap.size ≤ gz) (hg0 : w.heap.size ≤ g) (hl : Lasts z4.d t was) (HW : BsU w9.heap.size w9 Aw nw cw was) (HB : Below w.heap.size w w9) (hb : Below w9.heap.size w9 wu) (h8 : w8.heap.size ≤ w9.heap.size) :
    StLa g t was nm Aw nw cw w w8 (.int .i64 ((k : Int) + 1)) ((((((wu.setCell ⟨gz, 0, none⟩ (.slice z4.fA z4.fn z4.fc)).setCell ⟨gz, 1, none⟩ (.slice z4.nA z4.nn z4.nc)).setCell ⟨gz, 2, none⟩ (.slice z4.kA z4.kn z4.kc)).setCell ⟨g, 0, none⟩ (.slice z4.fA z4.fn z4.fc)).setCell ⟨g, 1, none⟩ (.slice z4.nA z4.nn z4.nc)).setCell ⟨g, 2, none⟩ (.slice z4.kA z4.kn z4.kc)) := by
  have hu := hb.size
  have hBu : Below w.heap.size w wu := HB.trans (hb.mono HB.size)
  have VY := VU.otherC hcz hne (.slice z4.fA z4.fn z4.fc) (.slice z4.nA z4.nn z4.nc) (.slice z4.kA z4.kn z4.kc)
  have RY := rdd_away hr4 hcz sl3 (cell_put3 wu gz (.slice z4.fA z4.fn z4.fc) (.slice z4.nA z4.nn z4.nc) (.slice z4.kA z4.kn z4.kc))
  have BY := below_put3 hBu hgz (.slice z4.fA z4.fn z4.fc) (.slice z4.nA z4.nn z4.nc) (.slice z4.kA z4.kn z4.kc)
  have WY := bsu_put3 (HW.below hb) hcz (.slice z4.fA z4.fn z4.fc) (.slice z4.nA z4.nn z4.nc) (.slice z4.kA z4.kn z4.kc)
  have hs : ((((wu.setCell ⟨gz, 0, none⟩ (.slice z4.fA z4.fn z4.fc)).setCell ⟨gz, 1, none⟩ (.slice z4.nA z4.nn z4.nc)).setCell ⟨gz, 2, none⟩ (.slice z4.kA z4.kn z4.kc))).heap.size = wu.heap.size := by simp
  generalize ((((wu.setCell ⟨gz, 0, none⟩ (.slice z4.fA z4.fn z4.fc)).setCell ⟨gz, 1, none⟩ (.slice z4.nA z4.nn z4.nc)).setCell ⟨gz, 2, none⟩ (.slice z4.kA z4.kn z4.kc))) = Y at *
  have VX := VY.put RY hgu
  have BX := below_put3 BY hg0 (.slice z4.fA z4.fn z4.fc) (.slice z4.nA z4.nn z4.nc) (.slice z4.kA z4.kn z4.kc)
  have WX := bsu_put3 WY VY.c (.slice z4.fA z4.fn z4.fc) (.slice z4.nA z4.nn z4.nc) (.slice z4.kA z4.kn z4.kc)
  have hs2 : ((((Y.setCell ⟨g, 0, none⟩ (.slice z4.fA z4.fn z4.fc)).setCell ⟨g, 1, none⟩ (.slice z4.nA z4.nn z4.nc)).setCell ⟨g, 2, none⟩ (.slice z4.kA z4.kn z4.kc))).heap.size = Y.heap.size := by simp
  generalize ((((Y.setCell ⟨g, 0, none⟩ (.slice z4.fA z4.fn z4.fc)).setCell ⟨g, 1, none⟩ (.slice z4.nA z4.nn z4.nc)).setCell ⟨g, 2, none⟩ (.slice z4.kA z4.kn z4.kc))) = X at *
  exact ⟨k + 1, z4, hk, by go_num, VX.mono (by omega), hl, bsu_mono WX (by omega), BX, by omega⟩
end
set_option maxHeartbeats 8000000 in
theorem diskLasts_walk (x : Dv) (t : N) (A : Option Addr) (m c : Nat) (b : List UInt8) (Am : Option Addr) (nm cm : Nat) (acts : List Av) (Ak : Option Addr) (nk ck : Nat) (keep : List Int) (dir : Bool) (w : World)
    (h : RdD w.heap.size w x) (hsm : Sm x.d) (ht : t.length ≤ 9223372036854775807) (hb : Bs w A m c b) (ha : RdA w Am nm cm acts) (hk : Rd w Ak nk ck (intV keep)) :
    Calls Try.prog 6 #[x.v, .string (ba t), .slice A m c, .slice Am nm cm, .slice Ak nk ck, .bool dir] w (isTrue w) := by
  obtain ⟨w1, hw1⟩ : ∃ w1, w1 = w.alloc (.cells x.cs 25) := ⟨_, rfl⟩
  have V1 : Vd (w.heap.size + 1) w1 w.heap.size x := by rw [hw1]; exact Vd.born h
  have hs1 : w1.heap.size = w.heap.size + 1 := by rw [hw1]; simp
  have B1 := Lib.hid (show Below w.heap.size w w1 by rw [hw1]; exact alloc_more _ _)
  have HGR := Lib.hid (great_any x w1 (V1.r.mono (by omega)))
  have HV1 := Lib.hid V1
  have HSM := Lib.hid hsm
  have HB := Lib.hid hb
  have HBL := Lib.hid hb.len
  have hbc := hb.cap
  have hbm := hb.max
  have HAC := Lib.hid ha
  have ha1 := ha.1.cap
  have ha2 := ha.1.max
  have HK := Lib.hid hk
  have hk1 := hk.cap
  have hk2 := hk.max
  have hts := ba_size t
  clear h hsm V1 hb ha hk
  go_enter Try.func6, Try.ntmps6
  go_wp2_with fail
  rw [← hw1]
  clear hw1
  refine HGR.out.mono ?_
  rintro e w2 ⟨gr, rfl, hgr, hb2⟩
  have B2 := Lib.hid (B1.out.trans (hb2.mono B1.out.size))
  have HV2 := Lib.hid (HV1.out.below (hb2.mono (by omega)))
  have hs2 := hb2.size
  clear hb2 HGR
  cases gr with
  | true =>
    go_wp2_with fail
    refine (knows_yes _).mono ?_
    rintro e wz ⟨rfl, hbz⟩
    go_wp2
    go_ret
    exact ⟨rfl, B2.out.trans (hbz.mono B2.out.size)⟩
  | false =>
  clear hgr
  have htz : (ba t).size = t.length := rfl
  have HTZ := Lib.hid htz
  by_cases hn1 : (100 : Int) < ((ba t).size : Int)
  · clear hts htz
    go_wp2_with fail
    refine (knows_yes _).mono ?_
    rintro e wz ⟨rfl, hbz⟩
    go_wp2
    go_ret
    exact ⟨rfl, B2.out.trans (hbz.mono B2.out.size)⟩
  by_cases hn2 : (10000 : Int) < (m : Int)
  · clear hts htz
    go_wp2_with fail
    refine (knows_yes _).mono ?_
    rintro e wz ⟨rfl, hbz⟩
    go_wp2
    go_ret
    exact ⟨rfl, B2.out.trans (hbz.mono B2.out.size)⟩
  by_cases hn3 : (100 : Int) < (nk : Int)
  · clear hts htz
    go_wp2_with fail
    refine (knows_yes _).mono ?_
    rintro e wz ⟨rfl, hbz⟩
    go_wp2
    go_ret
    exact ⟨rfl, B2.out.trans (hbz.mono B2.out.size)⟩
  obtain ⟨q0, q1, q2⟩ := cel3 HV2.out.c
  have hltr : w.heap.size < w2.heap.size := by omega
  have HBb := Lib.hid (HB.out.below B2.out)
  have HAP : Hid (∀ W A c, Below w2.heap.size w2 W → Bs W A m c b → Calls Try.prog 22 #[.agg #[.slice x.fA x.fn x.fc, .slice x.nA x.nn x.nc, .slice x.kA x.kn x.kc], .string (ba t), .slice A m c] W (DE W (appendK x.d t b))) := fun W A c hW hbs => append_any x t A m c b W (((HV2.out.r.mono (by omega)).below hW).mono hW.size) HSM.out ht hbs (by omega)
  clear hts htz
  have hl0 := Own.lit0 5 w2.drew
  have hal0 : Below w2.heap.size w2 (w2.drew.alloc (.cells #[] 5)) := (Below.refl _ _).drew.alloc (Nat.le_refl _) _
  have HBc := Lib.hid (HBb.out.below hal0)
  have halC : Below w2.heap.size w2 ((w2.drew.alloc (.cells #[] 5)).alloc (.cells #[.slice none 0 0, .slice none 0 0, .slice none 0 0] 25)) := hal0.alloc hal0.size _
  have hlC := hl0.below (alloc_more _ (.cells #[.slice none 0 0, .slice none 0 0, .slice none 0 0] 25))
  have HBcC := Lib.hid (HBb.out.below halC)
  have hczC := Cel.born (w2.drew.alloc (.cells #[] 5)) 25 #[.slice none 0 0, .slice none 0 0, .slice none 0 0]
  rw [show (w2.drew.alloc (.cells #[] 5)).heap.size = w2.heap.size + 1 by simp] at hczC
  have halB0 : Below w2.heap.size w2 (w2.drew.alloc (.cells #[.slice none 0 0, .slice none 0 0, .slice none 0 0] 25)) := (Below.refl _ _).drew.alloc (Nat.le_refl _) _
  have halB : Below w2.heap.size w2 ((w2.drew.alloc (.cells #[.slice none 0 0, .slice none 0 0, .slice none 0 0] 25)).alloc (.cells #[] 5)) := halB0.alloc halB0.size _
  have hlB := Own.lit0 5 (w2.drew.alloc (.cells #[.slice none 0 0, .slice none 0 0, .slice none 0 0] 25))
  have HBcB := Lib.hid (HBb.out.below halB)
  rw [show (w2.drew.alloc (.cells #[.slice none 0 0, .slice none 0 0, .slice none 0 0] 25)).heap.size = w2.heap.size + 1 by simp] at hlB
  have hczB : Cel _ w2.heap.size _ _ := (Cel.born w2.drew 25 #[.slice none 0 0, .slice none 0 0, .slice none 0 0]).below (alloc_more _ (.cells #[] 5)) (by simp)
  have hx0 : Below w2.heap.size w2 (w2.alloc (.cells #[] 5)) := alloc_more _ _
  have y00 : (w2.alloc (.cells #[] 5)).cell? ⟨w.heap.size, 0, none⟩ = some (.slice x.fA x.fn x.fc) := (hx0.cell (p := ⟨w.heap.size, 0, none⟩) hltr).trans q0
  have y01 : (w2.alloc (.cells #[] 5)).cell? ⟨w.heap.size, 1, none⟩ = some (.slice x.nA x.nn x.nc) := (hx0.cell (p := ⟨w.heap.size, 1, none⟩) hltr).trans q1
  have y02 : (w2.alloc (.cells #[] 5)).cell? ⟨w.heap.size, 2, none⟩ = some (.slice x.kA x.kn x.kc) := (hx0.cell (p := ⟨w.heap.size, 2, none⟩) hltr).trans q2
  clear hx0
  have hx1 : Below w2.heap.size w2 (w2.alloc (.cells #[.slice none 0 0, .slice none 0 0, .slice none 0 0] 25)) := alloc_more _ _
  have y10 : (w2.alloc (.cells #[.slice none 0 0, .slice none 0 0, .slice none 0 0] 25)).cell? ⟨w.heap.size, 0, none⟩ = some (.slice x.fA x.fn x.fc) := (hx1.cell (p := ⟨w.heap.size, 0, none⟩) hltr).trans q0
  have y11 : (w2.alloc (.cells #[.slice none 0 0, .slice none 0 0, .slice none 0 0] 25)).cell? ⟨w.heap.size, 1, none⟩ = some (.slice x.nA x.nn x.nc) := (hx1.cell (p := ⟨w.heap.size, 1, none⟩) hltr).trans q1
  have y12 : (w2.alloc (.cells #[.slice none 0 0, .slice none 0 0, .slice none 0 0] 25)).cell? ⟨w.heap.size, 2, none⟩ = some (.slice x.kA x.kn x.kc) := (hx1.cell (p := ⟨w.heap.size, 2, none⟩) hltr).trans q2
  clear hx1
  have hx2 : Below w2.heap.size w2 ((w2.alloc (.cells #[] 5)).alloc (.cells #[.slice none 0 0, .slice none 0 0, .slice none 0 0] 25)) := (alloc_more _ _).trans ((alloc_more _ _).mono (by simp))
  have y20 : ((w2.alloc (.cells #[] 5)).alloc (.cells #[.slice none 0 0, .slice none 0 0, .slice none 0 0] 25)).cell? ⟨w.heap.size, 0, none⟩ = some (.slice x.fA x.fn x.fc) := (hx2.cell (p := ⟨w.heap.size, 0, none⟩) hltr).trans q0
  have y21 : ((w2.alloc (.cells #[] 5)).alloc (.cells #[.slice none 0 0, .slice none 0 0, .slice none 0 0] 25)).cell? ⟨w.heap.size, 1, none⟩ = some (.slice x.nA x.nn x.nc) := (hx2.cell (p := ⟨w.heap.size, 1, none⟩) hltr).trans q1
  have y22 : ((w2.alloc (.cells #[] 5)).alloc (.cells #[.slice none 0 0, .slice none 0 0, .slice none 0 0] 25)).cell? ⟨w.heap.size, 2, none⟩ = some (.slice x.kA x.kn x.kc) := (hx2.cell (p := ⟨w.heap.size, 2, none⟩) hltr).trans q2
  clear hx2
  have hx3 : Below w2.heap.size w2 ((w2.alloc (.cells #[.slice none 0 0, .slice none 0 0, .slice none 0 0] 25)).alloc (.cells #[] 5)) := (alloc_more _ _).trans ((alloc_more _ _).mono (by simp))
  have y30 : ((w2.alloc (.cells #[.slice none 0 0, .slice none 0 0, .slice none 0 0] 25)).alloc (.cells #[] 5)).cell? ⟨w.heap.size, 0, none⟩ = some (.slice x.fA x.fn x.fc) := (hx3.cell (p := ⟨w.heap.size, 0, none⟩) hltr).trans q0
  have y31 : ((w2.alloc (.cells #[.slice none 0 0, .slice none 0 0, .slice none 0 0] 25)).alloc (.cells #[] 5)).cell? ⟨w.heap.size, 1, none⟩ = some (.slice x.nA x.nn x.nc) := (hx3.cell (p := ⟨w.heap.size, 1, none⟩) hltr).trans q1
  have y32 : ((w2.alloc (.cells #[.slice none 0 0, .slice none 0 0, .slice none 0 0] 25)).alloc (.cells #[] 5)).cell? ⟨w.heap.size, 2, none⟩ = some (.slice x.kA x.kn x.kc) := (hx3.cell (p := ⟨w.heap.size, 2, none⟩) hltr).trans q2
  clear hx3
  go_wp2_with fail
  go_cut [13, 14] from 42 to 49 (fun v13 v14 wx => ∃ (gz : Nat) (z4 : Dv), v13 = .pointer (some ⟨gz, 0, none⟩) ∧ v14 = .int .i64 (appendK x.d t b).2 ∧ Hid (z4.d = (appendK x.d t b).1) ∧ Hid (Vd wx.heap.size wx gz z4) ∧ Hid (Below w2.heap.size w2 wx) ∧ Hid (w.heap.size ≤ gz))
  case first =>
    go_region_law (first
      | (refine step_appE byP (by rfl) (.tmp 44) (.tmp 45) (by rfl) (by rfl) hl0 (by rfl) HBc.out (by omega) (by exact hal0.size) ?_; intro A9 c9 wq9 hown9 hb9 hgr9; simp only [Nat.zero_add, List.nil_append] at hown9; have hb9' : Below w2.heap.size w2 wq9 := hal0.trans (hb9.mono (Nat.le_refl _)); have hlt9 : w.heap.size < wq9.heap.size := Nat.lt_of_lt_of_le hltr hb9'.size; have k0 : wq9.cell? ⟨w.heap.size, 0, none⟩ = some (.slice x.fA x.fn x.fc) := (hb9'.cell (p := ⟨w.heap.size, 0, none⟩) hltr).trans q0; have k1 : wq9.cell? ⟨w.heap.size, 1, none⟩ = some (.slice x.nA x.nn x.nc) := (hb9'.cell (p := ⟨w.heap.size, 1, none⟩) hltr).trans q1; have k2 : wq9.cell? ⟨w.heap.size, 2, none⟩ = some (.slice x.kA x.kn x.kc) := (hb9'.cell (p := ⟨w.heap.size, 2, none⟩) hltr).trans q2)
      | (refine step_appE byP (by rfl) (.tmp 44) (.tmp 45) (by rfl) (by rfl) hlC (by rfl) HBcC.out (by omega) (by exact halC.size) ?_; intro A9 c9 wq9 hown9 hb9 hgr9; simp only [Nat.zero_add, List.nil_append] at hown9; have hb9' : Below w2.heap.size w2 wq9 := halC.trans (hb9.mono (Nat.le_refl _)); have hcz9 := hczC.grown hgr9 (hczC.not_row hlC (by decide)); have hlt9 : w.heap.size < wq9.heap.size := Nat.lt_of_lt_of_le hltr hb9'.size; have k0 : wq9.cell? ⟨w.heap.size, 0, none⟩ = some (.slice x.fA x.fn x.fc) := (hb9'.cell (p := ⟨w.heap.size, 0, none⟩) hltr).trans q0; have k1 : wq9.cell? ⟨w.heap.size, 1, none⟩ = some (.slice x.nA x.nn x.nc) := (hb9'.cell (p := ⟨w.heap.size, 1, none⟩) hltr).trans q1; have k2 : wq9.cell? ⟨w.heap.size, 2, none⟩ = some (.slice x.kA x.kn x.kc) := (hb9'.cell (p := ⟨w.heap.size, 2, none⟩) hltr).trans q2)
      | (refine step_appE byP (by rfl) (.tmp 44) (.tmp 45) (by rfl) (by rfl) hlB (by rfl) HBcB.out (by omega) (by simp) ?_; intro A9 c9 wq9 hown9 hb9 hgr9; simp only [Nat.zero_add, List.nil_append] at hown9; have hb9' : Below w2.heap.size w2 wq9 := halB.trans (hb9.mono (by simp)); have hcz9 := hczB.grown hgr9 (hczB.not_row hlB (by decide)); have hlt9 : w.heap.size < wq9.heap.size := Nat.lt_of_lt_of_le hltr hb9'.size; have k0 : wq9.cell? ⟨w.heap.size, 0, none⟩ = some (.slice x.fA x.fn x.fc) := (hb9'.cell (p := ⟨w.heap.size, 0, none⟩) hltr).trans q0; have k1 : wq9.cell? ⟨w.heap.size, 1, none⟩ = some (.slice x.nA x.nn x.nc) := (hb9'.cell (p := ⟨w.heap.size, 1, none⟩) hltr).trans q1; have k2 : wq9.cell? ⟨w.heap.size, 2, none⟩ = some (.slice x.kA x.kn x.kc) := (hb9'.cell (p := ⟨w.heap.size, 2, none⟩) hltr).trans q2)
      | (go_simp; go_at_call 22; refine (HAP.out _ _ _ hb9' hown9.bs).mono ?_; rintro e wu ⟨z4, rfl, hz4, hr4, hbu⟩; have hb9u := hb9'.trans (hbu.mono hb9'.size); try (have hcz := hcz9.below hbu hcz9.lt; obtain ⟨s0, s1, s2⟩ := cel3 hcz; obtain ⟨u0, u1, u2⟩ := cel_frs hcz))
      | (go_simp; go_at_call 22; have hal9 := alloc_more wq9 (.cells #[.slice none 0 0, .slice none 0 0, .slice none 0 0] 25); refine (HAP.out _ _ _ (hb9'.trans (hal9.mono hb9'.size)) (hown9.bs.alloc _)).mono ?_; rintro e wu ⟨z4, rfl, hz4, hr4, hbu⟩; have hb9u := (hb9'.trans (hal9.mono hb9'.size)).trans (hbu.mono (hb9'.trans (hal9.mono hb9'.size)).size); have hcz := (Cel.born wq9 25 #[.slice none 0 0, .slice none 0 0, .slice none 0 0]).below hbu (by simp); obtain ⟨s0, s1, s2⟩ := cel3 hcz; obtain ⟨u0, u1, u2⟩ := cel_frs hcz))
    all_goals (go_wp2_with fail; go_meet)
    all_goals (first
      | exact ⟨_, z4, rfl, rfl, hz4, (Vd.born hr4).mono (by simp), hb9u.trans ((alloc_more _ _).mono hb9u.size), (by have := hb9u.size; show _ ≤ _; omega)⟩
      | exact ⟨_, z4, rfl, rfl, hz4, Vd.put0 hcz hr4, below_put3 hb9u (by first | omega | (have := hb9'.size; omega)) _ _ _, (by have := hb9u.size; have := hb9'.size; show _ ≤ _; omega)⟩)
  case rest =>
  obtain ⟨g, z4, rfl, rfl, HZ4, HV3, hbc3, HG0⟩ := hcut
  have hg0 := HG0.out
  obtain ⟨w3, hw3⟩ : ∃ q, q = wc := ⟨_, rfl⟩
  subst hw3
  have B3 := Lib.hid (B2.out.trans (hbc3.out.mono B2.out.size))
  clear hl0 hal0 halC hlC hczC halB0 halB hlB hczB HBc HBcC HBcB HAP HBb q0 q1 q2 hltr y00 y01 y02 y10 y11 y12 y20 y21 y22 y30 y31 y32
  by_cases he : (appendK x.d t b).2 = 0
  rotate_left
  · have hen : ((appendK x.d t b).2 != 0) = true := bne_iff_ne.2 he
    clear he
    go_wp2_with fail
    refine (knows_yes _).mono ?_
    rintro e wz ⟨rfl, hbz⟩
    go_wp2
    go_ret
    exact ⟨rfl, B3.out.trans (hbz.mono B3.out.size)⟩
  have hap : appendK x.d t b = appendG (goodD x.d) t b := rfl
  obtain ⟨f, hf⟩ := append_found (good_right x.d) (t := t) (b := b) he
  have hr4d : RightD z4.d := by rw [HZ4.out]; exact append_right (good_right _) t b
  have hf4 : findE z4.d.now t = some f := by rw [HZ4.out]; exact hf
  obtain ⟨l1, l2, l3⟩ := sync_lasts hr4d hf4
  have HL1 : Hid (syncK z4.d t = ((syncG z4.d t).1, 0)) := by show syncG (goodD z4.d) t = _; rw [good_of hr4d, ← l1]
  have hrs : RightD (syncG z4.d t).1 := sync_right hr4d t
  have HL2 : Hid (syncDirK (syncG z4.d t).1 = syncDirG (syncG z4.d t).1) := by show syncDirG (goodD _) = _; rw [good_of hrs]
  have HRS := Lib.hid hrs
  have HL3 := Lib.hid l3
  have HLG := Lib.hid l2
  rw [he]
  obtain ⟨q0, q1, q2⟩ := cel3 HV3.out.c
  have H1 := Lib.hid (sync_any z4 t w3 HV3.out.r (right_sm hr4d))
  rw [HL1.out] at H1
  clear he hap hf hr4d hf4 l1 l2 l3 hrs
  go_wp2_with fail
  clear q0 q1 q2
  refine H1.out.mono ?_
  rintro e w4 ⟨z5, rfl, hz5, hrz5, hbz5⟩
  have VA := HV3.out.below hbz5
  obtain ⟨q0, q1, q2⟩ := cel3 VA.c
  obtain ⟨f0, f1, f2⟩ := cel_frs VA.c
  obtain ⟨w5, hw5⟩ : ∃ w5, w5 = (((w4.setCell ⟨g, 0, none⟩ (.slice z5.fA z5.fn z5.fc)).setCell ⟨g, 1, none⟩ (.slice z5.nA z5.nn z5.nc)).setCell ⟨g, 2, none⟩ (.slice z5.kA z5.kn z5.kc)) := ⟨_, rfl⟩
  have VB := VA.put hrz5 VA.c.lt
  have hsw5 : w5.heap.size = w4.heap.size := by rw [hw5]; simp
  rw [← hw5, ← hsw5] at VB
  have B5 := Lib.hid (show Below w.heap.size w w5 by rw [hw5]; exact below_put3 (B3.out.trans (hbz5.mono B3.out.size)) hg0 _ _ _)
  have HV5 := Lib.hid VB
  have HZz5 := Lib.hid hz5
  have hssw5 := hbz5.size
  have hlew5 : w4.heap.size ≤ w5.heap.size := by omega
  clear VA VB hrz5 hbz5 hz5 hsw5
  have H2 := Lib.hid (syncDir_any z5 w5 HV5.out.r (by rw [HZz5.out]; exact right_sm HRS.out))
  rw [HZz5.out, HL2.out] at H2
  go_wp2_with fail
  rw [← hw5]
  clear hw5 q0 q1 q2 f0 f1 f2
  refine H2.out.mono ?_
  rintro e w6 ⟨z6, rfl, hz6, hrz6, hbz6⟩
  have VA := HV5.out.below hbz6
  obtain ⟨q0, q1, q2⟩ := cel3 VA.c
  obtain ⟨f0, f1, f2⟩ := cel_frs VA.c
  obtain ⟨w7, hw7⟩ : ∃ w7, w7 = (((w6.setCell ⟨g, 0, none⟩ (.slice z6.fA z6.fn z6.fc)).setCell ⟨g, 1, none⟩ (.slice z6.nA z6.nn z6.nc)).setCell ⟨g, 2, none⟩ (.slice z6.kA z6.kn z6.kc)) := ⟨_, rfl⟩
  have VB := VA.put hrz6 VA.c.lt
  have hsw7 : w7.heap.size = w6.heap.size := by rw [hw7]; simp
  rw [← hw7, ← hsw7] at VB
  have B7 := Lib.hid (show Below w.heap.size w w7 by rw [hw7]; exact below_put3 (B5.out.trans (hbz6.mono B5.out.size)) hg0 _ _ _)
  have HV7 := Lib.hid VB
  have HZz6 := Lib.hid hz6
  have hssw7 := hbz6.size
  have hlew7 : w6.heap.size ≤ w7.heap.size := by omega
  clear VA VB hrz6 hbz6 hz6 hsw7
  have H3 := Lib.hid (get_any z6 t w7 HV7.out.r (by rw [HZz6.out]; exact right_sm HL3.out.1))
  rw [HZz6.out, HLG.out] at H3
  go_wp2_with fail
  rw [← hw7]
  clear hw7 q0 q1 q2 f0 f1 f2
  refine H3.out.mono ?_
  rintro e w8 ⟨Aw, nw, cw, rfl, hbw, hb8⟩
  have B8 := Lib.hid (B7.out.trans (hb8.mono B7.out.size))
  have hs8 := hb8.size
  have HV8 := Lib.hid ((HV7.out.below hb8).mono hs8)
  have HLA : Hid (Lasts z6.d t (fileAt z4.d f).d) := by show Lasts _ _ _; rw [HZz6.out]; exact HL3.out
  obtain ⟨was, hwas⟩ : ∃ was, was = (fileAt z4.d f).d := ⟨_, rfl⟩
  rw [← hwas] at HLA
  have HBW : Hid (BsU w8.heap.size w8 Aw nw cw was) := by show BsU _ _ _ _ _ _; rw [hwas]; exact hbw.upto
  have hnw := hbw.cap
  have hmw := hbw.max
  have HLW : Hid (was.length = nw) := HBW.out.len
  clear hwas hbw hb8
  go_wp2
  go_loopw [18] (fun i wr => StLa g t was nm Aw nw cw w w8 i wr) (fun i _ => nm - (intOf i).toNat)
  case atStart => exact ⟨0, z6, by omega, rfl, HV8.out, HLA.out, HBW.out, B8.out, Nat.le_refl _⟩
  case round =>
    obtain ⟨k, z, hk, rfl, hV, hla, hbs, hB, hsz⟩ := hrel
    by_cases hlt : k < nm
    · by_cases h10 : (k : Int) < 10
      · obtain ⟨bo, o, a, eAm, hlo, HE, hok, c0, c1, c2, c3, c4, c5, c6⟩ := atA (HAC.out.below hB) hlt
        rw [eAm]
        have HSM9 := Lib.hid (small_any a wr hok)
        have HVr := Lib.hid hV
        have HLAr := Lib.hid hla
        have HWr := Lib.hid hbs
        have HBr := Lib.hid hB
        have HOK := Lib.hid hok
        have hb1 := hok.b.cap
        have hb2 := hok.b.max
        clear hV hla hbs hB HE hok
        go_wp2_with fail
        refine HSM9.out.mono ?_
        rintro e w9 ⟨s, rfl, hs, hb9⟩
        cases s with
        | false =>
          clear hs
          go_wp2
          go_roundw
          case rel => exact ⟨k + 1, z, by omega, by go_num, ((HVr.out.below hb9).mono hb9.size), HLAr.out, bsu_mono (HWr.out.below hb9) hb9.size, HBr.out.trans (hb9.mono HBr.out.size), Nat.le_trans hsz hb9.size⟩
          case measure => simp [intOf]; omega
        | true =>
          obtain ⟨s1, s2, s3, s4⟩ := hs rfl
          have HV9 := Lib.hid ((HVr.out.below hb9).mono hb9.size)
          have HW9 := Lib.hid (bsu_mono (HWr.out.below hb9) hb9.size)
          have HB9 := Lib.hid (HBr.out.trans (hb9.mono HBr.out.size))
          have HBa := Lib.hid (HOK.out.b.below hb9)
          have hltr : g < w9.heap.size := HV9.out.l
          have hlbo : bo < w9.heap.size := Nat.lt_of_lt_of_le hlo hb9.size
          obtain ⟨q0, q1, q2⟩ := cel3 HV9.out.c
          obtain ⟨e0, e1, e2⟩ := cel_frs HV9.out.c
          have r2 : w9.cell? ⟨bo, o + k * 7 + 2, none⟩ = some (.string (ba a.name)) := (hb9.cell (p := ⟨bo, o + k * 7 + 2, none⟩) hlo).trans c2
          have r4 : w9.cell? ⟨bo, o + k * 7 + 4, none⟩ = some (.slice a.bA a.b.length a.bc) := (hb9.cell (p := ⟨bo, o + k * 7 + 4, none⟩) hlo).trans c4
          have hrz : RightD z.d := HLAr.out.1
          have HNX : Hid (Lasts (appendK z.d a.name a.b).1 t was) := by show Lasts (appendG (goodD z.d) _ _).1 _ _; rw [good_of hrz]; exact lasts_append HLAr.out
          have HAP : Hid (∀ W A c, Below w9.heap.size w9 W → Bs W A a.b.length c a.b → Calls Try.prog 22 #[.agg #[.slice z.fA z.fn z.fc, .slice z.nA z.nn z.nc, .slice z.kA z.kn z.kc], .string (ba a.name), .slice A a.b.length c] W (DE W (appendK z.d a.name a.b))) := fun W A c hW hbs => append_any z a.name A a.b.length c a.b W ((HV9.out.r.below hW).mono hW.size) (right_sm hrz) HOK.out.s hbs (by omega)
          have hs89 : w8.heap.size ≤ w9.heap.size := Nat.le_trans hsz hb9.size
          clear hs hb9 c0 c1 c2 c3 c4 c5 c6 hrz hsz hlo
          have hl0 := Own.lit0 5 w9.drew
          have hal0 : Below w9.heap.size w9 (w9.drew.alloc (.cells #[] 5)) := (Below.refl _ _).drew.alloc (Nat.le_refl _) _
          have HBc := Lib.hid (HBa.out.below hal0)
          have halC : Below w9.heap.size w9 ((w9.drew.alloc (.cells #[] 5)).alloc (.cells #[.slice none 0 0, .slice none 0 0, .slice none 0 0] 25)) := hal0.alloc hal0.size _
          have hlC := hl0.below (alloc_more _ (.cells #[.slice none 0 0, .slice none 0 0, .slice none 0 0] 25))
          have HBcC := Lib.hid (HBa.out.below halC)
          have hczC := Cel.born (w9.drew.alloc (.cells #[] 5)) 25 #[.slice none 0 0, .slice none 0 0, .slice none 0 0]
          rw [show (w9.drew.alloc (.cells #[] 5)).heap.size = w9.heap.size + 1 by simp] at hczC
          have halB0 : Below w9.heap.size w9 (w9.drew.alloc (.cells #[.slice none 0 0, .slice none 0 0, .slice none 0 0] 25)) := (Below.refl _ _).drew.alloc (Nat.le_refl _) _
          have halB : Below w9.heap.size w9 ((w9.drew.alloc (.cells #[.slice none 0 0, .slice none 0 0, .slice none 0 0] 25)).alloc (.cells #[] 5)) := halB0.alloc halB0.size _
          have hlB := Own.lit0 5 (w9.drew.alloc (.cells #[.slice none 0 0, .slice none 0 0, .slice none 0 0] 25))
          have HBcB := Lib.hid (HBa.out.below halB)
          rw [show (w9.drew.alloc (.cells #[.slice none 0 0, .slice none 0 0, .slice none 0 0] 25)).heap.size = w9.heap.size + 1 by simp] at hlB
          have hczB : Cel _ w9.heap.size _ _ := (Cel.born w9.drew 25 #[.slice none 0 0, .slice none 0 0, .slice none 0 0]).below (alloc_more _ (.cells #[] 5)) (by simp)
          have hx0 : Below w9.heap.size w9 (w9.alloc (.cells #[] 5)) := alloc_more _ _
          have y00 : (w9.alloc (.cells #[] 5)).cell? ⟨g, 0, none⟩ = some (.slice z.fA z.fn z.fc) := (hx0.cell (p := ⟨g, 0, none⟩) hltr).trans q0
          have y01 : (w9.alloc (.cells #[] 5)).cell? ⟨g, 1, none⟩ = some (.slice z.nA z.nn z.nc) := (hx0.cell (p := ⟨g, 1, none⟩) hltr).trans q1
          have y02 : (w9.alloc (.cells #[] 5)).cell? ⟨g, 2, none⟩ = some (.slice z.kA z.kn z.kc) := (hx0.cell (p := ⟨g, 2, none⟩) hltr).trans q2
          have y03 : (w9.alloc (.cells #[] 5)).cell? ⟨bo, o + k * 7 + 2, none⟩ = some (.string (ba a.name)) := (hx0.cell (p := ⟨bo, o + k * 7 + 2, none⟩) hlbo).trans r2
          have y04 : (w9.alloc (.cells #[] 5)).cell? ⟨bo, o + k * 7 + 4, none⟩ = some (.slice a.bA a.b.length a.bc) := (hx0.cell (p := ⟨bo, o + k * 7 + 4, none⟩) hlbo).trans r4
          clear hx0
          have hx1 : Below w9.heap.size w9 (w9.alloc (.cells #[.slice none 0 0, .slice none 0 0, .slice none 0 0] 25)) := alloc_more _ _
          have y10 : (w9.alloc (.cells #[.slice none 0 0, .slice none 0 0, .slice none 0 0] 25)).cell? ⟨g, 0, none⟩ = some (.slice z.fA z.fn z.fc) := (hx1.cell (p := ⟨g, 0, none⟩) hltr).trans q0
          have y11 : (w9.alloc (.cells #[.slice none 0 0, .slice none 0 0, .slice none 0 0] 25)).cell? ⟨g, 1, none⟩ = some (.slice z.nA z.nn z.nc) := (hx1.cell (p := ⟨g, 1, none⟩) hltr).trans q1
          have y12 : (w9.alloc (.cells #[.slice none 0 0, .slice none 0 0, .slice none 0 0] 25)).cell? ⟨g, 2, none⟩ = some (.slice z.kA z.kn z.kc) := (hx1.cell (p := ⟨g, 2, none⟩) hltr).trans q2
          have y13 : (w9.alloc (.cells #[.slice none 0 0, .slice none 0 0, .slice none 0 0] 25)).cell? ⟨bo, o + k * 7 + 2, none⟩ = some (.string (ba a.name)) := (hx1.cell (p := ⟨bo, o + k * 7 + 2, none⟩) hlbo).trans r2
          have y14 : (w9.alloc (.cells #[.slice none 0 0, .slice none 0 0, .slice none 0 0] 25)).cell? ⟨bo, o + k * 7 + 4, none⟩ = some (.slice a.bA a.b.length a.bc) := (hx1.cell (p := ⟨bo, o + k * 7 + 4, none⟩) hlbo).trans r4
          clear hx1
          have hx2 : Below w9.heap.size w9 ((w9.alloc (.cells #[] 5)).alloc (.cells #[.slice none 0 0, .slice none 0 0, .slice none 0 0] 25)) := (alloc_more _ _).trans ((alloc_more _ _).mono (by simp))
          have y20 : ((w9.alloc (.cells #[] 5)).alloc (.cells #[.slice none 0 0, .slice none 0 0, .slice none 0 0] 25)).cell? ⟨g, 0, none⟩ = some (.slice z.fA z.fn z.fc) := (hx2.cell (p := ⟨g, 0, none⟩) hltr).trans q0
          have y21 : ((w9.alloc (.cells #[] 5)).alloc (.cells #[.slice none 0 0, .slice none 0 0, .slice none 0 0] 25)).cell? ⟨g, 1, none⟩ = some (.slice z.nA z.nn z.nc) := (hx2.cell (p := ⟨g, 1, none⟩) hltr).trans q1
          have y22 : ((w9.alloc (.cells #[] 5)).alloc (.cells #[.slice none 0 0, .slice none 0 0, .slice none 0 0] 25)).cell? ⟨g, 2, none⟩ = some (.slice z.kA z.kn z.kc) := (hx2.cell (p := ⟨g, 2, none⟩) hltr).trans q2
          have y23 : ((w9.alloc (.cells #[] 5)).alloc (.cells #[.slice none 0 0, .slice none 0 0, .slice none 0 0] 25)).cell? ⟨bo, o + k * 7 + 2, none⟩ = some (.string (ba a.name)) := (hx2.cell (p := ⟨bo, o + k * 7 + 2, none⟩) hlbo).trans r2
          have y24 : ((w9.alloc (.cells #[] 5)).alloc (.cells #[.slice none 0 0, .slice none 0 0, .slice none 0 0] 25)).cell? ⟨bo, o + k * 7 + 4, none⟩ = some (.slice a.bA a.b.length a.bc) := (hx2.cell (p := ⟨bo, o + k * 7 + 4, none⟩) hlbo).trans r4
          clear hx2
          have hx3 : Below w9.heap.size w9 ((w9.alloc (.cells #[.slice none 0 0, .slice none 0 0, .slice none 0 0] 25)).alloc (.cells #[] 5)) := (alloc_more _ _).trans ((alloc_more _ _).mono (by simp))
          have y30 : ((w9.alloc (.cells #[.slice none 0 0, .slice none 0 0, .slice none 0 0] 25)).alloc (.cells #[] 5)).cell? ⟨g, 0, none⟩ = some (.slice z.fA z.fn z.fc) := (hx3.cell (p := ⟨g, 0, none⟩) hltr).trans q0
          have y31 : ((w9.alloc (.cells #[.slice none 0 0, .slice none 0 0, .slice none 0 0] 25)).alloc (.cells #[] 5)).cell? ⟨g, 1, none⟩ = some (.slice z.nA z.nn z.nc) := (hx3.cell (p := ⟨g, 1, none⟩) hltr).trans q1
          have y32 : ((w9.alloc (.cells #[.slice none 0 0, .slice none 0 0, .slice none 0 0] 25)).alloc (.cells #[] 5)).cell? ⟨g, 2, none⟩ = some (.slice z.kA z.kn z.kc) := (hx3.cell (p := ⟨g, 2, none⟩) hltr).trans q2
          have y33 : ((w9.alloc (.cells #[.slice none 0 0, .slice none 0 0, .slice none 0 0] 25)).alloc (.cells #[] 5)).cell? ⟨bo, o + k * 7 + 2, none⟩ = some (.string (ba a.name)) := (hx3.cell (p := ⟨bo, o + k * 7 + 2, none⟩) hlbo).trans r2
          have y34 : ((w9.alloc (.cells #[.slice none 0 0, .slice none 0 0, .slice none 0 0] 25)).alloc (.cells #[] 5)).cell? ⟨bo, o + k * 7 + 4, none⟩ = some (.slice a.bA a.b.length a.bc) := (hx3.cell (p := ⟨bo, o + k * 7 + 4, none⟩) hlbo).trans r4
          clear hx3
          have K : Hid (∀ W, Below w9.heap.size w9 W → Below w9.heap.size w9 W ∧ W.cell? ⟨g, 0, none⟩ = some (.slice z.fA z.fn z.fc) ∧ W.cell? ⟨g, 1, none⟩ = some (.slice z.nA z.nn z.nc) ∧ W.cell? ⟨g, 2, none⟩ = some (.slice z.kA z.kn z.kc) ∧ W.cell? ⟨bo, o + k * 7 + 2, none⟩ = some (.string (ba a.name)) ∧ W.cell? ⟨bo, o + k * 7 + 4, none⟩ = some (.slice a.bA a.b.length a.bc)) := fun W hW => ⟨hW, (hW.cell (p := ⟨g, 0, none⟩) hltr).trans q0, (hW.cell (p := ⟨g, 1, none⟩) hltr).trans q1, (hW.cell (p := ⟨g, 2, none⟩) hltr).trans q2, (hW.cell (p := ⟨bo, o + k * 7 + 2, none⟩) hlbo).trans r2, (hW.cell (p := ⟨bo, o + k * 7 + 4, none⟩) hlbo).trans r4⟩
          go_wp2_with fail
          go_region_held3 (fun W => Below w9.heap.size w9 W ∧ W.cell? ⟨g, 0, none⟩ = some (.slice z.fA z.fn z.fc) ∧ W.cell? ⟨g, 1, none⟩ = some (.slice z.nA z.nn z.nc) ∧ W.cell? ⟨g, 2, none⟩ = some (.slice z.kA z.kn z.kc) ∧ W.cell? ⟨bo, o + k * 7 + 2, none⟩ = some (.string (ba a.name)) ∧ W.cell? ⟨bo, o + k * 7 + 4, none⟩ = some (.slice a.bA a.b.length a.bc))
            (first
              | exact K.out _ (Below.refl _ _).drew
              | exact K.out _ hal0
              | exact K.out _ halC
              | exact K.out _ halB0
              | exact K.out _ halB
              | exact K.out _ hb9'
              | exact K.out _ (hb9'.trans ((alloc_more _ _).mono hb9'.size))
              | exact K.out _ hb9u
              | exact K.out _ (hb9u.trans ((alloc_more _ _).mono hb9u.size))
              | exact K.out _ (below_put3 hb9u (by first | omega | (have := hb9'.size; omega)) _ _ _))
            (first
              | (refine step_appE byP (by rfl) (.tmp 95) (.tmp 100) (by rfl) (by rfl) hl0 (by rfl) HBc.out (by omega) (by exact hal0.size) ?_; intro A9 c9 wq9 hown9 hb9 hgr9; simp only [Nat.zero_add, List.nil_append] at hown9; have hb9' : Below w9.heap.size w9 wq9 := hal0.trans (hb9.mono (Nat.le_refl _)); have hlt9 : g < wq9.heap.size := Nat.lt_of_lt_of_le hltr hb9'.size; have hlt9b : bo < wq9.heap.size := Nat.lt_of_lt_of_le hlbo hb9'.size; have k0 : wq9.cell? ⟨g, 0, none⟩ = some (.slice z.fA z.fn z.fc) := (hb9'.cell (p := ⟨g, 0, none⟩) hltr).trans q0; have k1 : wq9.cell? ⟨g, 1, none⟩ = some (.slice z.nA z.nn z.nc) := (hb9'.cell (p := ⟨g, 1, none⟩) hltr).trans q1; have k2 : wq9.cell? ⟨g, 2, none⟩ = some (.slice z.kA z.kn z.kc) := (hb9'.cell (p := ⟨g, 2, none⟩) hltr).trans q2; have k3 : wq9.cell? ⟨bo, o + k * 7 + 2, none⟩ = some (.string (ba a.name)) := (hb9'.cell (p := ⟨bo, o + k * 7 + 2, none⟩) hlbo).trans r2; have k4 : wq9.cell? ⟨bo, o + k * 7 + 4, none⟩ = some (.slice a.bA a.b.length a.bc) := (hb9'.cell (p := ⟨bo, o + k * 7 + 4, none⟩) hlbo).trans r4)
              | (refine step_appE byP (by rfl) (.tmp 95) (.tmp 100) (by rfl) (by rfl) hlC (by rfl) HBcC.out (by omega) (by exact halC.size) ?_; intro A9 c9 wq9 hown9 hb9 hgr9; simp only [Nat.zero_add, List.nil_append] at hown9; have hb9' : Below w9.heap.size w9 wq9 := halC.trans (hb9.mono (Nat.le_refl _)); have hcz9 := hczC.grown hgr9 (hczC.not_row hlC (by decide)); have hlt9 : g < wq9.heap.size := Nat.lt_of_lt_of_le hltr hb9'.size; have hlt9b : bo < wq9.heap.size := Nat.lt_of_lt_of_le hlbo hb9'.size; have k0 : wq9.cell? ⟨g, 0, none⟩ = some (.slice z.fA z.fn z.fc) := (hb9'.cell (p := ⟨g, 0, none⟩) hltr).trans q0; have k1 : wq9.cell? ⟨g, 1, none⟩ = some (.slice z.nA z.nn z.nc) := (hb9'.cell (p := ⟨g, 1, none⟩) hltr).trans q1; have k2 : wq9.cell? ⟨g, 2, none⟩ = some (.slice z.kA z.kn z.kc) := (hb9'.cell (p := ⟨g, 2, none⟩) hltr).trans q2; have k3 : wq9.cell? ⟨bo, o + k * 7 + 2, none⟩ = some (.string (ba a.name)) := (hb9'.cell (p := ⟨bo, o + k * 7 + 2, none⟩) hlbo).trans r2; have k4 : wq9.cell? ⟨bo, o + k * 7 + 4, none⟩ = some (.slice a.bA a.b.length a.bc) := (hb9'.cell (p := ⟨bo, o + k * 7 + 4, none⟩) hlbo).trans r4)
              | (refine step_appE byP (by rfl) (.tmp 95) (.tmp 100) (by rfl) (by rfl) hlB (by rfl) HBcB.out (by omega) (by simp) ?_; intro A9 c9 wq9 hown9 hb9 hgr9; simp only [Nat.zero_add, List.nil_append] at hown9; have hb9' : Below w9.heap.size w9 wq9 := halB.trans (hb9.mono (by simp)); have hcz9 := hczB.grown hgr9 (hczB.not_row hlB (by decide)); have hlt9 : g < wq9.heap.size := Nat.lt_of_lt_of_le hltr hb9'.size; have hlt9b : bo < wq9.heap.size := Nat.lt_of_lt_of_le hlbo hb9'.size; have k0 : wq9.cell? ⟨g, 0, none⟩ = some (.slice z.fA z.fn z.fc) := (hb9'.cell (p := ⟨g, 0, none⟩) hltr).trans q0; have k1 : wq9.cell? ⟨g, 1, none⟩ = some (.slice z.nA z.nn z.nc) := (hb9'.cell (p := ⟨g, 1, none⟩) hltr).trans q1; have k2 : wq9.cell? ⟨g, 2, none⟩ = some (.slice z.kA z.kn z.kc) := (hb9'.cell (p := ⟨g, 2, none⟩) hltr).trans q2; have k3 : wq9.cell? ⟨bo, o + k * 7 + 2, none⟩ = some (.string (ba a.name)) := (hb9'.cell (p := ⟨bo, o + k * 7 + 2, none⟩) hlbo).trans r2; have k4 : wq9.cell? ⟨bo, o + k * 7 + 4, none⟩ = some (.slice a.bA a.b.length a.bc) := (hb9'.cell (p := ⟨bo, o + k * 7 + 4, none⟩) hlbo).trans r4)
              | (go_simp; go_at_call 22; refine (HAP.out _ _ _ hb9' hown9.bs).mono ?_; rintro ee wu ⟨z4, rfl, hz4, hr4, hbu⟩; have hb9u := hb9'.trans (hbu.mono hb9'.size); try (have hcz := hcz9.below hbu hcz9.lt; obtain ⟨s0, s1, s2⟩ := cel3 hcz; obtain ⟨u0, u1, u2⟩ := cel_frs hcz))
              | (go_simp; go_at_call 22; have hal9 := alloc_more wq9 (.cells #[.slice none 0 0, .slice none 0 0, .slice none 0 0] 25); refine (HAP.out _ _ _ (hb9'.trans (hal9.mono hb9'.size)) (hown9.bs.alloc _)).mono ?_; rintro ee wu ⟨z4, rfl, hz4, hr4, hbu⟩; have hb9u := (hb9'.trans (hal9.mono hb9'.size)).trans (hbu.mono (hb9'.trans (hal9.mono hb9'.size)).size); have hcz := (Cel.born wq9 25 #[.slice none 0 0, .slice none 0 0, .slice none 0 0]).below hbu (by simp); obtain ⟨s0, s1, s2⟩ := cel3 hcz; obtain ⟨u0, u1, u2⟩ := cel_frs hcz))
          all_goals (
            have hmn : z4.d = (appendK z.d a.name a.b).1 := hz4
            have hgu : g < wu.heap.size := Nat.lt_of_lt_of_le hltr hb9u.size
            have VU := HV9.out.below hb9u
            obtain ⟨v0, v1, v2⟩ := cel3 VU.c
            obtain ⟨x0, x1, x2⟩ := cel_frs VU.c
            go_wp2_with fail
            go_roundw
            case rel =>
              first
              | (have hcz0 := hcz
                 exact stla_next2 (by omega) hcz0 VU hr4 hgu (Nat.ne_of_lt (by first | exact hltr | exact Nat.lt_succ_of_lt hltr | exact hlt9)) (by first | exact Nat.le_of_lt (Nat.lt_of_le_of_lt hg0 hltr) | exact Nat.le_succ_of_le (Nat.le_of_lt (Nat.lt_of_le_of_lt hg0 hltr)) | exact Nat.le_of_lt (Nat.lt_of_le_of_lt hg0 hlt9)) hg0 (by rw [hmn]; exact HNX.out) HW9.out HB9.out hb9u hs89)
              | exact stla_next1 (by omega) VU hr4 hgu hg0 (by rw [hmn]; exact HNX.out) HW9.out HB9.out hb9u hs89 _
            case measure => simp [intOf]; omega)
      · have h10' : (10 : Int) ≤ (k : Int) := by omega
        have hrz : RightD z.d := hla.1
        have HCR := Lib.hid (crash_any z Ak nk ck keep dir wr hV.r (right_sm hrz) (HK.out.below hB))
        obtain ⟨l, hgl, hpre⟩ := lasts_crash hla keep dir
        have hck : crashK z.d keep dir = crashG z.d keep dir := by show crashG (goodD z.d) keep dir = _; rw [good_of hrz]
        rw [← hck] at hgl
        have HGL := Lib.hid hgl
        have HRC : Hid (RightD (crashK z.d keep dir)) := by show RightD _; rw [hck]; exact crash_right hrz keep dir
        obtain ⟨q0, q1, q2⟩ := cel3 hV.c
        have HPRE := Lib.hid hpre
        have HWr := Lib.hid hbs
        have HBr := Lib.hid hB
        have hBs := hB.size
        clear hrz hla hgl hpre hck hV hbs hB hsz
        go_wp2_with fail
        refine HCR.out.mono ?_
        rintro e wA ⟨zc, rfl, hzc, hrc, hbA⟩
        have BA := Lib.hid (HBr.out.trans (hbA.mono HBr.out.size))
        have HGC := Lib.hid (get_any zc t wA hrc (by rw [hzc]; exact right_sm HRC.out))
        rw [hzc, HGL.out] at HGC
        have HWA := Lib.hid (HWr.out.below hbA)
        have hsA := hbA.size
        clear hrc hzc hbA
        go_wp2_with fail
        refine HGC.out.mono ?_
        rintro e wB ⟨Al, nl, cl, rfl, hbl, hbB⟩
        have BB := Lib.hid (BA.out.trans (hbB.mono BA.out.size))
        have hW := (HWA.out.below (hbB.mono hsA)).bs
        have hll := hbl.len
        have hnl : nw ≤ nl := by have h1 := HPRE.out.length_le; have h2 := HLW.out; simp only at hll; omega
        obtain ⟨A5, hb5, hcut5⟩ := byP.cut_h hbl nw (nw : Int) rfl hnl
        have htk : l.take nw = was := by have h1 := List.prefix_iff_eq_take.1 HPRE.out; rw [HLW.out] at h1; exact h1.symm
        simp only at hb5
        rw [htk] at hb5
        have hcv1 : (convert 33 9 (.slice A5 nw cl)).run Try.prog wB.drew = .ok (.string ⟨was.toArray⟩) wB.drew := byP.str hb5.drew
        have hcv2 : (convert 33 9 (.slice Aw nw cw)).run Try.prog wB.drew = .ok (.string ⟨was.toArray⟩) wB.drew := byP.str hW.drew
        have hge : (nw : Int) ≤ (nl : Int) := by omega
        have hnn : (0 : Int) ≤ (nw : Int) := by omega
        have hlc := hbl.cap
        have hlm := hbl.max
        clear hb5 hW hbl hbB htk hll
        go_wp2_with fail
        go_still_tail 20, (by kernel_rfl)
        change wpList _ _ _ _ _ wB.drew
        go_wp2_with fail
        refine (knows_yes _).mono ?_
        rintro e wz ⟨rfl, hbz⟩
        go_wp2
        go_ret
        exact ⟨rfl, BB.out.trans ((below_undrew hbz).mono BB.out.size)⟩
    · obtain rfl : k = nm := by omega
      have hrz : RightD z.d := hla.1
      have HCR := Lib.hid (crash_any z Ak nk ck keep dir wr hV.r (right_sm hrz) (HK.out.below hB))
      obtain ⟨l, hgl, hpre⟩ := lasts_crash hla keep dir
      have hck : crashK z.d keep dir = crashG z.d keep dir := by show crashG (goodD z.d) keep dir = _; rw [good_of hrz]
      rw [← hck] at hgl
      have HGL := Lib.hid hgl
      have HRC : Hid (RightD (crashK z.d keep dir)) := by show RightD _; rw [hck]; exact crash_right hrz keep dir
      obtain ⟨q0, q1, q2⟩ := cel3 hV.c
      have HPRE := Lib.hid hpre
      have HWr := Lib.hid hbs
      have HBr := Lib.hid hB
      have hBs := hB.size
      clear hrz hla hgl hpre hck hV hbs hB hsz
      go_wp2_with fail
      refine HCR.out.mono ?_
      rintro e wA ⟨zc, rfl, hzc, hrc, hbA⟩
      have BA := Lib.hid (HBr.out.trans (hbA.mono HBr.out.size))
      have HGC := Lib.hid (get_any zc t wA hrc (by rw [hzc]; exact right_sm HRC.out))
      rw [hzc, HGL.out] at HGC
      have HWA := Lib.hid (HWr.out.below hbA)
      have hsA := hbA.size
      clear hrc hzc hbA
      go_wp2_with fail
      refine HGC.out.mono ?_
      rintro e wB ⟨Al, nl, cl, rfl, hbl, hbB⟩
      have BB := Lib.hid (BA.out.trans (hbB.mono BA.out.size))
      have hW := (HWA.out.below (hbB.mono hsA)).bs
      have hll := hbl.len
      have hnl : nw ≤ nl := by have h1 := HPRE.out.length_le; have h2 := HLW.out; simp only at hll; omega
      obtain ⟨A5, hb5, hcut5⟩ := byP.cut_h hbl nw (nw : Int) rfl hnl
      have htk : l.take nw = was := by have h1 := List.prefix_iff_eq_take.1 HPRE.out; rw [HLW.out] at h1; exact h1.symm
      simp only at hb5
      rw [htk] at hb5
      have hcv1 : (convert 33 9 (.slice A5 nw cl)).run Try.prog wB.drew = .ok (.string ⟨was.toArray⟩) wB.drew := byP.str hb5.drew
      have hcv2 : (convert 33 9 (.slice Aw nw cw)).run Try.prog wB.drew = .ok (.string ⟨was.toArray⟩) wB.drew := byP.str hW.drew
      have hge : (nw : Int) ≤ (nl : Int) := by omega
      have hnn : (0 : Int) ≤ (nw : Int) := by omega
      have hlc := hbl.cap
      have hlm := hbl.max
      clear hb5 hW hbl hbB htk hll
      go_wp2_with fail
      go_still_tail 20, (by kernel_rfl)
      change wpList _ _ _ _ _ wB.drew
      go_wp2_with fail
      refine (knows_yes _).mono ?_
      rintro e wz ⟨rfl, hbz⟩
      go_wp2
      go_ret
      exact ⟨rfl, BB.out.trans ((below_undrew hbz).mono BB.out.size)⟩
end Go.Proofs.Ytmgecfbfabhghaa.Dw
