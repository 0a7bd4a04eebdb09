/- What the document's Crash comes to. For disks whose names fit. -/
import Derived.Test.YtoifdjpflannlaaDwRg5
import Derived.Test.YtoifdjpflannlaaDwCrash
import Derived.Deep.RegionHeld3
import Derived.Deep.RegionLaw
import Derived.Deep.CutRange
import Derived.BigQuiet
import Derived.Deep.QuietTactic
set_option maxRecDepth 8000
namespace Go.Proofs.Ytoifdjpflannlaa.Dw
open Go.RowKit By Dk

theorem crashFs_snoc (d : D) (keep : List Int) (e : E) : ∀ (l : List E) (i : Nat), crashFs d keep i (l ++ [e]) = crashFs d keep i l ++ [crashF (fileAt d e.2) keep[i + l.length]?]
  | [], i => rfl
  | a :: l, i => by
    show crashFs d keep i (a :: (l ++ [e])) = _
    rw [crashFs, crashFs, crashFs_snoc d keep e l (i + 1), List.length_cons, show i + 1 + l.length = i + (l.length + 1) by omega]
    rfl
theorem crashEs_snoc (e : E) : ∀ (l : List E) (i : Nat), crashEs i (l ++ [e]) = crashEs i l ++ [(e.1, ((i + l.length : Nat) : Int))]
  | [], i => rfl
  | a :: l, i => by
    show crashEs i (a :: (l ++ [e])) = _
    rw [crashEs, crashEs, crashEs_snoc e l (i + 1), List.length_cons, show i + 1 + l.length = i + (l.length + 1) by omega]
    rfl
theorem ownG_kept {α β : Type} {Y : Lay α} {Z : Lay β} {w w' : World} {e B n c e' B' n' c' : Nat} {A A' : Option Addr} {l : List α} {m : List β} (h : OwnG Y e B w A n c l) (h' : OwnG Z e' B' w A' n' c' m) (hne : e ≠ e') (hg : w.grownBy w' (Value.slice A' n' c').ownBlock) : OwnG Y e B w' A n c l :=
  ⟨World.ownsRow.kept h.1 hg (apart_any h.1 h'.1 hne), h.2⟩
theorem litF_n (e : Nat) (V : World) (A : Option Addr) (c n : Nat) (l : List UInt8) (s : Int) (hl : l.length = n) : RdG layF (V.heap.size + 1) (V.alloc (.cells #[.slice A n c, .int .i64 s] e)) (some ⟨V.heap.size, 0, none⟩) 1 1 [⟨A, c, l, s⟩] := by
  have := litF e V ⟨A, c, l, s⟩
  rw [show (⟨A, c, l, s⟩ : Fv).l.length = n from hl] at this
  exact this
def StCh (U g : Nat) (w4 : World) (d : D) (keep : List Int) (L : List E) (m : Nat) (i : Value) (wr : World) : Prop :=
  ∃ (k : Nat) (A1 : Option Addr) (c1 : Nat) (A2 : Option Addr) (c2 : Nat) (ys : List Fv), k ≤ m ∧ i = .int .i64 k ∧ Cel wr g 32 #[.slice A1 k c1, .slice A2 k c2, .slice none 0 0] ∧ OwnG layF 66 (g + 1) wr A1 k c1 ys ∧ fsOf ys = crashFs d keep 0 (L.take k) ∧ Byt U wr ys ∧ OwnG layE 69 (g + 1) wr A2 k c2 (crashEs 0 (L.take k)) ∧ Below g w4 wr

set_option maxHeartbeats 8000000 in
theorem refCrash_false (x : Dv) (kA : Option Addr) (kc : Nat) (keep : List Int) (w : World) (h : RdD w.heap.size w x) (hsm : Sm x.d) (hkp : Rd w kA keep.length kc (intV keep)) :
    Calls Try.prog 39 #[x.v, .slice kA keep.length kc, .bool false] w (DR w (fun v => v) (crashK x.d keep false)) := by
  obtain ⟨w1, hw1⟩ : ∃ w1, w1 = (w.alloc (.cells x.cs 32)).alloc (.cells #[.slice none 0 0, .slice none 0 0, .slice none 0 0] 32) := ⟨_, rfl⟩
  have S1 : Sr w w1 x.cs := by rw [hw1]; exact Sr.start x w
  have HG := Lib.hid (refGood_any w.heap.size x w1 (h.below S1.b) S1.b.size hsm)
  have HS1 := Lib.hid S1
  have HKP := Lib.hid hkp
  have hkc := hkp.cap
  have hkm := hkp.max
  clear hkp
  clear h S1 hsm
  go_enter Try.func39, Try.ntmps39
  go_wp2_with fail
  rw [← hw1]
  clear hw1
  refine HG.out.mono ?_
  rintro e w2 ⟨y, rfl, hy, hry, hb2⟩
  have S2 := HS1.out.below hb2 HS1.out.s
  obtain ⟨q0, q1, q2⟩ := ref_cel3 S2.c0
  obtain ⟨f0, f1, f2⟩ := cel_frs S2.c0
  obtain ⟨w3, hw3⟩ : ∃ w3, w3 = (((w2.setCell ⟨w.heap.size, 0, none⟩ (.slice y.fA y.fn y.fc)).setCell ⟨w.heap.size, 1, none⟩ (.slice y.nA y.nn y.nc)).setCell ⟨w.heap.size, 2, none⟩ (.slice y.kA y.kn y.kc)) := ⟨_, rfl⟩
  have S3 : Sr w w3 y.cs := by rw [hw3]; exact S2.put _ _ _
  have hr3 : RdD w.heap.size w3 y := by rw [hw3]; exact hry.below (below_put3 (Below.refl _ _) (Nat.le_refl _) _ _ _)
  have HS3 := Lib.hid S3
  have HR3 := Lib.hid hr3
  have HRD : Hid (RightD y.d) := by show RightD _; rw [hy]; exact good_right _
  have HY := Lib.hid hy
  obtain ⟨zl, zn, zk, zs, zb, zc⟩ := loose_facts HRD.out.2.1 hr3 (by have := HRD.out.1; omega)
  have h20 : y.fn ≤ 20 := by have := HRD.out.1; omega
  have HZB := Lib.hid zb
  have HZC := Lib.hid zc
  have HZS := Lib.hid zs
  have HZL := Lib.hid zl
  have hyfc := hr3.f.cap
  have hyfm := hr3.f.max
  clear hry hb2 S2 S3 hr3 hy zb zc zs zl HG HS1
  obtain ⟨p0, p1, p2⟩ := ref_cel3 HS3.out.c0
  have hs3 := HS3.out.s
  obtain ⟨w4, hw4⟩ : ∃ w4, w4 = w3.alloc (.cells #[.slice none 0 0, .slice none 0 0, .slice none 0 0] 32) := ⟨_, rfl⟩
  have hb34 : Below w3.heap.size w3 w4 := by rw [hw4]; exact alloc_more _ _
  have HG4 := Lib.hid (show Cel w4 w3.heap.size 32 #[.slice none 0 0, .slice none 0 0, .slice none 0 0] by rw [hw4]; exact Cel.born _ _ _)
  have hs4 : w4.heap.size = w3.heap.size + 1 := by rw [hw4]; simp
  have HB34 := Lib.hid hb34
  have HS4 := Lib.hid hs4
  have HM : Hid (crashK x.d keep false = ⟨crashFs y.d keep 0 y.kept, crashEs 0 y.kept, crashEs 0 y.kept⟩) := by
    show _ = _
    unfold crashK
    rw [← HY.out]
    rfl
  obtain ⟨LA, hLA⟩ : ∃ LA, LA = y.kA := ⟨_, rfl⟩
  obtain ⟨Ln, hLn⟩ : ∃ Ln, Ln = y.kn := ⟨_, rfl⟩
  obtain ⟨Lc, hLc⟩ : ∃ Lc, Lc = y.kc := ⟨_, rfl⟩
  have HLR : Hid (RdE w.heap.size w3 LA Ln Lc y.kept) := by show RdE _ _ _ _ _ _; rw [hLA, hLn, hLc]; exact HR3.out.k
  have HLL : Hid ((y.kept).length = Ln) := HLR.out.len
  have hLnc := HLR.out.cap
  have hLcm := HLR.out.max
  have hLs : Ln ≤ 21 := by omega
  rw [hw3] at p0 p1 p2
  clear hb34 hs4
  go_wp2
  have hz23 : w3.heap.size = w2.heap.size := by rw [hw3]; simp
  rw [← hw3, ← hw4, ← hz23]
  have hLv : Value.slice LA Ln Lc = .slice y.kA y.kn y.kc := by rw [hLA, hLn, hLc]
  rw [← hLv]
  clear hw3 hw4 hz23 hLv p0 p1 p2 q0 q1 q2 f0 f1 f2 hLA hLn hLc
  go_loopw [9] (fun i wr => StCh w.heap.size w3.heap.size w4 y.d keep y.kept Ln i wr) (fun i _ => Ln - (intOf i).toNat)
  case atStart => exact ⟨0, none, 0, none, 0, [], by omega, rfl, HG4.out, OwnG.nil _ _ _, rfl, (fun u hu => by cases hu), OwnG.nil _ _ _, Below.refl _ _⟩
  case round =>
    obtain ⟨k, A1, c1, A2, c2, ys, hk, rfl, hco, hown1, hfs, hby, hown2, hbw⟩ := hrel
    have HB3r := Lib.hid (HB34.out.trans hbw)
    have hsb : w4.heap.size ≤ wr.heap.size := hbw.size
    have hgw : w3.heap.size + 1 ≤ wr.heap.size := by have := HS4.out; omega
    have HBwr := Lib.hid (HB3r.out.mono HS3.out.b.size)
    by_cases hlt : k < Ln
    · obtain ⟨b, o, s, f, rfl, hbl, HE, e1, e2⟩ := atE (HLR.out.below HBwr.out) hlt
      obtain ⟨_, hf0, hf1⟩ := (HRD.out.2.1.2.1).1 _ (List.mem_of_getElem? HE.out)
      obtain ⟨j, rfl⟩ := Int.eq_ofNat_of_zero_le hf0
      have hj : j < y.fn := by have := HZL.out; omega
      obtain ⟨b3, o3, v, eA3, hbl3, HE3, hbs, r1, r2⟩ := atF (HR3.out.f.below HBwr.out) hj
      obtain ⟨d0, _, _⟩ := ref_cel3 (HS3.out.c0.below HB3r.out (by omega))
      rw [eA3] at d0
      have HV : Hid (fileAt y.d (j : Int) = v.f) := fileAt_get (by omega) (by simpa using HE3.out)
      have hok : FileOk v.f := by rw [← HV.out]; exact HRD.out.2.1.2.2 _ (fileAt_mem hf0 hf1)
      obtain ⟨_, hok1, hok2⟩ := hok
      have hok1' : 0 ≤ v.s := hok1
      have hok2' : v.s ≤ ((v.l.length : Nat) : Int) := hok2
      have hvl : v.l.length ≤ 20000 := HZB.out v (List.mem_of_getElem? HE3.out)
      have hle := left_le (f := v.f) ⟨hvl, hok1, hok2⟩ keep[k]?
      have hlel : leftN v.f keep[k]? ≤ v.l.length := hle.2
      obtain ⟨nn, hnn⟩ : ∃ nn, nn = leftN v.f keep[k]? := ⟨_, rfl⟩
      rw [← hnn] at hlel
      have HNN := Lib.hid hnn
      have HFS : Hid (crashFs y.d keep 0 ((y.kept).take (k + 1)) = crashFs y.d keep 0 ((y.kept).take k) ++ [⟨v.l.take nn, nn⟩]) := by
        show _ = _
        rw [take_next HE.out, crashFs_snoc, List.length_take, Nat.min_eq_left (by have := HLL.out; omega), Nat.zero_add]
        show _ ++ [crashF (fileAt y.d (j : Int)) keep[k]?] = _
        rw [HV.out]
        unfold crashF
        rw [← HNN.out]
        rfl
      have HES : Hid (crashEs 0 ((y.kept).take (k + 1)) = crashEs 0 ((y.kept).take k) ++ [(s, (k : Int))]) := by
        show _ = _
        rw [take_next HE.out, crashEs_snoc, List.length_take, Nat.min_eq_left (by have := HLL.out; omega), Nat.zero_add]
      have HBS := Lib.hid hbs
      have hkz : (k : Int) < (Ln : Int) := by omega
      have hjz : (j : Int) < (y.fn : Int) := by omega
      have hj0 : (0 : Int) ≤ (j : Int) := by omega
      have hbr2 : b < wr.heap.size := World.block_lt_of_cell? wr _ e1
      have hbr3 : b3 < wr.heap.size := World.block_lt_of_cell? wr _ r1
      have hvc := hbs.bs.cap
      have hvm := hbs.bs.max
      have HCO := Lib.hid hco
      have HO1 := Lib.hid hown1
      have HO2 := Lib.hid hown2
      have HFY := Lib.hid hfs
      have HBY := Lib.hid hby
      have HBW := Lib.hid hbw
      have hkrd := HKP.out.below (HS3.out.b.trans HBwr.out)
      have K : Hid (∀ W, Below wr.heap.size wr W → W.cell? ⟨w.heap.size, 0, none⟩ = some (.slice (some ⟨b3, o3, none⟩) y.fn y.fc) ∧ W.cell? ⟨b, o + k * 2 + 1, none⟩ = some (.int .i64 (j : Int)) ∧ W.cell? ⟨b3, o3 + j * 2, none⟩ = some (.slice v.A v.l.length v.c) ∧ W.cell? ⟨b3, o3 + j * 2 + 1, none⟩ = some (.int .i64 v.s)) := fun W hW => ⟨(hW.cell (p := ⟨w.heap.size, 0, none⟩) (by show w.heap.size < _; omega)).trans d0, (hW.cell (p := ⟨b, o + k * 2 + 1, none⟩) hbr2).trans e2, (hW.cell (p := ⟨b3, o3 + j * 2, none⟩) hbr3).trans r1, (hW.cell (p := ⟨b3, o3 + j * 2 + 1, none⟩) hbr3).trans r2⟩
      have HE1 := Lib.hid e1
      clear hco hown1 hown2 hfs hby hbw hbs HE3 HE eA3 hnn hle hok1 hok2 hf0 hf1 e1
      go_wp2_with fail
      obtain ⟨wq, hwq⟩ : ∃ wq, wq = (wr.alloc (.cells #[.slice v.A v.l.length v.c, .int .i64 v.s] 66)).drew := ⟨_, rfl⟩
      have hcq : Cel wq wr.heap.size 66 #[.slice v.A v.l.length v.c, .int .i64 v.s] := by rw [hwq]; exact Cel.born wr _ _
      have hbq : Below wr.heap.size wr wq := by rw [hwq]; exact (alloc_more wr _).drew
      obtain ⟨z0, z1⟩ := cel2 hcq
      have hkq := hkrd.below hbq
      have HCQ := Lib.hid hcq
      have HBQ := Lib.hid hbq
      have HWQ := Lib.hid hwq
      clear hwq hcq hbq
      go_region_held3 (fun W => W.cell? ⟨w.heap.size, 0, none⟩ = some (.slice (some ⟨b3, o3, none⟩) y.fn y.fc) ∧ W.cell? ⟨b, o + k * 2 + 1, none⟩ = some (.int .i64 (j : Int)) ∧ W.cell? ⟨b3, o3 + j * 2, none⟩ = some (.slice v.A v.l.length v.c) ∧ W.cell? ⟨b3, o3 + j * 2 + 1, none⟩ = some (.int .i64 v.s))
        (first
          | exact K.out _ (Below.refl _ _)
          | exact K.out _ (Below.refl _ _).drew
          | exact K.out _ ((Below.refl _ _).alloc (Nat.le_refl _) _)
          | exact K.out _ ((Below.refl _ _).alloc (Nat.le_refl _) _).drew)
        (fail)
      rw [← HWQ.out]
      clear HWQ d0 e2 r1 r2 K
      by_cases hkk : k < keep.length
      rotate_left
      · have hq : v.s = (nn : Int) := by
          rw [HNN.out, List.getElem?_eq_none (by omega)]
          show v.s = ((v.s.toNat : Nat) : Int)
          omega
        have HQ := Lib.hid hq
        have hkk' : ¬ (k : Int) < ((keep.length : Nat) : Int) := by omega
        clear hq hkk
        go_wp2_with fail
        rw [HQ.out]
        have HCX := HCQ
        have HBX := HBQ
        clear z0 z1 hkk'
        obtain ⟨wx, hwx⟩ : ∃ wx, wx = wq := ⟨_, rfl⟩
        rw [← hwx] at HCX HBX ⊢
        clear hwx HCQ HBQ hkq HQ HNN
        obtain ⟨l0, l1⟩ := cel2 HCX.out
        have hsx := HBX.out.size
        have hgo : w3.heap.size < wx.heap.size := by omega
        have hgx : w3.heap.size + 1 ≤ wx.heap.size := by omega
        have hhx : wr.heap.size < wx.heap.size := HCX.out.lt
        have hcx := HCO.out.below HBX.out HCO.out.lt
        obtain ⟨o0, o1, o2⟩ := ref_cel3 hcx
        have fo := cel_fr hcx 0
        obtain ⟨A9, hs9, hcut9⟩ := byP.cutU_h (HBS.out.below (HBX.out.mono (by omega))) nn (nn : Int) rfl hlel
        have hll9 : (v.l.take nn).length = nn := by rw [List.length_take]; omega
        have hlit := litF_n 66 wx.drew A9 v.c nn (v.l.take nn) (nn : Int) hll9
        have hal : Below wx.heap.size wx (wx.drew.alloc (.cells #[.slice A9 nn v.c, .int .i64 (nn : Int)] 66)) := (Below.refl _ _).drew.alloc (Nat.le_refl _) _
        have HO1x := Lib.hid ((HO1.out.below HBX.out).below hal)
        have HO2x := Lib.hid ((HO2.out.below HBX.out).below hal)
        have HCOx := Lib.hid hcx
        have HS9 := Lib.hid hs9
        have hoa : (wx.alloc (.cells #[.slice A9 nn v.c, .int .i64 (nn : Int)] 66)).cell? ⟨w3.heap.size, 0, none⟩ = some (.slice A1 k c1) := ((alloc_more wx _).cell (p := ⟨w3.heap.size, 0, none⟩) hgo).trans o0
        have hnn0 : (0 : Int) ≤ (nn : Int) := by omega
        have hnnl : (nn : Int) ≤ ((v.l.length : Nat) : Int) := by omega
        clear hcx hs9 l1 o1 o2 hll9
        go_cut [75] from 66 to 74 (fun _ wy => ∃ (A3 : Option Addr) (c3 : Nat), Hid (Cel wy w3.heap.size 32 #[.slice A3 (k + 1) c3, .slice A2 k c2, .slice none 0 0]) ∧ Hid (OwnG layF 66 (w3.heap.size + 1) wy A3 (k + 1) c3 (ys ++ [⟨A9, v.c, v.l.take nn, (nn : Int)⟩])) ∧ Hid (OwnG layE 69 (w3.heap.size + 1) wy A2 k c2 (crashEs 0 ((y.kept).take k))) ∧ Hid (Below w3.heap.size wx wy))
        case first =>
          go_region_law (first
            | (refine step_appG rfilP (by decide) (by decide) (by kernel_rfl) (by rfl) (.tmp 67) (.tmp 74) (by rfl) (by rfl) HO1x.out (by rfl) hlit (by omega) (by simp; omega) ?_; intro A3 c3 w6 happ; have hcw := (HCOx.out.below hal HCOx.out.lt).grown happ.2.2.1 ((HCOx.out.below hal HCOx.out.lt).not_row HO1x.out.1 (by decide)); obtain ⟨m0, m1, m2⟩ := ref_cel3 hcw; have fe := cel_fr hcw 0; have hoe := ownG_kept HO2x.out HO1x.out (by decide) happ.2.2.1))
          all_goals (
            have hq1 : Below w3.heap.size wx w6 := (hal.mono (by omega)).trans (happ.2.1.mono (by omega))
            go_wp2_with fail
            go_meet
            exact ⟨A3, c3, Lib.hid (cel_put hcw 0 _), Lib.hid ⟨ownsRow_setCell_below happ.1.1 (Nat.lt_succ_self _) _, happ.1.2⟩, Lib.hid ⟨ownsRow_setCell_below hoe.1 (Nat.lt_succ_self _) _, hoe.2⟩, Lib.hid (hq1.setCell (p := ⟨w3.heap.size, 0, none⟩) (Nat.le_refl _) _)⟩)
        case rest =>
        obtain ⟨A3, c3, HCY, HOY1, HOY2, HBXY⟩ := hcut
        obtain ⟨wy, hwy⟩ : ∃ q, q = wc := ⟨_, rfl⟩
        subst hwy
        have HBRY := Lib.hid ((HBX.out.mono (show w3.heap.size ≤ wr.heap.size by omega)).trans HBXY.out)
        have e1y : wy.cell? ⟨b, o + k * 2, none⟩ = some (.string (ba s)) := (HBRY.out.cell (p := ⟨b, o + k * 2, none⟩) (by show b < _; omega)).trans HE1.out
        obtain ⟨o0', o1', o2'⟩ := ref_cel3 HCY.out
        have fo' := cel_fr HCY.out 1
        have hgy : w3.heap.size < wy.heap.size := HCY.out.lt
        have hby2 : b < wy.heap.size := by omega
        have hlit2 := litRE 69 wy.drew s (k : Int)
        have hal2 : Below wy.heap.size wy (wy.drew.alloc (.cells #[.string (ba s), .int .i64 (k : Int)] 69)) := (Below.refl _ _).drew.alloc (Nat.le_refl _) _
        have HP1 := Lib.hid (HOY1.out.below hal2)
        have HP2 := Lib.hid (HOY2.out.below hal2)
        have hoa2 : (wy.alloc (.cells #[.string (ba s), .int .i64 (k : Int)] 69)).cell? ⟨w3.heap.size, 1, none⟩ = some (.slice A2 k c2) := ((alloc_more wy _).cell (p := ⟨w3.heap.size, 1, none⟩) hgy).trans o1'
        clear o0 hoa hal hlit fo l0 hcut9 o0' o2'
        go_wp2_with fail
        go_region_law (first
          | (refine step_appG rentP (by decide) (by decide) (by kernel_rfl) (by rfl) (.tmp 78) (.tmp 86) (by rfl) (by rfl) HP2.out (by rfl) hlit2 (by omega) (by simp; omega) ?_; intro A4 c4 w7 happ; have hcw := (HCY.out.below hal2 HCY.out.lt).grown happ.2.2.1 ((HCY.out.below hal2 HCY.out.lt).not_row HP2.out.1 (by decide)); obtain ⟨m0, m1, m2⟩ := ref_cel3 hcw; have fe := cel_fr hcw 1; have hof := ownG_kept HP1.out HP2.out (by decide) happ.2.2.1))
        all_goals (
          go_wp2
          go_roundw
          case rel =>
            have hq1 : Below w3.heap.size wy w7 := (hal2.mono (by omega)).trans (happ.2.1.mono (by omega))
            have hq2 : Below w3.heap.size wr w7 := HBRY.out.trans hq1
            have hq3 : Below w3.heap.size wx w7 := HBXY.out.trans hq1
            have hbe : Below w3.heap.size w4 (w7.setCell ⟨w3.heap.size, 1, none⟩ (.slice A4 (k + 1) c4)) := (HBW.out.trans hq2).setCell (p := ⟨w3.heap.size, 1, none⟩) (Nat.le_refl _) _
            have hbu : Below w.heap.size wr (w7.setCell ⟨w3.heap.size, 1, none⟩ (.slice A4 (k + 1) c4)) := (hq2.setCell (p := ⟨w3.heap.size, 1, none⟩) (Nat.le_refl _) _).mono HS3.out.b.size
            have hbv : Below w.heap.size wx (w7.setCell ⟨w3.heap.size, 1, none⟩ (.slice A4 (k + 1) c4)) := (hq3.setCell (p := ⟨w3.heap.size, 1, none⟩) (Nat.le_refl _) _).mono HS3.out.b.size
            refine ⟨k + 1, A3, c3, A4, c4, ys ++ [⟨A9, v.c, v.l.take nn, (nn : Int)⟩], by omega, by go_num, cel_put hcw 1 _, ⟨ownsRow_setCell_below hof.1 (Nat.lt_succ_self _) _, hof.2⟩, ?_, ?_, by rw [HES.out]; exact ⟨ownsRow_setCell_below happ.1.1 (Nat.lt_succ_self _) _, happ.1.2⟩, hbe⟩
            · rw [HFS.out, ← HFY.out]
              unfold fsOf
              rw [List.map_append]
              rfl
            · intro u hu
              rcases List.mem_append.1 hu with q | q
              · exact (HBY.out u q).below hbu
              · rw [List.mem_singleton.1 q]
                have h1 := HS9.out.below hbv
                show BsU _ _ A9 (v.l.take nn).length v.c (v.l.take nn)
                rw [show (v.l.take nn).length = nn by rw [List.length_take]; omega]
                exact h1
          case measure => simp [intOf]; omega)
      obtain ⟨b4, o4, z, hzk, rfl, hze, g1⟩ := ints_at hkq hkk
      have hkk' : (k : Int) < ((keep.length : Nat) : Int) := by omega
      have HLE : Hid (nn = if 0 < z then (if ((v.l.length : Nat) : Int) - v.s < z then v.l.length else (v.s + z).toNat) else v.s.toNat) := by
        show _ = _
        rw [HNN.out, List.getElem?_eq_getElem hzk, hze]
        rfl
      clear hzk hze hkk
      by_cases hz0 : 0 < z
      rotate_left
      · have hq : v.s = (nn : Int) := by rw [HLE.out, if_neg hz0]; omega
        have HQ := Lib.hid hq
        clear hq
        go_wp2_with fail
        rw [HQ.out]
        have HCX := HCQ
        have HBX := HBQ
        clear z0 z1 hkk' g1
        obtain ⟨wx, hwx⟩ : ∃ wx, wx = wq := ⟨_, rfl⟩
        rw [← hwx] at HCX HBX ⊢
        clear hwx HCQ HBQ hkq HQ HNN HLE
        obtain ⟨l0, l1⟩ := cel2 HCX.out
        have hsx := HBX.out.size
        have hgo : w3.heap.size < wx.heap.size := by omega
        have hgx : w3.heap.size + 1 ≤ wx.heap.size := by omega
        have hhx : wr.heap.size < wx.heap.size := HCX.out.lt
        have hcx := HCO.out.below HBX.out HCO.out.lt
        obtain ⟨o0, o1, o2⟩ := ref_cel3 hcx
        have fo := cel_fr hcx 0
        obtain ⟨A9, hs9, hcut9⟩ := byP.cutU_h (HBS.out.below (HBX.out.mono (by omega))) nn (nn : Int) rfl hlel
        have hll9 : (v.l.take nn).length = nn := by rw [List.length_take]; omega
        have hlit := litF_n 66 wx.drew A9 v.c nn (v.l.take nn) (nn : Int) hll9
        have hal : Below wx.heap.size wx (wx.drew.alloc (.cells #[.slice A9 nn v.c, .int .i64 (nn : Int)] 66)) := (Below.refl _ _).drew.alloc (Nat.le_refl _) _
        have HO1x := Lib.hid ((HO1.out.below HBX.out).below hal)
        have HO2x := Lib.hid ((HO2.out.below HBX.out).below hal)
        have HCOx := Lib.hid hcx
        have HS9 := Lib.hid hs9
        have hoa : (wx.alloc (.cells #[.slice A9 nn v.c, .int .i64 (nn : Int)] 66)).cell? ⟨w3.heap.size, 0, none⟩ = some (.slice A1 k c1) := ((alloc_more wx _).cell (p := ⟨w3.heap.size, 0, none⟩) hgo).trans o0
        have hnn0 : (0 : Int) ≤ (nn : Int) := by omega
        have hnnl : (nn : Int) ≤ ((v.l.length : Nat) : Int) := by omega
        clear hcx hs9 l1 o1 o2 hll9
        go_cut [75] from 66 to 74 (fun _ wy => ∃ (A3 : Option Addr) (c3 : Nat), Hid (Cel wy w3.heap.size 32 #[.slice A3 (k + 1) c3, .slice A2 k c2, .slice none 0 0]) ∧ Hid (OwnG layF 66 (w3.heap.size + 1) wy A3 (k + 1) c3 (ys ++ [⟨A9, v.c, v.l.take nn, (nn : Int)⟩])) ∧ Hid (OwnG layE 69 (w3.heap.size + 1) wy A2 k c2 (crashEs 0 ((y.kept).take k))) ∧ Hid (Below w3.heap.size wx wy))
        case first =>
          go_region_law (first
            | (refine step_appG rfilP (by decide) (by decide) (by kernel_rfl) (by rfl) (.tmp 67) (.tmp 74) (by rfl) (by rfl) HO1x.out (by rfl) hlit (by omega) (by simp; omega) ?_; intro A3 c3 w6 happ; have hcw := (HCOx.out.below hal HCOx.out.lt).grown happ.2.2.1 ((HCOx.out.below hal HCOx.out.lt).not_row HO1x.out.1 (by decide)); obtain ⟨m0, m1, m2⟩ := ref_cel3 hcw; have fe := cel_fr hcw 0; have hoe := ownG_kept HO2x.out HO1x.out (by decide) happ.2.2.1))
          all_goals (
            have hq1 : Below w3.heap.size wx w6 := (hal.mono (by omega)).trans (happ.2.1.mono (by omega))
            go_wp2_with fail
            go_meet
            exact ⟨A3, c3, Lib.hid (cel_put hcw 0 _), Lib.hid ⟨ownsRow_setCell_below happ.1.1 (Nat.lt_succ_self _) _, happ.1.2⟩, Lib.hid ⟨ownsRow_setCell_below hoe.1 (Nat.lt_succ_self _) _, hoe.2⟩, Lib.hid (hq1.setCell (p := ⟨w3.heap.size, 0, none⟩) (Nat.le_refl _) _)⟩)
        case rest =>
        obtain ⟨A3, c3, HCY, HOY1, HOY2, HBXY⟩ := hcut
        obtain ⟨wy, hwy⟩ : ∃ q, q = wc := ⟨_, rfl⟩
        subst hwy
        have HBRY := Lib.hid ((HBX.out.mono (show w3.heap.size ≤ wr.heap.size by omega)).trans HBXY.out)
        have e1y : wy.cell? ⟨b, o + k * 2, none⟩ = some (.string (ba s)) := (HBRY.out.cell (p := ⟨b, o + k * 2, none⟩) (by show b < _; omega)).trans HE1.out
        obtain ⟨o0', o1', o2'⟩ := ref_cel3 HCY.out
        have fo' := cel_fr HCY.out 1
        have hgy : w3.heap.size < wy.heap.size := HCY.out.lt
        have hby2 : b < wy.heap.size := by omega
        have hlit2 := litRE 69 wy.drew s (k : Int)
        have hal2 : Below wy.heap.size wy (wy.drew.alloc (.cells #[.string (ba s), .int .i64 (k : Int)] 69)) := (Below.refl _ _).drew.alloc (Nat.le_refl _) _
        have HP1 := Lib.hid (HOY1.out.below hal2)
        have HP2 := Lib.hid (HOY2.out.below hal2)
        have hoa2 : (wy.alloc (.cells #[.string (ba s), .int .i64 (k : Int)] 69)).cell? ⟨w3.heap.size, 1, none⟩ = some (.slice A2 k c2) := ((alloc_more wy _).cell (p := ⟨w3.heap.size, 1, none⟩) hgy).trans o1'
        clear o0 hoa hal hlit fo l0 hcut9 o0' o2'
        go_wp2_with fail
        go_region_law (first
          | (refine step_appG rentP (by decide) (by decide) (by kernel_rfl) (by rfl) (.tmp 78) (.tmp 86) (by rfl) (by rfl) HP2.out (by rfl) hlit2 (by omega) (by simp; omega) ?_; intro A4 c4 w7 happ; have hcw := (HCY.out.below hal2 HCY.out.lt).grown happ.2.2.1 ((HCY.out.below hal2 HCY.out.lt).not_row HP2.out.1 (by decide)); obtain ⟨m0, m1, m2⟩ := ref_cel3 hcw; have fe := cel_fr hcw 1; have hof := ownG_kept HP1.out HP2.out (by decide) happ.2.2.1))
        all_goals (
          go_wp2
          go_roundw
          case rel =>
            have hq1 : Below w3.heap.size wy w7 := (hal2.mono (by omega)).trans (happ.2.1.mono (by omega))
            have hq2 : Below w3.heap.size wr w7 := HBRY.out.trans hq1
            have hq3 : Below w3.heap.size wx w7 := HBXY.out.trans hq1
            have hbe : Below w3.heap.size w4 (w7.setCell ⟨w3.heap.size, 1, none⟩ (.slice A4 (k + 1) c4)) := (HBW.out.trans hq2).setCell (p := ⟨w3.heap.size, 1, none⟩) (Nat.le_refl _) _
            have hbu : Below w.heap.size wr (w7.setCell ⟨w3.heap.size, 1, none⟩ (.slice A4 (k + 1) c4)) := (hq2.setCell (p := ⟨w3.heap.size, 1, none⟩) (Nat.le_refl _) _).mono HS3.out.b.size
            have hbv : Below w.heap.size wx (w7.setCell ⟨w3.heap.size, 1, none⟩ (.slice A4 (k + 1) c4)) := (hq3.setCell (p := ⟨w3.heap.size, 1, none⟩) (Nat.le_refl _) _).mono HS3.out.b.size
            refine ⟨k + 1, A3, c3, A4, c4, ys ++ [⟨A9, v.c, v.l.take nn, (nn : Int)⟩], by omega, by go_num, cel_put hcw 1 _, ⟨ownsRow_setCell_below hof.1 (Nat.lt_succ_self _) _, hof.2⟩, ?_, ?_, by rw [HES.out]; exact ⟨ownsRow_setCell_below happ.1.1 (Nat.lt_succ_self _) _, happ.1.2⟩, hbe⟩
            · rw [HFS.out, ← HFY.out]
              unfold fsOf
              rw [List.map_append]
              rfl
            · intro u hu
              rcases List.mem_append.1 hu with q | q
              · exact (HBY.out u q).below hbu
              · rw [List.mem_singleton.1 q]
                have h1 := HS9.out.below hbv
                show BsU _ _ A9 (v.l.take nn).length v.c (v.l.take nn)
                rw [show (v.l.take nn).length = nn by rw [List.length_take]; omega]
                exact h1
          case measure => simp [intOf]; omega)
      by_cases hz1 : ((v.l.length : Nat) : Int) - v.s < z
      · have hq : v.l.length = nn := by rw [HLE.out, if_pos hz0, if_pos hz1]
        have HQ := Lib.hid hq
        clear hq
        go_wp2_with fail
        go_quiet (fail)
        rename_i nq
        go_wp2_with fail
        rw [HQ.out]
        have HCX : Hid (Cel (wq.drewN nq) wr.heap.size 66 #[.slice v.A v.l.length v.c, .int .i64 v.s]) := HCQ
        have HBX := Lib.hid (below_drewN HBQ.out nq)
        clear z0 z1 hkk' g1
        obtain ⟨wx, hwx⟩ : ∃ wx, wx = wq.drewN nq := ⟨_, rfl⟩
        rw [← hwx] at HCX HBX ⊢
        clear hwx HCQ HBQ hkq HQ HNN HLE
        obtain ⟨l0, l1⟩ := cel2 HCX.out
        have hsx := HBX.out.size
        have hgo : w3.heap.size < wx.heap.size := by omega
        have hgx : w3.heap.size + 1 ≤ wx.heap.size := by omega
        have hhx : wr.heap.size < wx.heap.size := HCX.out.lt
        have hcx := HCO.out.below HBX.out HCO.out.lt
        obtain ⟨o0, o1, o2⟩ := ref_cel3 hcx
        have fo := cel_fr hcx 0
        obtain ⟨A9, hs9, hcut9⟩ := byP.cutU_h (HBS.out.below (HBX.out.mono (by omega))) nn (nn : Int) rfl hlel
        have hll9 : (v.l.take nn).length = nn := by rw [List.length_take]; omega
        have hlit := litF_n 66 wx.drew A9 v.c nn (v.l.take nn) (nn : Int) hll9
        have hal : Below wx.heap.size wx (wx.drew.alloc (.cells #[.slice A9 nn v.c, .int .i64 (nn : Int)] 66)) := (Below.refl _ _).drew.alloc (Nat.le_refl _) _
        have HO1x := Lib.hid ((HO1.out.below HBX.out).below hal)
        have HO2x := Lib.hid ((HO2.out.below HBX.out).below hal)
        have HCOx := Lib.hid hcx
        have HS9 := Lib.hid hs9
        have hoa : (wx.alloc (.cells #[.slice A9 nn v.c, .int .i64 (nn : Int)] 66)).cell? ⟨w3.heap.size, 0, none⟩ = some (.slice A1 k c1) := ((alloc_more wx _).cell (p := ⟨w3.heap.size, 0, none⟩) hgo).trans o0
        have hnn0 : (0 : Int) ≤ (nn : Int) := by omega
        have hnnl : (nn : Int) ≤ ((v.l.length : Nat) : Int) := by omega
        clear hcx hs9 l1 o1 o2 hll9
        go_cut [75] from 66 to 74 (fun _ wy => ∃ (A3 : Option Addr) (c3 : Nat), Hid (Cel wy w3.heap.size 32 #[.slice A3 (k + 1) c3, .slice A2 k c2, .slice none 0 0]) ∧ Hid (OwnG layF 66 (w3.heap.size + 1) wy A3 (k + 1) c3 (ys ++ [⟨A9, v.c, v.l.take nn, (nn : Int)⟩])) ∧ Hid (OwnG layE 69 (w3.heap.size + 1) wy A2 k c2 (crashEs 0 ((y.kept).take k))) ∧ Hid (Below w3.heap.size wx wy))
        case first =>
          go_region_law (first
            | (refine step_appG rfilP (by decide) (by decide) (by kernel_rfl) (by rfl) (.tmp 67) (.tmp 74) (by rfl) (by rfl) HO1x.out (by rfl) hlit (by omega) (by simp; omega) ?_; intro A3 c3 w6 happ; have hcw := (HCOx.out.below hal HCOx.out.lt).grown happ.2.2.1 ((HCOx.out.below hal HCOx.out.lt).not_row HO1x.out.1 (by decide)); obtain ⟨m0, m1, m2⟩ := ref_cel3 hcw; have fe := cel_fr hcw 0; have hoe := ownG_kept HO2x.out HO1x.out (by decide) happ.2.2.1))
          all_goals (
            have hq1 : Below w3.heap.size wx w6 := (hal.mono (by omega)).trans (happ.2.1.mono (by omega))
            go_wp2_with fail
            go_meet
            exact ⟨A3, c3, Lib.hid (cel_put hcw 0 _), Lib.hid ⟨ownsRow_setCell_below happ.1.1 (Nat.lt_succ_self _) _, happ.1.2⟩, Lib.hid ⟨ownsRow_setCell_below hoe.1 (Nat.lt_succ_self _) _, hoe.2⟩, Lib.hid (hq1.setCell (p := ⟨w3.heap.size, 0, none⟩) (Nat.le_refl _) _)⟩)
        case rest =>
        obtain ⟨A3, c3, HCY, HOY1, HOY2, HBXY⟩ := hcut
        obtain ⟨wy, hwy⟩ : ∃ q, q = wc := ⟨_, rfl⟩
        subst hwy
        have HBRY := Lib.hid ((HBX.out.mono (show w3.heap.size ≤ wr.heap.size by omega)).trans HBXY.out)
        have e1y : wy.cell? ⟨b, o + k * 2, none⟩ = some (.string (ba s)) := (HBRY.out.cell (p := ⟨b, o + k * 2, none⟩) (by show b < _; omega)).trans HE1.out
        obtain ⟨o0', o1', o2'⟩ := ref_cel3 HCY.out
        have fo' := cel_fr HCY.out 1
        have hgy : w3.heap.size < wy.heap.size := HCY.out.lt
        have hby2 : b < wy.heap.size := by omega
        have hlit2 := litRE 69 wy.drew s (k : Int)
        have hal2 : Below wy.heap.size wy (wy.drew.alloc (.cells #[.string (ba s), .int .i64 (k : Int)] 69)) := (Below.refl _ _).drew.alloc (Nat.le_refl _) _
        have HP1 := Lib.hid (HOY1.out.below hal2)
        have HP2 := Lib.hid (HOY2.out.below hal2)
        have hoa2 : (wy.alloc (.cells #[.string (ba s), .int .i64 (k : Int)] 69)).cell? ⟨w3.heap.size, 1, none⟩ = some (.slice A2 k c2) := ((alloc_more wy _).cell (p := ⟨w3.heap.size, 1, none⟩) hgy).trans o1'
        clear o0 hoa hal hlit fo l0 hcut9 o0' o2'
        go_wp2_with fail
        go_region_law (first
          | (refine step_appG rentP (by decide) (by decide) (by kernel_rfl) (by rfl) (.tmp 78) (.tmp 86) (by rfl) (by rfl) HP2.out (by rfl) hlit2 (by omega) (by simp; omega) ?_; intro A4 c4 w7 happ; have hcw := (HCY.out.below hal2 HCY.out.lt).grown happ.2.2.1 ((HCY.out.below hal2 HCY.out.lt).not_row HP2.out.1 (by decide)); obtain ⟨m0, m1, m2⟩ := ref_cel3 hcw; have fe := cel_fr hcw 1; have hof := ownG_kept HP1.out HP2.out (by decide) happ.2.2.1))
        all_goals (
          go_wp2
          go_roundw
          case rel =>
            have hq1 : Below w3.heap.size wy w7 := (hal2.mono (by omega)).trans (happ.2.1.mono (by omega))
            have hq2 : Below w3.heap.size wr w7 := HBRY.out.trans hq1
            have hq3 : Below w3.heap.size wx w7 := HBXY.out.trans hq1
            have hbe : Below w3.heap.size w4 (w7.setCell ⟨w3.heap.size, 1, none⟩ (.slice A4 (k + 1) c4)) := (HBW.out.trans hq2).setCell (p := ⟨w3.heap.size, 1, none⟩) (Nat.le_refl _) _
            have hbu : Below w.heap.size wr (w7.setCell ⟨w3.heap.size, 1, none⟩ (.slice A4 (k + 1) c4)) := (hq2.setCell (p := ⟨w3.heap.size, 1, none⟩) (Nat.le_refl _) _).mono HS3.out.b.size
            have hbv : Below w.heap.size wx (w7.setCell ⟨w3.heap.size, 1, none⟩ (.slice A4 (k + 1) c4)) := (hq3.setCell (p := ⟨w3.heap.size, 1, none⟩) (Nat.le_refl _) _).mono HS3.out.b.size
            refine ⟨k + 1, A3, c3, A4, c4, ys ++ [⟨A9, v.c, v.l.take nn, (nn : Int)⟩], by omega, by go_num, cel_put hcw 1 _, ⟨ownsRow_setCell_below hof.1 (Nat.lt_succ_self _) _, hof.2⟩, ?_, ?_, by rw [HES.out]; exact ⟨ownsRow_setCell_below happ.1.1 (Nat.lt_succ_self _) _, happ.1.2⟩, hbe⟩
            · rw [HFS.out, ← HFY.out]
              unfold fsOf
              rw [List.map_append]
              rfl
            · intro u hu
              rcases List.mem_append.1 hu with q | q
              · exact (HBY.out u q).below hbu
              · rw [List.mem_singleton.1 q]
                have h1 := HS9.out.below hbv
                show BsU _ _ A9 (v.l.take nn).length v.c (v.l.take nn)
                rw [show (v.l.take nn).length = nn by rw [List.length_take]; omega]
                exact h1
          case measure => simp [intOf]; omega)
      · have hq : v.s + z = (nn : Int) := by rw [HLE.out, if_pos hz0, if_neg hz1]; omega
        have HQ := Lib.hid hq
        have hzle : v.s + z ≤ 20000 := by omega
        clear hq
        go_wp2_with fail
        go_quiet (fail)
        rename_i nq
        go_wp2_with fail
        rw [HQ.out]
        have HCX : Hid (Cel (wq.drewN nq) wr.heap.size 66 #[.slice v.A v.l.length v.c, .int .i64 v.s]) := HCQ
        have HBX := Lib.hid (below_drewN HBQ.out nq)
        clear z0 z1 hkk' g1
        obtain ⟨wx, hwx⟩ : ∃ wx, wx = wq.drewN nq := ⟨_, rfl⟩
        rw [← hwx] at HCX HBX ⊢
        clear hwx HCQ HBQ hkq HQ HNN HLE
        obtain ⟨l0, l1⟩ := cel2 HCX.out
        have hsx := HBX.out.size
        have hgo : w3.heap.size < wx.heap.size := by omega
        have hgx : w3.heap.size + 1 ≤ wx.heap.size := by omega
        have hhx : wr.heap.size < wx.heap.size := HCX.out.lt
        have hcx := HCO.out.below HBX.out HCO.out.lt
        obtain ⟨o0, o1, o2⟩ := ref_cel3 hcx
        have fo := cel_fr hcx 0
        obtain ⟨A9, hs9, hcut9⟩ := byP.cutU_h (HBS.out.below (HBX.out.mono (by omega))) nn (nn : Int) rfl hlel
        have hll9 : (v.l.take nn).length = nn := by rw [List.length_take]; omega
        have hlit := litF_n 66 wx.drew A9 v.c nn (v.l.take nn) (nn : Int) hll9
        have hal : Below wx.heap.size wx (wx.drew.alloc (.cells #[.slice A9 nn v.c, .int .i64 (nn : Int)] 66)) := (Below.refl _ _).drew.alloc (Nat.le_refl _) _
        have HO1x := Lib.hid ((HO1.out.below HBX.out).below hal)
        have HO2x := Lib.hid ((HO2.out.below HBX.out).below hal)
        have HCOx := Lib.hid hcx
        have HS9 := Lib.hid hs9
        have hoa : (wx.alloc (.cells #[.slice A9 nn v.c, .int .i64 (nn : Int)] 66)).cell? ⟨w3.heap.size, 0, none⟩ = some (.slice A1 k c1) := ((alloc_more wx _).cell (p := ⟨w3.heap.size, 0, none⟩) hgo).trans o0
        have hnn0 : (0 : Int) ≤ (nn : Int) := by omega
        have hnnl : (nn : Int) ≤ ((v.l.length : Nat) : Int) := by omega
        clear hcx hs9 l1 o1 o2 hll9
        go_cut [75] from 66 to 74 (fun _ wy => ∃ (A3 : Option Addr) (c3 : Nat), Hid (Cel wy w3.heap.size 32 #[.slice A3 (k + 1) c3, .slice A2 k c2, .slice none 0 0]) ∧ Hid (OwnG layF 66 (w3.heap.size + 1) wy A3 (k + 1) c3 (ys ++ [⟨A9, v.c, v.l.take nn, (nn : Int)⟩])) ∧ Hid (OwnG layE 69 (w3.heap.size + 1) wy A2 k c2 (crashEs 0 ((y.kept).take k))) ∧ Hid (Below w3.heap.size wx wy))
        case first =>
          go_region_law (first
            | (refine step_appG rfilP (by decide) (by decide) (by kernel_rfl) (by rfl) (.tmp 67) (.tmp 74) (by rfl) (by rfl) HO1x.out (by rfl) hlit (by omega) (by simp; omega) ?_; intro A3 c3 w6 happ; have hcw := (HCOx.out.below hal HCOx.out.lt).grown happ.2.2.1 ((HCOx.out.below hal HCOx.out.lt).not_row HO1x.out.1 (by decide)); obtain ⟨m0, m1, m2⟩ := ref_cel3 hcw; have fe := cel_fr hcw 0; have hoe := ownG_kept HO2x.out HO1x.out (by decide) happ.2.2.1))
          all_goals (
            have hq1 : Below w3.heap.size wx w6 := (hal.mono (by omega)).trans (happ.2.1.mono (by omega))
            go_wp2_with fail
            go_meet
            exact ⟨A3, c3, Lib.hid (cel_put hcw 0 _), Lib.hid ⟨ownsRow_setCell_below happ.1.1 (Nat.lt_succ_self _) _, happ.1.2⟩, Lib.hid ⟨ownsRow_setCell_below hoe.1 (Nat.lt_succ_self _) _, hoe.2⟩, Lib.hid (hq1.setCell (p := ⟨w3.heap.size, 0, none⟩) (Nat.le_refl _) _)⟩)
        case rest =>
        obtain ⟨A3, c3, HCY, HOY1, HOY2, HBXY⟩ := hcut
        obtain ⟨wy, hwy⟩ : ∃ q, q = wc := ⟨_, rfl⟩
        subst hwy
        have HBRY := Lib.hid ((HBX.out.mono (show w3.heap.size ≤ wr.heap.size by omega)).trans HBXY.out)
        have e1y : wy.cell? ⟨b, o + k * 2, none⟩ = some (.string (ba s)) := (HBRY.out.cell (p := ⟨b, o + k * 2, none⟩) (by show b < _; omega)).trans HE1.out
        obtain ⟨o0', o1', o2'⟩ := ref_cel3 HCY.out
        have fo' := cel_fr HCY.out 1
        have hgy : w3.heap.size < wy.heap.size := HCY.out.lt
        have hby2 : b < wy.heap.size := by omega
        have hlit2 := litRE 69 wy.drew s (k : Int)
        have hal2 : Below wy.heap.size wy (wy.drew.alloc (.cells #[.string (ba s), .int .i64 (k : Int)] 69)) := (Below.refl _ _).drew.alloc (Nat.le_refl _) _
        have HP1 := Lib.hid (HOY1.out.below hal2)
        have HP2 := Lib.hid (HOY2.out.below hal2)
        have hoa2 : (wy.alloc (.cells #[.string (ba s), .int .i64 (k : Int)] 69)).cell? ⟨w3.heap.size, 1, none⟩ = some (.slice A2 k c2) := ((alloc_more wy _).cell (p := ⟨w3.heap.size, 1, none⟩) hgy).trans o1'
        clear o0 hoa hal hlit fo l0 hcut9 o0' o2'
        go_wp2_with fail
        go_region_law (first
          | (refine step_appG rentP (by decide) (by decide) (by kernel_rfl) (by rfl) (.tmp 78) (.tmp 86) (by rfl) (by rfl) HP2.out (by rfl) hlit2 (by omega) (by simp; omega) ?_; intro A4 c4 w7 happ; have hcw := (HCY.out.below hal2 HCY.out.lt).grown happ.2.2.1 ((HCY.out.below hal2 HCY.out.lt).not_row HP2.out.1 (by decide)); obtain ⟨m0, m1, m2⟩ := ref_cel3 hcw; have fe := cel_fr hcw 1; have hof := ownG_kept HP1.out HP2.out (by decide) happ.2.2.1))
        all_goals (
          go_wp2
          go_roundw
          case rel =>
            have hq1 : Below w3.heap.size wy w7 := (hal2.mono (by omega)).trans (happ.2.1.mono (by omega))
            have hq2 : Below w3.heap.size wr w7 := HBRY.out.trans hq1
            have hq3 : Below w3.heap.size wx w7 := HBXY.out.trans hq1
            have hbe : Below w3.heap.size w4 (w7.setCell ⟨w3.heap.size, 1, none⟩ (.slice A4 (k + 1) c4)) := (HBW.out.trans hq2).setCell (p := ⟨w3.heap.size, 1, none⟩) (Nat.le_refl _) _
            have hbu : Below w.heap.size wr (w7.setCell ⟨w3.heap.size, 1, none⟩ (.slice A4 (k + 1) c4)) := (hq2.setCell (p := ⟨w3.heap.size, 1, none⟩) (Nat.le_refl _) _).mono HS3.out.b.size
            have hbv : Below w.heap.size wx (w7.setCell ⟨w3.heap.size, 1, none⟩ (.slice A4 (k + 1) c4)) := (hq3.setCell (p := ⟨w3.heap.size, 1, none⟩) (Nat.le_refl _) _).mono HS3.out.b.size
            refine ⟨k + 1, A3, c3, A4, c4, ys ++ [⟨A9, v.c, v.l.take nn, (nn : Int)⟩], by omega, by go_num, cel_put hcw 1 _, ⟨ownsRow_setCell_below hof.1 (Nat.lt_succ_self _) _, hof.2⟩, ?_, ?_, by rw [HES.out]; exact ⟨ownsRow_setCell_below happ.1.1 (Nat.lt_succ_self _) _, happ.1.2⟩, hbe⟩
            · rw [HFS.out, ← HFY.out]
              unfold fsOf
              rw [List.map_append]
              rfl
            · intro u hu
              rcases List.mem_append.1 hu with q | q
              · exact (HBY.out u q).below hbu
              · rw [List.mem_singleton.1 q]
                have h1 := HS9.out.below hbv
                show BsU _ _ A9 (v.l.take nn).length v.c (v.l.take nn)
                rw [show (v.l.take nn).length = nn by rw [List.length_take]; omega]
                exact h1
          case measure => simp [intOf]; omega)
    · obtain rfl : k = Ln := by omega
      rw [List.take_of_length_le (Nat.le_of_eq HLL.out)] at hfs hown2
      obtain ⟨o0, o1, o2⟩ := ref_cel3 hco
      obtain ⟨f0, f1, f2⟩ := cel_frs hco
      obtain ⟨w8, hw8⟩ : ∃ w8, w8 = wr.setCell ⟨w3.heap.size, 2, none⟩ (.slice A2 k c2) := ⟨_, rfl⟩
      have hb38 : Below w3.heap.size w3 w8 := by rw [hw8]; exact HB3r.out.setCell (p := ⟨w3.heap.size, 2, none⟩) (Nat.le_refl _) _
      have hc8 : Cel w8 w3.heap.size 32 #[.slice A1 k c1, .slice A2 k c2, .slice A2 k c2] := by rw [hw8]; exact cel_put hco 2 _
      have HS8 : Hid (Sr w w8 y.cs) := HS3.out.below hb38 hs3
      have hr8 : RdD w8.heap.size w8 ⟨A1, k, c1, ys, A2, k, c2, crashEs 0 y.kept, A2, k, c2, crashEs 0 y.kept⟩ := by
        have hbu : Below w.heap.size wr w8 := by rw [hw8]; exact (Below.refl _ _).setCell (p := ⟨w3.heap.size, 2, none⟩) HS3.out.b.size _
        have hz8 : w8.heap.size = wr.heap.size := by rw [hw8]; simp
        have h1 : RdG layF wr.heap.size w8 A1 k c1 ys := by rw [hw8]; exact rdg_away (fun _ => ⟨1, _, rfl, rfl⟩) hown1.rd hco sl3 (cell_put1 _ _ _ _)
        have h2 : RdE wr.heap.size w8 A2 k c2 (crashEs 0 y.kept) := by rw [hw8]; exact rdg_away (fun _ => ⟨0, _, rfl, rfl⟩) hown2.rd hco sl3 (cell_put1 _ _ _ _)
        rw [hz8]
        exact ⟨⟨h1, (hby.below hbu).mono (Nat.le_trans HS3.out.b.size (by omega))⟩, h2, h2⟩
      have HRZ := Lib.hid hr8
      have HZ : Hid ((⟨A1, k, c1, ys, A2, k, c2, crashEs 0 y.kept, A2, k, c2, crashEs 0 y.kept⟩ : Dv).d = crashK x.d keep false) := by show D.mk (fsOf ys) _ _ = _; rw [HM.out, hfs]
      obtain ⟨s0, s1, s2⟩ := ref_cel3 hc8
      obtain ⟨t0, t1, t2⟩ := ref_cel3 HS8.out.c1
      obtain ⟨g0, g1, g2⟩ := cel_frs HS8.out.c1
      rw [hw8] at s0 s1 s2 t0 t1 t2 g0 g1 g2
      clear hco hown1 hown2 hby hfs hb38 hc8 hr8
      go_wp2
      rw [← hw8]
      clear hw8 s0 s1 s2 t0 t1 t2 g0 g1 g2 o0 o1 o2 f0 f1 f2
      (try simp only [Exit.inBlock, Exit.then])
      refine bodyPost_ret (ret_rdisk rfl _ _ (w.heap.size + 1) #[.slice A1 k c1, .slice A2 k c2, .slice A2 k c2] rfl (cel_put3 HS8.out.c1) rfl) rfl ?_
      exact ⟨⟨A1, k, c1, ys, A2, k, c2, crashEs 0 y.kept, A2, k, c2, crashEs 0 y.kept⟩, rfl, HZ.out, HS8.out.rd HRZ.out (Nat.le_refl _) _ _ _, HS8.out.out _ _ _⟩
end Go.Proofs.Ytoifdjpflannlaa.Dw
