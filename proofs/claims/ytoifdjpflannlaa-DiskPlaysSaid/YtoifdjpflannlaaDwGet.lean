/- What disk's valid, fileOf, Names and Get come to. For disks whose names fit. -/
import Derived.Test.YtoifdjpflannlaaDwValid
import Derived.Test.YtoifdjpflannlaaCoCat
set_option maxRecDepth 8000
namespace Go.Proofs.Ytoifdjpflannlaa.Dw
open Go.RowKit By Dk

theorem ret_disk {fn : Func} {p : Tmp} (hres : fn.results = #[.cell p 25]) (tmps : Array Value) (w : World) (g : Nat) (cs : Array Value) (hp : tmps.getD p undef = .pointer (some ⟨g, 0, none⟩)) (hc : Cel w g 25 cs) (hs : cs.size = 3) :
    (results fn tmps).run Try.prog w = .ok (.agg cs) w := results_cell_row hres tmps w g _ cs (0, 0) _ hp hc Try.underlying25 rfl (by rw [hs]; kernel_rfl)
/-- The cells of a disk. -/
@[reducible] def Dv.cs (x : Dv) : Array Value := #[.slice x.fA x.fn x.fc, .slice x.nA x.nn x.nc, .slice x.kA x.kn x.kc]
theorem cel_put3 {w : World} {g : Nat} {t : TypeId} {a b c a' b' c' : Value} (h : Cel w g t #[a, b, c]) : Cel (((w.setCell ⟨g, 0, none⟩ a').setCell ⟨g, 1, none⟩ b').setCell ⟨g, 2, none⟩ c') g t #[a', b', c'] := cel_put (cel_put (cel_put h 0 a') 1 b') 2 c'
theorem below_put3 {B : Nat} {v w : World} (h : Below B v w) {g : Nat} (hg : B ≤ g) (a b c : Value) : Below B v (((w.setCell ⟨g, 0, none⟩ a).setCell ⟨g, 1, none⟩ b).setCell ⟨g, 2, none⟩ c) :=
  ((h.setCell (p := ⟨g, 0, none⟩) hg a).setCell (p := ⟨g, 1, none⟩) hg b).setCell (p := ⟨g, 2, none⟩) hg c
/-- The three cells of a disk in a block known whole. -/
theorem cel3 {w : World} {g : Nat} {t : TypeId} {a b c : Value} (h : Cel w g t #[a, b, c]) : w.cell? ⟨g, 0, none⟩ = some a ∧ w.cell? ⟨g, 1, none⟩ = some b ∧ w.cell? ⟨g, 2, none⟩ = some c := ⟨by rw [h.cell]; rfl, by rw [h.cell]; rfl, by rw [h.cell]; rfl⟩

/-- A disk, or the zero one: it reads below the call's beginning. -/
def VaR (U : Nat) (w : World) (x : Dv) (e : Ending) (w' : World) : Prop := ∃ y : Dv, e = .returned (.agg #[.slice y.fA y.fn y.fc, .slice y.nA y.nn y.nc, .slice y.kA y.kn y.kc]) ∧ y.d = goodD x.d ∧ RdD U w' y ∧ Below w.heap.size w w'
set_option maxHeartbeats 1000000 in
theorem valid_any (U : Nat) (x : Dv) (w : World) (h : RdD U w x) (hU : U ≤ w.heap.size) (hsm : Sm x.d) :
    Calls Try.prog 51 #[x.v] w (VaR U w x) := by
  obtain ⟨w1, hw1⟩ : ∃ w1, w1 = (w.alloc (.cells x.cs 25)).alloc (.cells #[.slice none 0 0, .slice none 0 0, .slice none 0 0] 25) := ⟨_, rfl⟩
  have hb1 : Below w.heap.size w w1 := by rw [hw1]; exact ((Below.refl _ _).alloc (Nat.le_refl _) _).alloc (by simp) _
  have hc1 : Cel w1 w.heap.size 25 x.cs := by rw [hw1]; exact (Cel.born w _ _).below ((Below.refl _ _).alloc (Nat.le_refl _) _) (by simp)
  have hc2 : Cel w1 (w.heap.size + 1) 25 #[.slice none 0 0, .slice none 0 0, .slice none 0 0] := by
    rw [hw1]
    have := Cel.born (w.alloc (.cells x.cs 25)) 25 #[.slice none 0 0, .slice none 0 0, .slice none 0 0]
    simpa using this
  have HRI := Lib.hid (right_any x w1 ((h.below (hb1.mono hU)).mono (Nat.le_trans hU hb1.size)) hsm)
  have HR := Lib.hid h
  have HB1 := Lib.hid hb1
  have HC1 := Lib.hid hc1
  have HC2 := Lib.hid hc2
  clear h hb1 hc1 hc2 hsm
  go_enter Try.func51, Try.ntmps51
  go_wp2_with fail
  rw [← hw1]
  clear hw1
  refine HRI.out.mono ?_
  rintro e w2 ⟨rfl, hb2⟩
  have hb02 := Lib.hid (HB1.out.trans (hb2.mono HB1.out.size))
  have hk1 := HC1.out.below hb2 HC1.out.lt
  have hk2 := HC2.out.below hb2 HC2.out.lt
  obtain ⟨r0, r1, r2⟩ := cel3 hk1
  obtain ⟨q0, q1, q2⟩ := cel3 hk2
  have f0 := cel_fr hk2 0
  have f1 := cel_fr hk2 1
  have f2 := cel_fr hk2 2
  have HK2 := Lib.hid hk2
  clear hk1 hk2 hb2
  by_cases hr : RightD x.d
  · have hd : decide (RightD x.d) = true := decide_eq_true hr
    have HG := Lib.hid (good_of hr)
    rw [hd]
    clear hd hr
    go_wp2
    (try simp only [Exit.inBlock, Exit.then])
    refine bodyPost_ret (ret_disk rfl _ _ (w.heap.size + 1) x.cs rfl (cel_put3 HK2.out) rfl) rfl ?_
    have hb := below_put3 hb02.out (show w.heap.size ≤ w.heap.size + 1 by omega) (.slice x.fA x.fn x.fc) (.slice x.nA x.nn x.nc) (.slice x.kA x.kn x.kc)
    exact ⟨x, rfl, HG.out.symm, HR.out.below (hb.mono hU), hb⟩
  · have hd : decide (RightD x.d) = false := decide_eq_false hr
    have HG : Hid (goodD x.d = zeroD) := if_neg hr
    rw [hd]
    clear hd hr
    go_wp2
    (try simp only [Exit.inBlock, Exit.then])
    refine bodyPost_ret (ret_disk rfl _ _ (w.heap.size + 1) zeroV.cs rfl (cel_put3 HK2.out) rfl) rfl ?_
    have hb := below_put3 hb02.out (show w.heap.size ≤ w.heap.size + 1 by omega) (.slice none 0 0) (.slice none 0 0) (.slice none 0 0)
    exact ⟨zeroV, rfl, HG.out.symm, RdD.zero _ _, hb⟩

/-! ### fileOf -/
theorem name_is (s : N) (f : Int) (t : N) (g : Nat) (w : World) (hg : g < w.heap.size) (hc : w.cell? ⟨g, 0, none⟩ = some (.string (ba t))) :
    Calls Try.prog 79 #[.agg #[.string (ba s), .int .i64 f], .pointer (some ⟨g, 0, none⟩)] w (isB w (decide (s = t))) := by
  have hne : g ≠ w.heap.size := by omega
  have HS := Lib.hid (same_is s t)
  go_enter Try.func79, Try.ntmps79
  go_wp2
  go_ret
  exact ⟨ret_bool HS.out, (Below.refl _ _).alloc (Nat.le_refl _) _⟩
theorem find_hit : ∀ {l : List E} {j : Nat} {s t : N} {f : Int}, l[j]? = some (s, f) → s = t → (∀ i, i < j → hitE (fun e => decide (e.1 = t)) l i = false) → findE l t = some f
  | [], _, _, _, _, h, _, _ => by simp at h
  | e :: l, 0, s, t, f, h, hs, _ => by
    simp at h
    subst h
    rw [findE, if_pos hs]
  | e :: l, j + 1, s, t, f, h, hs, hn => by
    have h0 := hn 0 (by omega)
    rw [hit_at (e := e) rfl] at h0
    simp at h0
    rw [findE, if_neg h0]
    exact find_hit (by simpa using h) hs fun i hi => by
      have := hn (i + 1) (by omega)
      unfold hitE at this ⊢
      rwa [List.getElem?_cons_succ] at this
def foV : Option Int → Value
  | none => .tuple #[.int .i64 0, .bool false]
  | some f => .tuple #[.int .i64 f, .bool true]
theorem foV_none : foV none = .tuple #[.int .i64 0, .bool false] := rfl
theorem foV_some (f : Int) : foV (some f) = .tuple #[.int .i64 f, .bool true] := rfl
def FoR (w : World) (o : Option Int) (e : Ending) (w' : World) : Prop := e = .returned (foV o) ∧ Below w.heap.size w w'
set_option maxHeartbeats 1000000 in
theorem fileOf_any (x : Dv) (t : N) (w : World) (h : RdE w.heap.size w x.nA x.nn x.nc x.now) :
    Calls Try.prog 54 #[x.v, .string (ba t)] w (FoR w (findE x.now t)) := by
  obtain ⟨w1, hw1⟩ : ∃ w1, w1 = (w.alloc (.cells x.cs 25)).alloc (.cells #[.string (ba t)] 9) := ⟨_, rfl⟩
  have hb1 : Below w.heap.size w w1 := by rw [hw1]; exact ((Below.refl _ _).alloc (Nat.le_refl _) _).alloc (by simp) _
  have hc1 : Cel w1 w.heap.size 25 x.cs := by rw [hw1]; exact (Cel.born w _ _).below ((Below.refl _ _).alloc (Nat.le_refl _) _) (by simp)
  have hc2 : Cel w1 (w.heap.size + 1) 9 #[.string (ba t)] := by
    rw [hw1]
    have := Cel.born (w.alloc (.cells x.cs 25)) 9 #[.string (ba t)]
    simpa using this
  have k2 : w1.cell? ⟨w.heap.size + 1, 0, none⟩ = some (.string (ba t)) := by rw [hc2.cell]; rfl
  have hl := h.len
  have HL := Lib.hid hl
  have hm := h.max
  have hcap := h.cap
  have HIX := Lib.hid (indexE_gen 79 (w.heap.size + 1) Try.call79 w.heap.size x.nA x.nn x.nc x.now (hitE (fun e => decide (e.1 = t)) x.now) (fun _ W => Below w1.heap.size w1 W) w1 (h.below hb1) (fun _ W hW => (h.below hb1).below (hW.mono hb1.size)) (Below.refl _ _) (fun k s f W hk hW => by
    refine (name_is s f t (w.heap.size + 1) W (Nat.lt_of_lt_of_le hc2.lt hW.size) ((hW.cell (p := ⟨w.heap.size + 1, 0, none⟩) hc2.lt).trans k2)).mono ?_
    rintro e W' ⟨rfl, hb⟩
    exact ⟨by rw [hit_at hk], hW.trans (hb.mono hW.size)⟩))
  have r1 : w1.cell? ⟨w.heap.size, 1, none⟩ = some (.slice x.nA x.nn x.nc) := (cel3 hc1).2.1
  have HR := Lib.hid (h.below hb1)
  have HB1 := Lib.hid hb1
  have HC1 := Lib.hid hc1
  clear h hb1 hc1 hc2 k2 hl
  go_enter Try.func54, Try.ntmps54
  go_wp2_with fail
  rw [← hw1]
  clear hw1
  refine HIX.out.mono ?_
  rintro e w2 (⟨j, hj, rfl, h1, h2, hb2⟩ | ⟨rfl, h2, hb2⟩)
  · have hb02 := Lib.hid (HB1.out.trans (hb2.mono HB1.out.size))
    have r2 : w2.cell? ⟨w.heap.size, 1, none⟩ = some (.slice x.nA x.nn x.nc) := (cel3 (HC1.out.below hb2 HC1.out.lt)).2.1
    obtain ⟨b, o, s, f, eA, _, HE, c1, c2⟩ := atE (HR.out.below (hb2.mono HB1.out.size)) hj
    have hst : s = t := by
      rw [hit_at HE.out] at h1
      simpa using h1
    have H := Lib.hid (find_hit HE.out hst h2)
    rw [eA] at r2
    clear h1 h2 hb2 hst c1 HE
    go_wp2
    go_ret2
    exact ⟨by rw [H.out]; rfl, hb02.out⟩
  · have hb02 := Lib.hid (HB1.out.trans (hb2.mono HB1.out.size))
    have H : Hid (findE x.now t = none) := find_none.2 fun e he => by
      have := hit_none (q := fun e => decide (e.1 = t)) (l := x.now) (by rw [HL.out]; exact h2) e he
      simpa using this
    clear h2 hb2
    go_wp2
    go_ret2
    exact ⟨by rw [H.out]; rfl, hb02.out⟩

theorem field_now (y : Dv) (W : World) : (Instr.field 25 (.agg #[.slice y.fA y.fn y.fc, .slice y.nA y.nn y.nc, .slice y.kA y.kn y.kc]) 1).run Try.prog W = .ok (.slice y.nA y.nn y.nc) W := by kernel_rfl

/-! ### Names -/
def strV (l : List N) : List Value := l.map fun s => .string (ba s)
theorem strV_len (l : List N) : (strV l).length = l.length := List.length_map ..
theorem elS : ElP Try.prog 64 9 (.string ⟨#[]⟩) 16 := ⟨Try.underlying64, by kernel_rfl, rfl⟩
def NaR (w : World) (l : List N) (e : Ending) (w' : World) : Prop := ∃ A n c, e = .returned (.slice A n c) ∧ Rd w' A n c (strV l) ∧ Below w.heap.size w w'
theorem good_len (d : D) : (goodD d).now.length ≤ 20 := by
  have h := good_right d
  have := named_len h.2.1.1
  have := h.1
  omega
set_option maxHeartbeats 1000000 in
theorem names_any (x : Dv) (w : World) (h : RdD w.heap.size w x) (hsm : Sm x.d) :
    Calls Try.prog 28 #[x.v] w (NaR w (namesK x.d)) := by
  obtain ⟨w1, hw1⟩ : ∃ w1, w1 = w.alloc (.cells x.cs 25) := ⟨_, rfl⟩
  have hb1 : Below w.heap.size w w1 := by rw [hw1]; exact (Below.refl _ _).alloc (Nat.le_refl _) _
  have HV := Lib.hid (valid_any w.heap.size x w1 (h.below hb1) hb1.size hsm)
  have HB1 := Lib.hid hb1
  clear h hb1 hsm
  go_enter Try.func28, Try.ntmps28
  go_wp2_with fail
  rw [← hw1]
  clear hw1
  refine HV.out.mono ?_
  rintro e w2 ⟨y, rfl, hy, hry, hb2⟩
  have hb02 := Lib.hid (HB1.out.trans (hb2.mono HB1.out.size))
  have HN : Hid (namesK x.d = y.now.map (·.1)) := by show (goodD x.d).now.map _ = _; rw [← hy]; rfl
  have hlen : y.nn ≤ 20 := by have := good_len x.d; rw [← hy] at this; have e := hry.n.len; have e2 : y.d.now = y.now := rfl; rw [e2] at this; omega
  have hr : RdE w2.heap.size w2 y.nA y.nn y.nc y.now := hry.n.mono hb02.out.size
  have hfield : ∀ W, (Instr.field 25 (.agg #[.slice y.fA y.fn y.fc, .slice y.nA y.nn y.nc, .slice y.kA y.kn y.kc]) 1).run Try.prog W = .ok (.slice y.nA y.nn y.nc) W := fun W => field_now y W
  have hm := hr.max
  have hcap := hr.cap
  have HL := Lib.hid hr.len
  clear hy hry hb2
  go_wp2
  go_loopw [3, 10] (fun v i wr => ∃ (k : Nat) (A1 : Option Addr) (c1 : Nat), k ≤ y.nn ∧ i = .int .i64 k ∧ v = .slice A1 k c1 ∧ OwnV 9 w2.heap.size wr A1 k c1 (strV ((y.now.take k).map (·.1))) ∧ Below w2.heap.size w2 wr) (fun _ i _ => y.nn - (intOf i).toNat)
  case atStart => exact ⟨0, none, 0, by omega, rfl, rfl, OwnV.nil _ _ _, Below.refl _ _⟩
  case round =>
    obtain ⟨k, A1, c1, hk, rfl, rfl, hown, hbw⟩ := hrel
    by_cases hlt : k < y.nn
    · obtain ⟨b, o, s, f, eA, _, HE, d1, d2⟩ := atE (hr.below hbw) hlt
      rw [eA]
      have H : Hid (strV ((y.now.take (k + 1)).map (·.1)) = strV ((y.now.take k).map (·.1)) ++ [.string (ba s)]) := by
        show _ = _
        rw [take_next HE.out, List.map_append]
        unfold strV
        rw [List.map_append]
        rfl
      have hba : Below wr.heap.size wr ((wr.alloc (.cells #[.string (ba s), .int .i64 f] 68)).alloc (.cells #[.string (ba s)] 9)) := ((Below.refl _ _).alloc (Nat.le_refl _) _).alloc (by simp) _
      have hlit := (OwnV.lit1 9 (wr.alloc (.cells #[.string (ba s), .int .i64 f] 68)) (.string (ba s))).rd
      have hsz := hbw.size
      clear HE
      go_wp2_with (at_builtin; refine wpList_appV elS rfl (.tmp 14) (.tmp 17) rfl rfl (hown.below hba) rfl (by simpa using hlit) (by intro u hu; simp at hu; subst hu; rfl) (by unfold maxLen; omega) (by omega) (by simp; omega) ?_; intro A3 c3 w3 hown3 hb3 _ _)
      go_roundw
      case rel => exact ⟨k + 1, A3, c3, by omega, by go_num, rfl, by rw [H.out]; exact hown3, (hbw.trans (hba.mono hbw.size)).trans hb3⟩
      case measure => simp [intOf]; omega
    · obtain rfl : k = y.nn := by omega
      have H : Hid (y.now.take y.nn = y.now) := List.take_of_length_le (by rw [HL.out]; exact Nat.le_refl _)
      rw [H.out] at hown
      go_wp2
      go_ret
      exact ⟨A1, y.nn, c1, rfl, by rw [HN.out]; exact hown.rd, hb02.out.trans (hbw.mono hb02.out.size)⟩

/-! ### Get -/
def GeR (w : World) (p : List UInt8 × Int) (e : Ending) (w' : World) : Prop := ∃ A n c, e = .returned (.tuple #[.slice A n c, .int .i64 p.2]) ∧ Bs w' A n c p.1 ∧ Below w.heap.size w w'
theorem fileAt_get {y : Dv} {f : Int} {v : Fv} (_ : 0 ≤ f) (h : y.xs[f.toNat]? = some v) : fileAt y.d f = v.f := by
  unfold fileAt
  show (fsOf y.xs).getD _ _ = _
  rw [List.getD_eq_getElem?_getD, fs_get h]
  rfl
set_option maxHeartbeats 1000000 in
theorem get_any (x : Dv) (t : N) (w : World) (h : RdD w.heap.size w x) (hsm : Sm x.d) :
    Calls Try.prog 27 #[x.v, .string (ba t)] w (GeR w (getK x.d t)) := by
  obtain ⟨w1, hw1⟩ : ∃ w1, w1 = w.alloc (.cells x.cs 25) := ⟨_, rfl⟩
  have hb1 : Below w.heap.size w w1 := by rw [hw1]; exact (Below.refl _ _).alloc (Nat.le_refl _) _
  have hc1 : Cel w1 w.heap.size 25 x.cs := by rw [hw1]; exact Cel.born w _ _
  have HV := Lib.hid (valid_any w.heap.size x w1 (h.below hb1) hb1.size hsm)
  have HB1 := Lib.hid hb1
  have HC1 := Lib.hid hc1
  clear h hb1 hsm hc1
  go_enter Try.func27, Try.ntmps27
  go_wp2_with fail
  rw [← hw1]
  clear hw1
  refine HV.out.mono ?_
  rintro e w2 ⟨y, rfl, hy, hry, hb2⟩
  have hb02 := Lib.hid (HB1.out.trans (hb2.mono HB1.out.size))
  have HY := Lib.hid hy
  have hk1 := HC1.out.below hb2 HC1.out.lt
  obtain ⟨r0, r1, r2⟩ := cel3 hk1
  have f0 := cel_fr hk1 0
  have f1 := cel_fr hk1 1
  have f2 := cel_fr hk1 2
  have HC3 := Lib.hid (cel_put3 (a' := .slice y.fA y.fn y.fc) (b' := .slice y.nA y.nn y.nc) (c' := .slice y.kA y.kn y.kc) hk1)
  have HB3 := Lib.hid (below_put3 hb02.out (Nat.le_refl _) (.slice y.fA y.fn y.fc) (.slice y.nA y.nn y.nc) (.slice y.kA y.kn y.kc))
  have hr3 := hry.below (below_put3 (Below.refl w.heap.size w2) (Nat.le_refl _) (.slice y.fA y.fn y.fc) (.slice y.nA y.nn y.nc) (.slice y.kA y.kn y.kc))
  obtain ⟨w3, hw3⟩ : ∃ w3, w3 = (((w2.setCell ⟨w.heap.size, 0, none⟩ (.slice y.fA y.fn y.fc)).setCell ⟨w.heap.size, 1, none⟩ (.slice y.nA y.nn y.nc)).setCell ⟨w.heap.size, 2, none⟩ (.slice y.kA y.kn y.kc)) := ⟨_, rfl⟩
  rw [← hw3] at HC3 HB3 hr3
  have HFO := Lib.hid (fileOf_any y t w3 (hr3.n.mono HB3.out.size))
  have HR3 := Lib.hid hr3
  clear hry hb2 hk1 hr3
  go_wp2_with fail
  rw [← hw3]
  clear hw3
  refine HFO.out.mono ?_
  rintro e w4 ⟨rfl, hb4⟩
  have HB4 := Lib.hid (HB3.out.trans (hb4.mono HB3.out.size))
  cases hf : findE y.now t with
  | none =>
    have H : Hid (getK x.d t = ([], 5)) := by
      show getK _ _ = _
      unfold getK
      rw [← HY.out, show y.d.now = y.now from rfl, hf]
    clear hb4
    rw [foV_none]
    go_wp2
    go_ret2
    exact ⟨none, 0, 0, by rw [H.out]; rfl, by rw [H.out]; exact Bs.nil _, HB4.out⟩
  | some f =>
    have hrd : RightD y.d := by rw [HY.out]; exact good_right _
    obtain ⟨g0, g1⟩ := find_range hrd (show findE y.d.now t = some f from hf)
    obtain ⟨k, rfl⟩ := Int.eq_ofNat_of_zero_le g0
    have hfl : y.d.fs.length = y.fn := by show (fsOf y.xs).length = _; rw [fs_len, HR3.out.f.len]
    rw [hfl] at g1
    have hk : k < y.fn := by omega
    have hmx := HR3.out.f.max
    have hcp := HR3.out.f.cap
    have hrf := HR3.out.f.below (hb4.mono HB3.out.size)
    obtain ⟨b, o, v, eA, _, HE, hbs, c1, c2⟩ := atF hrf hk
    have r4 : w4.cell? ⟨w.heap.size, 0, none⟩ = some (.slice (some ⟨b, o, none⟩) y.fn y.fc) := by rw [← eA]; exact (cel3 (HC3.out.below hb4 HC3.out.lt)).1
    have H : Hid (getK x.d t = (v.l, 0)) := by
      show getK _ _ = _
      unfold getK
      rw [← HY.out, show y.d.now = y.now from rfl, hf]
      simp only
      rw [fileAt_get g0 (by simpa using HE.out)]
      rfl
    have hvl : v.l.length ≤ 140737488355328 := by
      have h1 := (file_ok hrd (show findE y.d.now t = some (k : Int) from hf)).1
      rw [fileAt_get g0 (by simpa using HE.out)] at h1
      have : v.f.d = v.l := rfl
      rw [this] at h1
      omega
    have HCL := Lib.hid (Cw.clone_any v.A v.l.length v.c v.l w4 hbs.bs hvl)
    clear hb4 hrf hbs c2 HE hf hrd hfl
    rw [foV_some]
    go_wp2_with fail
    refine HCL.out.mono ?_
    rintro e w5 ⟨A5, c5, rfl, hown5, hb5⟩
    go_wp2
    go_ret2
    exact ⟨A5, v.l.length, c5, by rw [H.out]; rfl, by rw [H.out]; exact hown5.bs, HB4.out.trans (hb5.mono HB4.out.size)⟩
end Go.Proofs.Ytoifdjpflannlaa.Dw
