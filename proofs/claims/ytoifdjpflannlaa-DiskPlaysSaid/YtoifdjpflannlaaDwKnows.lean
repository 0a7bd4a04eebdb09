/- What boarderlaw08's knows, Great and Small come to. For all inputs. -/
import Derived.Test.YtoifdjpflannlaaDwCrash3
import Derived.Lib.SlBytesConst
set_option maxRecDepth 8000
namespace Go.Proofs.Ytoifdjpflannlaa.Dw
open Go.RowKit By Dk

/-! ### Disks in blocks -/
/-- A disk lies in the block g, below B. -/
structure Vd (B : Nat) (w : World) (g : Nat) (z : Dv) : Prop where
  c : Cel w g 25 z.cs
  r : RdD B w z
  l : g < B
theorem Vd.born {w : World} {z : Dv} (h : RdD w.heap.size w z) : Vd (w.heap.size + 1) (w.alloc (.cells z.cs 25)) w.heap.size z := ⟨Cel.born _ _ _, (h.below (alloc_more _ _)).mono (by omega), by omega⟩
theorem Vd.below {B : Nat} {w w' : World} {g : Nat} {z : Dv} (h : Vd B w g z) (hb : Below B w w') : Vd B w' g z := ⟨h.c.below hb h.l, h.r.below hb, h.l⟩
theorem Vd.mono {B B' : Nat} {w : World} {g : Nat} {z : Dv} (h : Vd B w g z) (hB : B ≤ B') : Vd B' w g z := ⟨h.c, h.r.mono hB, Nat.lt_of_lt_of_le h.l hB⟩
/-! A block that holds slices alone is no row of files, entries or bytes: what is stored there turns none of these. -/
def isSl : Value → Bool
  | .slice _ _ _ => true
  | _ => false
theorem rdg_away {α : Type} {Y : Lay α} {U : Nat} {w w' : World} {A : Option Addr} {n c g : Nat} {l : List α} {t : TypeId} {cs : Array Value} (hY : ∀ a, ∃ (j : Nat) (v : Value), (Y.cs a)[j]? = some v ∧ isSl v = false)
    (h : RdG Y U w A n c l) (hc : Cel w g t cs) (hs : ∀ (i : Nat) (v : Value), cs[i]? = some v → isSl v = true) (hw : ∀ p : Addr, p.block ≠ g → w'.cell? p = w.cell? p) : RdG Y U w' A n c l :=
  ⟨h.1, h.2.1, h.2.2.1, fun hn => by
    obtain ⟨b, o, e, hU, hcl⟩ := h.2.2.2 hn
    refine ⟨b, o, e, hU, fun i hi => ?_⟩
    have hne : b ≠ g := by
      intro hbg
      subst hbg
      obtain ⟨b', o', e', _, a, ha, hca⟩ := h.at_ (k := 0) hn
      rw [e] at e'
      injection e' with e'
      injection e' with e1 e2 _
      subst e1
      obtain ⟨j, v, hv, hsv⟩ := hY a
      have h1 := hca j v hv
      rw [hc.cell] at h1
      have h2 := hs _ _ h1
      rw [hsv] at h2
      cases h2
    rw [hw ⟨b, o + i, none⟩ hne, hcl i hi]⟩
theorem bs_away {U : Nat} {w w' : World} {A : Option Addr} {n c g : Nat} {l : List UInt8} {t : TypeId} {cs : Array Value}
    (h : BsU U w A n c l) (hc : Cel w g t cs) (hs : ∀ (i : Nat) (v : Value), cs[i]? = some v → isSl v = true) (hw : ∀ p : Addr, p.block ≠ g → w'.cell? p = w.cell? p) : BsU U w' A n c l :=
  ⟨⟨h.1.1, h.1.2.1, h.1.2.2.1, fun hn => by
    obtain ⟨b, o, e, hcl⟩ := h.1.2.2.2 hn
    refine ⟨b, o, e, fun i hi => ?_⟩
    have hne : b ≠ g := by
      intro hbg
      subst hbg
      have h1 := hcl i hi
      rw [hc.cell] at h1
      have h2 := hs _ _ h1
      cases h2
    rw [hw ⟨b, o + i, none⟩ hne, hcl i hi]⟩, h.2⟩
theorem cell_set_ne (w : World) (g j : Nat) (v : Value) (p : Addr) (h : p.block ≠ g) : (w.setCell ⟨g, j, none⟩ v).cell? p = w.cell? p := World.cell?_setCell_other w ⟨g, j, none⟩ p v (fun k => h (by rw [← k]))
theorem rdd_away {B g : Nat} {w w' : World} {z : Dv} {t : TypeId} {cs : Array Value} (h : RdD B w z) (hc : Cel w g t cs) (hs : ∀ (i : Nat) (v : Value), cs[i]? = some v → isSl v = true) (hw : ∀ p : Addr, p.block ≠ g → w'.cell? p = w.cell? p) : RdD B w' z :=
  ⟨⟨rdg_away (fun _ => ⟨1, _, rfl, rfl⟩) h.f.1 hc hs hw, fun u hu => bs_away (h.f.2 u hu) hc hs hw⟩, rdg_away (fun _ => ⟨0, _, rfl, rfl⟩) h.n hc hs hw, rdg_away (fun _ => ⟨0, _, rfl, rfl⟩) h.k hc hs hw⟩
theorem sl3 {a1 : Option Addr} {n1 c1 : Nat} {a2 : Option Addr} {n2 c2 : Nat} {a3 : Option Addr} {n3 c3 : Nat} : ∀ (i : Nat) (v : Value), (#[Value.slice a1 n1 c1, .slice a2 n2 c2, .slice a3 n3 c3] : Array Value)[i]? = some v → isSl v = true := fun i v h => by
  match i with
  | 0 => injection h with h; subst h; rfl
  | 1 => injection h with h; subst h; rfl
  | 2 => injection h with h; subst h; rfl
  | i + 3 => simp at h
theorem cell_put3 (w : World) (g : Nat) (a b c : Value) (p : Addr) (h : p.block ≠ g) : (((w.setCell ⟨g, 0, none⟩ a).setCell ⟨g, 1, none⟩ b).setCell ⟨g, 2, none⟩ c).cell? p = w.cell? p := by
  rw [cell_set_ne _ _ _ _ _ h, cell_set_ne _ _ _ _ _ h, cell_set_ne _ _ _ _ _ h]
/-- A variable is set to another disk. -/
theorem Vd.put {B U : Nat} {w : World} {g : Nat} {y z : Dv} (h : Vd B w g y) (hz : RdD U w z) (hU : g < U) :
    Vd U (((w.setCell ⟨g, 0, none⟩ (.slice z.fA z.fn z.fc)).setCell ⟨g, 1, none⟩ (.slice z.nA z.nn z.nc)).setCell ⟨g, 2, none⟩ (.slice z.kA z.kn z.kc)) g z :=
  ⟨cel_put3 h.c, rdd_away hz h.c sl3 (cell_put3 w g _ _ _), hU⟩
/-- What is stored in another variable turns this one not. -/
theorem Vd.other {B B' : Nat} {w : World} {g g' : Nat} {y z : Dv} (h : Vd B w g z) (hy : Vd B' w g' y) (hne : g ≠ g') (a b c : Value) :
    Vd B (((w.setCell ⟨g', 0, none⟩ a).setCell ⟨g', 1, none⟩ b).setCell ⟨g', 2, none⟩ c) g z :=
  ⟨cel_far (cel_far (cel_far h.c hne _ _) hne _ _) hne _ _, rdd_away h.r hy.c sl3 (cell_put3 w g' _ _ _), h.l⟩
theorem good_sm {d : D} (h : RightD d) : Sm d := right_sm h

/-! ### Great, Small -/
def GrR (w : World) (x : Dv) (e : Ending) (w' : World) : Prop := ∃ g : Bool, e = .returned (.bool g) ∧ (g = false → (∀ u ∈ x.xs, u.l.length ≤ 30000) ∧ x.fn ≤ 50 ∧ x.nn ≤ 50 ∧ x.kn ≤ 50) ∧ Below w.heap.size w w'
set_option maxHeartbeats 1000000 in
theorem great_any (x : Dv) (w : World) (h : RdD w.heap.size w x) : Calls Try.prog 9 #[x.v] w (GrR w x) := by
  have hb := alloc_more w (.cells #[.slice x.fA x.fn x.fc, .slice x.nA x.nn x.nc, .slice x.kA x.kn x.kc] 25)
  have hc := Cel.born w 25 x.cs
  have HR := Lib.hid h.f
  have hfc := h.f.cap
  have hfm := h.f.max
  have hnc := h.n.cap
  have hnm := h.n.max
  have hkc := h.k.cap
  have hkm := h.k.max
  have HL := Lib.hid h.f.len
  obtain ⟨q0, q1, q2⟩ := cel3 hc
  clear h
  go_enter Try.func9, Try.ntmps9
  go_wp2
  go_loop [3] (fun i => ∃ k : Nat, k ≤ x.fn ∧ i = .int .i64 k ∧ ∀ u ∈ x.xs.take k, u.l.length ≤ 30000) (fun i => x.fn - (intOf i).toNat)
  case atStart => exact ⟨0, by omega, rfl, fun u hu => by simp at hu⟩
  case round =>
    obtain ⟨k, hk, rfl, hs⟩ := hrel
    have HS := Lib.hid hs
    clear hs
    by_cases hlt : k < x.fn
    · obtain ⟨b, o, v, eA, hbl, HE, hbs, c1, c2⟩ := atF HR.out hlt
      rw [eA] at q0 hb
      have hcap := hbs.bs.cap
      have hmax := hbs.bs.max
      by_cases hbig : (30000 : Int) < ((v.l.length : Nat) : Int)
      · clear hbs HE
        go_wp2
        go_ret
        exact ⟨true, rfl, (fun k => by cases k), hb⟩
      · have H : Hid (∀ u ∈ x.xs.take (k + 1), u.l.length ≤ 30000) := by
          show ∀ u ∈ _, _
          rw [take_next HE.out]
          intro u hu
          rcases List.mem_append.1 hu with hu | hu
          · exact HS.out u hu
          · simp at hu
            subst hu
            omega
        clear hbs HE
        go_wp2
        go_round
        case rel => exact ⟨k + 1, by omega, by go_num, H.out⟩
        case measure => simp [intOf]; omega
    · obtain rfl : k = x.fn := by omega
      have H : Hid (∀ u ∈ x.xs, u.l.length ≤ 30000) := by have := HS.out; rwa [List.take_of_length_le (by rw [HL.out]; exact Nat.le_refl _)] at this
      by_cases h1 : (50 : Int) < (x.fn : Int)
      · go_wp2
        go_ret
        exact ⟨true, rfl, (fun k => by cases k), hb⟩
      by_cases h2 : (50 : Int) < (x.nn : Int)
      · go_wp2
        go_ret
        exact ⟨true, rfl, (fun k => by cases k), hb⟩
      by_cases h3 : (50 : Int) < (x.kn : Int)
      · go_wp2
        go_ret
        exact ⟨true, rfl, (fun k => by cases k), hb⟩
      · go_wp2
        go_ret
        exact ⟨false, rfl, fun _ => ⟨H.out, by omega, by omega, by omega⟩, hb⟩

/-! ### knows -/
def hayD : D := ⟨[⟨[104, 97, 121], 0⟩], [(nJ, 0)], []⟩
def hayS : D := ⟨[⟨[104, 97, 121], 3⟩], [(nJ, 0)], []⟩
def hayK : D := ⟨[⟨[104, 97, 121], 3⟩], [(nJ, 0)], [(nJ, 0)]⟩
theorem ex1 : appendK zeroD nJ [104, 97, 121] = (hayD, 0) := rfl
theorem ex2 : syncK hayD nJ = (hayS, 0) := rfl
theorem ex3 : crashK hayS [] false = zeroD := rfl
theorem ex4 : syncDirK hayS = hayK := rfl
theorem ex5 : crashK hayK [] false = hayK := rfl
theorem ex6 : getK hayK nJ = ([104, 97, 121], 0) := rfl
theorem ex7 : namesK hayS = [nJ] := rfl
theorem ex8 : RightD hayS := by decide
theorem exs : RightD hayD ∧ RightD hayK := by decide
set_option maxHeartbeats 4000000 in
theorem knows_yes (w : World) : Calls Try.prog 10 #[] w fun e w' => e = .returned (.bool true) ∧ Below w.heap.size w w' := by
  obtain ⟨wa, hwa⟩ : ∃ wa, wa = w.alloc (.cells #[.int .u8 104, .int .u8 97, .int .u8 121] 5 (3, 3 + 1)) := ⟨_, rfl⟩
  have hbs : Bs wa (some ⟨w.heap.size, 0, none⟩) 3 3 [104, 97, 121] := by rw [hwa]; exact Bs.const w 5 (3, 3 + 1) [104, 97, 121] (by decide)
  have hba : Below w.heap.size w wa := by rw [hwa]; exact alloc_more _ _
  have H1 := Lib.hid (append_any zeroV nJ (some ⟨w.heap.size, 0, none⟩) 3 3 [104, 97, 121] wa (RdD.zero _ _) (right_sm zero_right) (by decide) hbs (by omega))
  rw [show zeroV.d = zeroD from rfl, ex1] at H1
  have HBA := Lib.hid hba
  have kc := Lib.run_convert_bytes_const (P := Try.prog) w 35 5 #[.int .u8 104, .int .u8 97, .int .u8 121] 3 3 byP.hT byP.he
  clear hbs hba
  go_enter Try.func10, Try.ntmps10
  go_wp2_with fail
  rw [← hwa]
  clear hwa
  refine H1.out.mono ?_
  rintro e w1 ⟨z1, rfl, hz1, hr1, hb1⟩
  have B1 := Lib.hid (HBA.out.trans (hb1.mono HBA.out.size))
  obtain ⟨w2, hw2⟩ : ∃ w2, w2 = w1.alloc (.cells z1.cs 25) := ⟨_, rfl⟩
  have V1 := Vd.born hr1
  rw [← hw2] at V1
  have hs2 : w2.heap.size = w1.heap.size + 1 := by rw [hw2]; simp
  rw [← hs2] at V1
  have B2 := Lib.hid (B1.out.trans (show Below w.heap.size w1 w2 by rw [hw2]; exact (alloc_more _ _).mono B1.out.size))
  have H2 := Lib.hid (sync_any z1 nJ w2 V1.r (by rw [hz1]; exact right_sm exs.1))
  rw [hz1, ex2] at H2
  have HV1 := Lib.hid V1
  clear hr1 hb1 V1 hz1 H1
  go_wp2_with fail
  rw [← hw2]
  clear hw2
  refine H2.out.mono ?_
  rintro e w3 ⟨z2, rfl, hz2, hr2, hb3⟩
  have B3 := Lib.hid (B2.out.trans (hb3.mono B2.out.size))
  have V3 := HV1.out.below hb3
  obtain ⟨q0, q1, q2⟩ := cel3 V3.c
  obtain ⟨f0, f1, f2⟩ := cel_frs V3.c
  obtain ⟨w4, hw4⟩ : ∃ w4, w4 = (((w3.setCell ⟨w1.heap.size, 0, none⟩ (.slice z2.fA z2.fn z2.fc)).setCell ⟨w1.heap.size, 1, none⟩ (.slice z2.nA z2.nn z2.nc)).setCell ⟨w1.heap.size, 2, none⟩ (.slice z2.kA z2.kn z2.kc)) := ⟨_, rfl⟩
  have V4 := V3.put hr2 (show w1.heap.size < w3.heap.size by have := hb3.size; omega)
  have hs4 : w4.heap.size = w3.heap.size := by rw [hw4]; simp
  rw [← hw4, ← hs4] at V4
  have B4 := Lib.hid (show Below w.heap.size w w4 by rw [hw4]; exact below_put3 B3.out B1.out.size _ _ _)
  have H3 := Lib.hid (crash_any z2 none 0 0 [] false w4 V4.r (by rw [hz2]; exact right_sm ex8) (Rd.nil _))
  rw [hz2, ex3] at H3
  have HV4 := Lib.hid V4
  have HZ2 := Lib.hid hz2
  clear hr2 hb3 V3 V4 HV1 H2 hz2
  go_wp2_with fail
  rw [← hw4]
  clear hw4 q0 q1 q2 f0 f1 f2
  refine H3.out.mono ?_
  rintro e w5 ⟨z3, rfl, hz3, hr3, hb5⟩
  have B5 := Lib.hid (B4.out.trans (hb5.mono B4.out.size))
  obtain ⟨w6, hw6⟩ : ∃ w6, w6 = w5.alloc (.cells z3.cs 25) := ⟨_, rfl⟩
  have hs6 : w6.heap.size = w5.heap.size + 1 := by rw [hw6]; simp
  have hal : Below w5.heap.size w5 w6 := by rw [hw6]; exact alloc_more _ _
  have HG3 := Lib.hid (Vd.born hr3)
  rw [← hw6, ← hs6] at HG3
  have hs45 := hb5.size
  have HV6 := Lib.hid ((HV4.out.below hb5).below (hal.mono hs45))
  have B6 := Lib.hid (B5.out.trans (hal.mono B5.out.size))
  have H4 := Lib.hid (syncDir_any z2 w6 (HV6.out.r.mono (by omega)) (by rw [HZ2.out]; exact right_sm ex8))
  rw [HZ2.out, ex4] at H4
  have h3n : z3.fn = 0 := by have e : z3.d.fs.length = z3.fn := by show (fsOf z3.xs).length = _; rw [fs_len, hr3.f.len]
                             rw [← e, hz3]; rfl
  obtain ⟨q0, q1, q2⟩ := cel3 (HV4.out.below hb5).c
  have H3N := Lib.hid h3n
  have hlt6 : w1.heap.size < w5.heap.size := by have := HV4.out.l; omega
  clear hr3 hb5 hz3 hal h3n
  go_wp2_with fail
  rw [← hw6]
  clear hw6 q0 q1 q2
  refine H4.out.mono ?_
  rintro e w7 ⟨z4, rfl, hz4, hr4, hb7⟩
  have B7 := Lib.hid (B6.out.trans (hb7.mono B6.out.size))
  have H5 := Lib.hid (crash_any z4 none 0 0 [] false w7 hr4 (by rw [hz4]; exact right_sm exs.2) (Rd.nil _))
  rw [hz4, ex5] at H5
  have HV7 := Lib.hid (HV6.out.below (hb7.mono (by omega)))
  have HG7 := Lib.hid (HG3.out.below hb7)
  have hs67 := hb7.size
  clear hr4 hz4 hb7
  go_wp2_with fail
  refine H5.out.mono ?_
  rintro e w8 ⟨z5, rfl, hz5, hr5, hb8⟩
  have B8 := Lib.hid (B7.out.trans (hb8.mono B7.out.size))
  obtain ⟨w9, hw9⟩ : ∃ w9, w9 = w8.alloc (.cells z5.cs 25) := ⟨_, rfl⟩
  have hal : Below w8.heap.size w8 w9 := by rw [hw9]; exact alloc_more _ _
  have hs78 := hb8.size
  have HV9 := Lib.hid ((HV7.out.below (hb8.mono (by omega))).below (hal.mono (by omega)))
  have HG9 := Lib.hid ((HG7.out.below (hb8.mono (by omega))).below (hal.mono (by omega)))
  have B9 := Lib.hid (B8.out.trans (hal.mono B8.out.size))
  have H6 := Lib.hid (get_any z5 nJ w9 ((hr5.below hal).mono hal.size) (by rw [hz5]; exact right_sm exs.2))
  rw [hz5, ex6] at H6
  have hs89 := hal.size
  clear hr5 hz5 hb8 hal
  go_wp2_with fail
  rw [← hw9]
  clear hw9
  refine H6.out.mono ?_
  rintro e w10 ⟨Ax, nx, cx, rfl, hbx, hb10⟩
  have hnx : nx = 3 := by have := hbx.len; exact this.symm
  subst hnx
  have B10 := Lib.hid (B9.out.trans (hb10.mono B9.out.size))
  have HV10 := Lib.hid (HV9.out.below (hb10.mono (by omega)))
  have HG10 := Lib.hid (HG9.out.below (hb10.mono (by omega)))
  have H7 := Lib.hid (names_any z2 w10 (HV10.out.r.mono (by have := hb10.size; omega)) (by rw [HZ2.out]; exact right_sm ex8))
  rw [HZ2.out, ex7] at H7
  obtain ⟨q0, q1, q2⟩ := cel3 HV10.out.c
  have HBX := Lib.hid hbx
  have hs910 := hb10.size
  clear hb10 hbx
  go_wp2_with fail
  refine H7.out.mono ?_
  rintro e w11 ⟨Al, nl, cl, rfl, hrl, hb11⟩
  have hnl : nl = 1 := by have := hrl.len; exact this.symm
  subst hnl
  have B11 := Lib.hid (B10.out.trans (hb11.mono B10.out.size))
  have HV11 := Lib.hid (HV10.out.below (hb11.mono (by omega)))
  have HG11 := Lib.hid (HG10.out.below (hb11.mono (by omega)))
  have hcv := byP.str (HBX.out.below hb11)
  obtain ⟨bl, ol, rfl, hcl⟩ := hrl.at_ (k := 0) (by omega)
  have hl0 : w11.cell? ⟨bl, ol, none⟩ = some (.string ⟨#[106]⟩) := hcl 0 (by rw [strV_len]; decide)
  have H8 := Lib.hid (right_any z2 w11 (HV11.out.r.mono (by have := hb11.size; omega)) (by rw [HZ2.out]; exact right_sm ex8))
  rw [HZ2.out, show decide (RightD hayS) = true from decide_eq_true ex8] at H8
  obtain ⟨p0, p1, p2⟩ := cel3 HV11.out.c
  obtain ⟨g0, g1, g2⟩ := cel3 HG11.out.c
  rw [H3N.out] at g0
  have hcm := hrl.cap
  have hcx := hrl.max
  clear hb11 hrl hcl q0 q1 q2
  go_wp2_with fail
  refine H8.out.mono ?_
  rintro e w12 ⟨rfl, hb12⟩
  go_wp2
  go_ret
  exact ⟨rfl, B11.out.trans (hb12.mono B11.out.size)⟩
end Go.Proofs.Ytoifdjpflannlaa.Dw
