/- What alloc.leased comes to: two rows of the call's own. Conditions: the configuration is small and the keys fit (Nd.ok). -/
import Derived.Test.YtpdjdaoclpeffaaGreatXwLeaf
import Derived.Test.YtpdjdaoclpeffaaGreatBwB
import Derived.BigQuiet
import Derived.Deep.QuietTactic
set_option maxRecDepth 8000
namespace Go.Proofs.YtpdjdaoclpeffaaGreat.Xw
open Go.RowKit Co By Ky Rc Ew Jw La Tb Lw Cf Al Bw
open Vw (Cx RdPl layP atP FiR AdR KeR isI)
open Dw (ba ba_size ba_data ba_list alloc_more)

def heldL (d : Nd) : List Int := ((ofT d.l d.k).filter fun a => inA d.x.cf d.net a.addr && holdsT a d.now).map fun a => a.addr
def restL (d : Nd) : List Int := ((ofT d.l d.k).filter fun a => inA d.x.cf d.net a.addr && !holdsT a d.now).map fun a => a.addr
def LdR (w : World) (l1 l2 : List Int) (e : Ending) (w' : World) : Prop := ∃ A1 n1 c1 A2 n2 c2, e = .returned (.tuple #[.slice A1 n1 c1, .slice A2 n2 c2]) ∧ OwnZ w.heap.size w' A1 n1 c1 l1 ∧ OwnZ w.heap.size w' A2 n2 c2 l2 ∧ Below w.heap.size w w'
theorem map_put {t : List L} {q : L → Bool} {k : Nat} {a : L} (ha : t[k]? = some a) (hq : q a = true) : ((t.take (k + 1)).filter q).map (fun a => a.addr) = ((t.take k).filter q).map (fun a => a.addr) ++ [a.addr] := by
  rw [← filter_put rfl ha hq, List.map_append]
  rfl
theorem map_skip {t : List L} {q : L → Bool} {k : Nat} {a : L} (ha : t[k]? = some a) (hq : q a = false) : ((t.take (k + 1)).filter q).map (fun a => a.addr) = ((t.take k).filter q).map (fun a => a.addr) := by
  rw [← filter_skip rfl ha hq]
set_option maxHeartbeats 4000000 in
theorem leased_any (d : Nd) (U : Nat) (w : World) (h : d.ok U w) (hU : U ≤ w.heap.size) : Calls Tryz.prog 23 #[d.v] w (LdR w (heldL d) (restL d)) := by
  obtain ⟨w0, hw0, hc0, hb0, hz⟩ := boxedN w d
  have HO := Lib.hid (fun W (hW : Below w.heap.size w W) => Bw.of_any d.A d.n d.c U d.l d.k W (h.t.below (hW.mono hU)) (Nat.le_trans hU hW.size) h.f)
  have HF := Lib.hid (fun a W (hW : Below w.heap.size w W) => find_any d.x a U W (h.x.below (hW.mono hU)) (Nat.le_trans hU hW.size) h.s)
  have HB0 := Lib.hid hb0
  have HC0 := Lib.hid hc0
  clear h hU hb0 hc0 hz
  go_enter Tryz.func23, Tryz.ntmps23
  go_wp2_with fail
  rw [← hw0]
  clear hw0
  obtain ⟨c0, c1, c2, c3, c4, c5, c6⟩ := cel7N HC0.out
  go_wp2_with fail
  refine (HO.out _ HB0.out).mono ?_
  rintro e w1 ⟨A, n, c, rfl, ho, hb1⟩
  have HB1 := Lib.hid (HB0.out.trans (hb1.mono HB0.out.size))
  have HC1 := Lib.hid (HC0.out.below hb1 HC0.out.lt)
  have hl := ho.len
  have hn : n ≤ 64 := by rw [← hl]; exact Nat.le_trans (List.length_filter_le _ _) (good_len _)
  have HR := Lib.hid ho.rd
  have hcp := ho.rd.cap
  have hmx := ho.rd.max
  have HL := Lib.hid hl
  clear ho hl hb1 HO HC0 c0 c1 c2 c3 c4 c5 c6
  have HE1 : Hid (heldL d = ((ofT d.l d.k).filter fun a => inA d.x.cf d.net a.addr && holdsT a d.now).map fun a => a.addr) := rfl
  have HE2 : Hid (restL d = ((ofT d.l d.k).filter fun a => inA d.x.cf d.net a.addr && !holdsT a d.now).map fun a => a.addr) := rfl
  generalize ofT d.l d.k = t at HR HL HE1 HE2
  go_wp2
  go_loopw [2, 3, 15] (fun v2 v3 i wr => ∃ (j : Nat) (A1 A2 : Option Addr) (n1 c1 n2 c2 : Nat), j ≤ n ∧ n1 ≤ j ∧ n2 ≤ j ∧ i = .int .i64 j ∧ v2 = .slice A1 n1 c1 ∧ v3 = .slice A2 n2 c2 ∧ Hid (Below w1.heap.size w1 wr) ∧
    Hid (Two layZ 3 w1.heap.size wr A1 A2 n1 c1 n2 c2 (((t.take j).filter fun a => inA d.x.cf d.net a.addr && holdsT a d.now).map fun a => a.addr) (((t.take j).filter fun a => inA d.x.cf d.net a.addr && !holdsT a d.now).map fun a => a.addr))) (fun _ _ i _ => n - (intOf i).toNat)
  case atStart => exact ⟨0, none, none, 0, 0, 0, 0, by omega, Nat.le_refl _, Nat.le_refl _, rfl, rfl, rfl, Below.refl _ _, Two.nil⟩
  case round =>
    obtain ⟨j, A1, A2, n1, c1, n2, c2, hj, hn1, hn2, rfl, rfl, rfl, HB, HT⟩ := hrel
    by_cases hlt : j < n
    · obtain ⟨b, o, a, rfl, hbU, HA, d0, d1, d2, d3⟩ := atL (HR.out.below HB.out) hlt
      have hkz : (j : Int) < (n : Int) := by omega
      obtain ⟨wL, hwL⟩ : ∃ wL, wL = wr.alloc (.cells (lcs a) 34) := ⟨_, rfl⟩
      have hc4 : Cel wL wr.heap.size 34 (lcs a) := by rw [hwL]; exact Cel.born _ _ _
      have hbL : Below wr.heap.size wr wL := by rw [hwL]; exact alloc_more _ _
      have hs1 := HC1.out.lt
      have hs2 := HB.out.size
      have hcw := HC1.out.below HB.out hs1
      have HBL := Lib.hid (HB.out.trans (hbL.mono hs2))
      have HCL := Lib.hid (hcw.below hbL hcw.lt)
      have HTL := Lib.hid (HT.out.below hbL)
      have HFA := Lib.hid (HF.out a.addr wL (HB1.out.trans (HBL.out.mono HB1.out.size)))
      have HIN : Hid (inA d.x.cf d.net a.addr = ((findC d.x.cf a.addr).2.2 && decide ((findC d.x.cf a.addr).1 = d.net))) := rfl
      have HC4 := Lib.hid hc4
      have HH := Lib.hid (fun W => Bw.holds_any a d.now W)
      generalize findC d.x.cf a.addr = f at HFA HIN
      obtain ⟨f1, f2, f3⟩ := f
      clear hcw hc4 hbL hlt hs1
      cases f3 with
      | false =>
        have HI : Hid (inA d.x.cf d.net a.addr = false) := HIN.out
        clear HIN HH
        go_upto_region 4 with fail
        rw [← hwL]
        clear hwL d0 d1 d2 d3
        obtain ⟨c0, c1', c2', c3, c4, c5, c6⟩ := cel7N HCL.out
        obtain ⟨y0, y1, y2, y3⟩ := cel4L HC4.out
        go_wp2_with fail
        clear c0 c1' c2' c3 c4 c5 c6 y0 y1 y2 y3
        refine HFA.out.mono ?_
        rintro e w2 ⟨rfl, hb2⟩
        have HB2 := Lib.hid (HBL.out.trans (hb2.mono HBL.out.size))
        have HT2 := Lib.hid (HTL.out.below hb2)
        obtain ⟨c0, c1', c2', c3, c4, c5, c6⟩ := cel7N (HCL.out.below hb2 HCL.out.lt)
        obtain ⟨y0, y1, y2, y3⟩ := cel4L (HC4.out.below hb2 HC4.out.lt)
        have H1 := Lib.hid (map_skip (q := fun a => inA d.x.cf d.net a.addr && holdsT a d.now) HA.out (by show (inA d.x.cf d.net a.addr && _) = false; rw [HI.out]; rfl))
        have H2 := Lib.hid (map_skip (q := fun a => inA d.x.cf d.net a.addr && !holdsT a d.now) HA.out (by show (inA d.x.cf d.net a.addr && _) = false; rw [HI.out]; rfl))
        clear HA
        go_wp2
        go_roundw
        case rel => exact ⟨j + 1, A1, A2, n1, c1, n2, c2, by omega, by omega, by omega, by go_num, rfl, rfl, HB2.out, by rw [H1.out, H2.out]; exact HT2.out⟩
        case measure => simp [intOf]; omega
      | true =>
        by_cases hf : f1 = d.net
        · have HI : Hid (inA d.x.cf d.net a.addr = true) := HIN.out.trans (by rw [decide_eq_true hf]; rfl)
          have hfz : (f1 != d.net) = false := by simpa using hf
          clear HIN hf
          cases hh : holdsT a d.now with
          | true =>
            rw [hh] at HH
            go_upto_region 4 with fail
            rw [← hwL]
            clear hwL d0 d1 d2 d3
            obtain ⟨c0, c1', c2', c3, c4, c5, c6⟩ := cel7N HCL.out
            obtain ⟨y0, y1, y2, y3⟩ := cel4L HC4.out
            go_wp2_with fail
            clear c0 c1' c2' c3 c4 c5 c6 y0 y1 y2 y3
            refine HFA.out.mono ?_
            rintro e w2 ⟨rfl, hb2⟩
            have HB2 := Lib.hid (HBL.out.trans (hb2.mono HBL.out.size))
            have HT2 := Lib.hid (HTL.out.below hb2)
            obtain ⟨c0, c1', c2', c3, c4, c5, c6⟩ := cel7N (HCL.out.below hb2 HCL.out.lt)
            obtain ⟨y0, y1, y2, y3⟩ := cel4L (HC4.out.below hb2 HC4.out.lt)
            have HC5 := Lib.hid (HC4.out.below hb2 HC4.out.lt)
            clear HC4 hb2
            have HC4 := HC5
            clear HC5
            have H1 := Lib.hid (map_put (q := fun a => inA d.x.cf d.net a.addr && holdsT a d.now) HA.out (by show (inA d.x.cf d.net a.addr && holdsT a d.now) = true; rw [HI.out, hh]; rfl))
            have H2 := Lib.hid (map_skip (q := fun a => inA d.x.cf d.net a.addr && !holdsT a d.now) HA.out (by show (inA d.x.cf d.net a.addr && !holdsT a d.now) = false; rw [HI.out, hh]; rfl))
            clear HA hh
            go_wp2_with fail
            refine (HH.out _).mono ?_
            rintro e w3 ⟨rfl, hb3⟩
            have HB3 := Lib.hid (HB2.out.trans (hb3.mono HB2.out.size))
            obtain ⟨y0, y1, y2, y3⟩ := cel4L (HC4.out.below hb3 HC4.out.lt)
            have htw := (HT2.out.below hb3)
            have hlit := litZ w3 a.addr
            have hba : Below w3.heap.size w3 (w3.alloc (.cells #[.int .i64 a.addr] 3)) := alloc_more _ _
            have htw2 := htw.below hba
            have hown := htw2.o1
            have hsz := HB3.out.size
            clear htw HT HT2 HH hb3 HC4
            go_wp2_with (at_builtin; refine wpList_appG intZP (by decide) (by decide) (by kernel_rfl) rfl (.tmp 40) (.tmp 43) rfl rfl hown rfl hlit (by omega) (by simp; omega) ?_; intro A5 c5 w5 happ)
            have HX := Lib.hid (htw2.app happ)
            have HB5 := Lib.hid (HB3.out.trans ((hba.mono hsz).trans happ.2.1))
            clear happ hown htw2 hlit hba hsz
            go_roundw
            case rel => exact ⟨j + 1, A5, A2, n1 + 1, c5, n2, c2, by omega, by omega, by omega, by go_num, rfl, rfl, HB5.out, by rw [H1.out, H2.out]; exact HX.out⟩
            case measure => simp [intOf]; omega
          | false =>
            rw [hh] at HH
            go_upto_region 4 with fail
            rw [← hwL]
            clear hwL d0 d1 d2 d3
            obtain ⟨c0, c1', c2', c3, c4, c5, c6⟩ := cel7N HCL.out
            obtain ⟨y0, y1, y2, y3⟩ := cel4L HC4.out
            go_wp2_with fail
            clear c0 c1' c2' c3 c4 c5 c6 y0 y1 y2 y3
            refine HFA.out.mono ?_
            rintro e w2 ⟨rfl, hb2⟩
            have HB2 := Lib.hid (HBL.out.trans (hb2.mono HBL.out.size))
            have HT2 := Lib.hid (HTL.out.below hb2)
            obtain ⟨c0, c1', c2', c3, c4, c5, c6⟩ := cel7N (HCL.out.below hb2 HCL.out.lt)
            obtain ⟨y0, y1, y2, y3⟩ := cel4L (HC4.out.below hb2 HC4.out.lt)
            have HC5 := Lib.hid (HC4.out.below hb2 HC4.out.lt)
            clear HC4 hb2
            have HC4 := HC5
            clear HC5
            have H1 := Lib.hid (map_skip (q := fun a => inA d.x.cf d.net a.addr && holdsT a d.now) HA.out (by show (inA d.x.cf d.net a.addr && holdsT a d.now) = false; rw [HI.out, hh]; rfl))
            have H2 := Lib.hid (map_put (q := fun a => inA d.x.cf d.net a.addr && !holdsT a d.now) HA.out (by show (inA d.x.cf d.net a.addr && !holdsT a d.now) = true; rw [HI.out, hh]; rfl))
            clear HA hh
            go_wp2_with fail
            refine (HH.out _).mono ?_
            rintro e w3 ⟨rfl, hb3⟩
            have HB3 := Lib.hid (HB2.out.trans (hb3.mono HB2.out.size))
            obtain ⟨y0, y1, y2, y3⟩ := cel4L (HC4.out.below hb3 HC4.out.lt)
            have htw := (HT2.out.below hb3)
            have hlit := litZ w3 a.addr
            have hba : Below w3.heap.size w3 (w3.alloc (.cells #[.int .i64 a.addr] 3)) := alloc_more _ _
            have htw2 := htw.below hba
            have hown := htw2.o2
            have hsz := HB3.out.size
            clear htw HT HT2 HH hb3 HC4
            go_wp2_with (at_builtin; refine wpList_appG intZP (by decide) (by decide) (by kernel_rfl) rfl (.tmp 45) (.tmp 48) rfl rfl hown rfl hlit (by omega) (by simp; omega) ?_; intro A5 c5 w5 happ)
            have HX := Lib.hid ((htw2.swap.app happ).swap)
            have HB5 := Lib.hid (HB3.out.trans ((hba.mono hsz).trans happ.2.1))
            clear happ hown htw2 hlit hba hsz
            go_roundw
            case rel => exact ⟨j + 1, A1, A5, n1, c1, n2 + 1, c5, by omega, by omega, by omega, by go_num, rfl, rfl, HB5.out, by rw [H1.out, H2.out]; exact HX.out⟩
            case measure => simp [intOf]; omega
        · have HI : Hid (inA d.x.cf d.net a.addr = false) := HIN.out.trans (by rw [decide_eq_false hf]; rfl)
          have hfz : (f1 != d.net) = true := by simpa using hf
          clear HIN hf HH
          go_upto_region 4 with fail
          rw [← hwL]
          clear hwL d0 d1 d2 d3
          obtain ⟨c0, c1', c2', c3, c4, c5, c6⟩ := cel7N HCL.out
          obtain ⟨y0, y1, y2, y3⟩ := cel4L HC4.out
          go_wp2_with fail
          clear c0 c1' c2' c3 c4 c5 c6 y0 y1 y2 y3
          refine HFA.out.mono ?_
          rintro e w2 ⟨rfl, hb2⟩
          have HB2 := Lib.hid (HBL.out.trans (hb2.mono HBL.out.size))
          have HT2 := Lib.hid (HTL.out.below hb2)
          obtain ⟨c0, c1', c2', c3, c4, c5, c6⟩ := cel7N (HCL.out.below hb2 HCL.out.lt)
          obtain ⟨y0, y1, y2, y3⟩ := cel4L (HC4.out.below hb2 HC4.out.lt)
          have H1 := Lib.hid (map_skip (q := fun a => inA d.x.cf d.net a.addr && holdsT a d.now) HA.out (by show (inA d.x.cf d.net a.addr && _) = false; rw [HI.out]; rfl))
          have H2 := Lib.hid (map_skip (q := fun a => inA d.x.cf d.net a.addr && !holdsT a d.now) HA.out (by show (inA d.x.cf d.net a.addr && _) = false; rw [HI.out]; rfl))
          clear HA
          go_wp2
          go_roundw
          case rel => exact ⟨j + 1, A1, A2, n1, c1, n2, c2, by omega, by omega, by omega, by go_num, rfl, rfl, HB2.out, by rw [H1.out, H2.out]; exact HT2.out⟩
          case measure => simp [intOf]; omega
    · obtain rfl : j = n := by omega
      have HJ : Hid (t.take j = t) := List.take_of_length_le (by rw [HL.out]; exact Nat.le_refl _)
      have hkz : ¬ (j : Int) < (j : Int) := by omega
      clear hlt
      rw [HJ.out] at HT
      go_wp2
      go_ret2
      rw [HE1.out, HE2.out]
      exact ⟨A1, n1, c1, A2, n2, c2, rfl, HT.out.o1.mono HB1.out.size, HT.out.o2.mono HB1.out.size, HB1.out.trans (HB.out.mono HB1.out.size)⟩
end Go.Proofs.YtpdjdaoclpeffaaGreat.Xw
