/- What boarderlaw08's As comes to: the program's disk as the document's. For disks of up to 1000 entries and files. -/
import Derived.Test.YtlefpodonkdbeaaGreatDwF
import Derived.Deep.RegionLaw
set_option maxRecDepth 8000
namespace Go.Proofs.YtlefpodonkdbeaaGreat.Dw
open Go.RowKit By Dk

theorem cel_put1 {w : World} {g : Nat} {t : TypeId} {cs : Array Value} (h : Cel w g t cs) (i : Nat) (v : Value) : Cel (w.setCell ⟨g, i, none⟩ v) g t (cs.setIfInBounds i v) := cel_put h i v
theorem cell_put1 (w : World) (g i : Nat) (v : Value) (p : Addr) (h : p.block ≠ g) : (w.setCell ⟨g, i, none⟩ v).cell? p = w.cell? p := cell_set_ne w g i v p h
theorem rde_put {U n c g i : Nat} {w : World} {A : Option Addr} {l : List E} {t : TypeId} {cs : Array Value} (h : RdE U w A n c l) (hc : Cel w g t cs) (hs : ∀ (i : Nat) (v : Value), cs[i]? = some v → isSl v = true) (v : Value) : RdE U (w.setCell ⟨g, i, none⟩ v) A n c l := rdg_away (fun _ => ⟨0, _, rfl, rfl⟩) h hc hs (cell_put1 w g i v)
theorem rdf_put {U n c g i : Nat} {w : World} {A : Option Addr} {l : List Fv} {t : TypeId} {cs : Array Value} (h : RdF U w A n c l) (hc : Cel w g t cs) (hs : ∀ (i : Nat) (v : Value), cs[i]? = some v → isSl v = true) (v : Value) : RdF U (w.setCell ⟨g, i, none⟩ v) A n c l :=
  ⟨rdg_away (fun _ => ⟨1, _, rfl, rfl⟩) h.1 hc hs (cell_put1 w g i v), fun u hu => bs_away (h.2 u hu) hc hs (cell_put1 w g i v)⟩
theorem put3_cell (w : World) (g : Nat) (a b c : Value) (p : Addr) (h : p.block ≠ g) : (((w.setCell ⟨g, 0, none⟩ a).setCell ⟨g, 1, none⟩ b).setCell ⟨g, 2, none⟩ c).cell? p = w.cell? p := (cell_put1 _ g 2 c p h).trans ((cell_put1 _ g 1 b p h).trans (cell_put1 w g 0 a p h))
theorem ret_rdisk {fn : Func} {p : Tmp} (hres : fn.results = #[.cell p 37]) (tmps : Array Value) (w : World) (g : Nat) (cs : Array Value) (hp : tmps.getD p undef = .pointer (some ⟨g, 0, none⟩)) (hc : Cel w g 37 cs) (hs : cs.size = 3) :
    (results fn tmps).run Tryz.prog w = .ok (.agg cs) w := results_cell_row hres tmps w g _ cs (0, 0) _ hp hc Tryz.underlying37 rfl (by rw [hs]; kernel_rfl)
theorem litRE (e : Nat) (V : World) (s : N) (q : Int) : RdE (V.heap.size + 1) (V.alloc (.cells #[.string (ba s), .int .i64 q] e)) (some ⟨V.heap.size, 0, none⟩) 1 1 [(s, q)] := by
  have := (OwnG.lit (Y := layE) e V [(s, q)] (by simp)).rd
  rw [show (V.alloc (.cells (layE.cells [(s, q)]).toArray e)).heap.size = V.heap.size + 1 by simp] at this
  exact this
def St1 (x : Dv) (w w1 : World) (i : Value) (wr : World) : Prop :=
  ∃ (k : Nat) (A1 : Option Addr) (c1 : Nat), k ≤ x.fn ∧ i = .int .i64 k ∧ Cel wr (w.heap.size + 1 + 1) 37 #[.slice A1 k c1, .slice none 0 0, .slice none 0 0] ∧ OwnG layF 66 w1.heap.size wr A1 k c1 (x.xs.take k) ∧ Below (w.heap.size + 1 + 1) w1 wr
def St2 (x : Dv) (w w1 wb : World) (A1 : Option Addr) (c1 : Nat) (i : Value) (wr : World) : Prop :=
  ∃ (k : Nat) (A2 : Option Addr) (c2 : Nat), k ≤ x.nn ∧ i = .int .i64 k ∧ Cel wr (w.heap.size + 1 + 1) 37 #[.slice A1 x.fn c1, .slice A2 k c2, .slice none 0 0] ∧ OwnG layE 69 wb.heap.size wr A2 k c2 (x.now.take k) ∧ RdG layF wb.heap.size wr A1 x.fn c1 x.xs ∧ wb.heap.size ≤ wr.heap.size ∧ Below (w.heap.size + 1 + 1) w1 wr
def St3 (x : Dv) (w w1 wb : World) (A1 : Option Addr) (c1 : Nat) (A2 : Option Addr) (c2 : Nat) (i : Value) (wr : World) : Prop :=
  ∃ (k : Nat) (A3 : Option Addr) (c3 : Nat), k ≤ x.kn ∧ i = .int .i64 k ∧ Cel wr (w.heap.size + 1 + 1) 37 #[.slice A1 x.fn c1, .slice A2 x.nn c2, .slice A3 k c3] ∧ OwnG layE 69 wb.heap.size wr A3 k c3 (x.kept.take k) ∧ RdG layF wb.heap.size wr A1 x.fn c1 x.xs ∧ RdE wb.heap.size wr A2 x.nn c2 x.now ∧ wb.heap.size ≤ wr.heap.size ∧ Below (w.heap.size + 1 + 1) w1 wr
set_option maxHeartbeats 40000000 in
theorem as_any (x : Dv) (w : World) (h : RdD w.heap.size w x) (hfn : x.fn ≤ 1000) (hnn : x.nn ≤ 1000) (hkn : x.kn ≤ 1000) :
    Calls Tryz.prog 16 #[x.v] w (DR w (fun v => v) x.d) := by
  obtain ⟨w1, hw1⟩ : ∃ w1, w1 = ((w.alloc (.cells x.cs 30)).alloc (.cells #[.slice none 0 0, .slice none 0 0, .slice none 0 0] 37)).alloc (.cells #[.slice none 0 0, .slice none 0 0, .slice none 0 0] 37) := ⟨_, rfl⟩
  have hb1 : Below w.heap.size w w1 := by rw [hw1]; exact ((alloc_more _ _).alloc (by simp) _).alloc (by simp; omega) _
  have hs1 : w1.heap.size = w.heap.size + 3 := by rw [hw1]; simp
  have hc0 : Cel w1 w.heap.size 30 x.cs := by rw [hw1]; exact (Cel.born w _ _).below ((alloc_more _ _).trans ((alloc_more _ _).mono (by simp))) (by simp)
  have hc1 : Cel w1 (w.heap.size + 1) 37 #[.slice none 0 0, .slice none 0 0, .slice none 0 0] := by
    rw [hw1]
    have := (Cel.born (w.alloc (.cells x.cs 30)) 37 #[.slice none 0 0, .slice none 0 0, .slice none 0 0]).below (alloc_more _ (.cells #[.slice none 0 0, .slice none 0 0, .slice none 0 0] 37)) (by simp)
    simpa using this
  have hc2 : Cel w1 (w.heap.size + 1 + 1) 37 #[.slice none 0 0, .slice none 0 0, .slice none 0 0] := by
    rw [hw1]
    have := Cel.born ((w.alloc (.cells x.cs 30)).alloc (.cells #[.slice none 0 0, .slice none 0 0, .slice none 0 0] 37)) 37 #[.slice none 0 0, .slice none 0 0, .slice none 0 0]
    simpa using this
  have HC0 := Lib.hid hc0
  have HC1 := Lib.hid hc1
  have HB1 := Lib.hid hb1
  have hlt2 : w.heap.size + 1 + 1 < w1.heap.size := by omega
  have HS1 := Lib.hid hs1
  clear hs1
  have HR := Lib.hid h
  have hfc := h.f.cap
  have hfm := h.f.max
  have hnc := h.n.cap
  have hnm := h.n.max
  have hkc := h.k.cap
  have hkm := h.k.max
  clear h
  go_enter Tryz.func16, Tryz.ntmps16
  go_wp2
  rw [← hw1]
  clear hw1
  go_loopw [4] (fun i wr => St1 x w w1 i wr) (fun i _ => x.fn - (intOf i).toNat)
  case atStart => exact ⟨0, none, 0, by omega, rfl, hc2, OwnG.nil _ _ _, Below.refl _ _⟩
  case round =>
    have hwb : w1.heap.size ≤ w1.heap.size := Nat.le_refl _
    clear hc0 hc1 hc2 hb1
    obtain ⟨k, A1, c1, hk, rfl, hco, hown, hbw⟩ := hrel
    have hsb : w1.heap.size ≤ wr.heap.size := hbw.size
    have hd := HC0.out.below hbw (by omega)
    obtain ⟨d0, d1, d2⟩ := ref_cel3 hd
    obtain ⟨o0, o1, o2⟩ := ref_cel3 hco
    have fo := cel_fr hco 0
    by_cases hlt : k < x.fn
    · have hbr := HB1.out.trans (hbw.mono (show w.heap.size ≤ w.heap.size + 1 + 1 by omega))
      obtain ⟨b, o, v, eA, hbl, HE, hbs, r1, r2⟩ := atF (HR.out.f.below hbr) hlt
      rw [eA] at d0
      have HT := Lib.hid (take_next HE.out)
      have HTT := HT
      have hkz : (k : Int) < (x.fn : Int) := by omega
      have hlit := litF 66 wr.drew v
      have hal : Below wr.heap.size wr (wr.drew.alloc (.cells #[.slice v.A v.l.length v.c, .int .i64 v.s] 66)) := (Below.refl _ _).drew.alloc (Nat.le_refl _) _
      have HO1 := Lib.hid (hown.below hal)
      have hbr2 : b < wr.heap.size := World.block_lt_of_cell? wr _ r1
      have hgo : w.heap.size + 1 + 1 < wr.heap.size := hco.lt
      have hgd : w.heap.size < wr.heap.size := hd.lt
      have hsw := hbw.size
      have HCO := Lib.hid hco
      have hoa : (wr.alloc (.cells #[.slice v.A v.l.length v.c, .int .i64 v.s] 66)).cell? ⟨w.heap.size + 1 + 1, 0, none⟩ = some (.slice A1 k c1) := ((alloc_more wr _).cell (p := ⟨w.heap.size + 1 + 1, 0, none⟩) hgo).trans o0
      clear HE hbs hco hd hown hnc hnm hkc hkm d1 d2 o1 o2 HC0 HC1 HT HR HS1 hbl eA
      go_wp2_with fail
      go_region_law (first
          | (refine step_appG rfilP (by decide) (by decide) (by kernel_rfl) (by rfl) (.tmp 15) (.tmp 29) (by rfl) (by rfl) HO1.out (by rfl) hlit (by omega) (by simp; omega) ?_; intro A3 c3 w3 happ; have hcw := (HCO.out.below hal HCO.out.lt).grown happ.2.2.1 ((HCO.out.below hal HCO.out.lt).not_row HO1.out.1 (by decide)); obtain ⟨e0, e1, e2⟩ := ref_cel3 hcw; have fe := cel_fr hcw 0))
      all_goals (
        go_wp2
        go_roundw
        case rel =>
          refine ⟨k + 1, A3, c3, by omega, by go_num, cel_put hcw 0 _, by rw [HTT.out]; exact ⟨ownsRow_setCell_below happ.1.1 (Nat.lt_of_lt_of_le hlt2 hwb) _, happ.1.2⟩, (hbw.trans ((hal.mono (by omega)).trans (happ.2.1.mono (by omega)))).setCell (p := ⟨w.heap.size + 1 + 1, 0, none⟩) (Nat.le_refl _) _⟩
        case measure => simp [intOf]; omega)
    · obtain rfl : k = x.fn := by omega
      have hlen : x.xs.length = x.fn := HR.out.f.1.1
      rw [List.take_of_length_le (Nat.le_of_eq hlen)] at hown
      clear hlen
      have HX2 := Lib.hid hco
      have HF2 := Lib.hid hown.rd
      have HB2 := Lib.hid hbw
      obtain ⟨wb2, hwb2⟩ : ∃ u, u = wr := ⟨_, rfl⟩
      rw [← hwb2] at HX2 HF2 HB2
      obtain ⟨P1, hP1⟩ : ∃ u, u = A1 := ⟨_, rfl⟩
      obtain ⟨q1, hq1⟩ : ∃ u, u = c1 := ⟨_, rfl⟩
      rw [← hP1, ← hq1] at HX2 HF2
      clear hco hown hbw hsb hd o0 o1 o2 fo
      go_wp2
      try rw [← hwb2]
      clear hwb2 hP1 hq1
      go_loopw [5] (fun i wr => St2 x w w1 wb2 P1 q1 i wr) (fun i _ => x.nn - (intOf i).toNat)
      case atStart => exact ⟨0, none, 0, by omega, rfl, HX2.out, OwnG.nil _ _ _, HF2.out, Nat.le_refl _, HB2.out⟩
      case round =>
        have hwb : w1.heap.size ≤ wb2.heap.size := HB2.out.size
        obtain ⟨k, A1, c1, hk, rfl, hco, hown, hff, hsb, hbw⟩ := hrel
        have hsw := hbw.size
        have hd := HC0.out.below hbw (by omega)
        obtain ⟨d0, d1, d2⟩ := ref_cel3 hd
        obtain ⟨o0, o1, o2⟩ := ref_cel3 hco
        have fo := cel_fr hco 1
        by_cases hlt : k < x.nn
        · have hbr := HB1.out.trans (hbw.mono (show w.heap.size ≤ w.heap.size + 1 + 1 by omega))
          obtain ⟨b, o, s, q, eA, hbl, HE, r1, r2⟩ := atE (HR.out.n.below hbr) hlt
          rw [eA] at d1
          have HT := Lib.hid (take_next HE.out)
          have HTT := HT
          have hkz : (k : Int) < (x.nn : Int) := by omega
          have hlit := litRE 69 wr.drew s q
          have hal : Below wr.heap.size wr (wr.drew.alloc (.cells #[.string (ba s), .int .i64 q] 69)) := (Below.refl _ _).drew.alloc (Nat.le_refl _) _
          have HO1 := Lib.hid (hown.below hal)
          have hbr2 : b < wr.heap.size := World.block_lt_of_cell? wr _ r1
          have hgo : w.heap.size + 1 + 1 < wr.heap.size := hco.lt
          have hgd : w.heap.size < wr.heap.size := hd.lt
          have HCO := Lib.hid hco
          have HFF := Lib.hid (hff.below (hal.mono hsb))
          have hoa : (wr.alloc (.cells #[.string (ba s), .int .i64 q] 69)).cell? ⟨w.heap.size + 1 + 1, 1, none⟩ = some (.slice A1 k c1) := ((alloc_more wr _).cell (p := ⟨w.heap.size + 1 + 1, 1, none⟩) hgo).trans o1
          clear HE hco hd hown hkc hkm d0 d2 o0 o2 HC0 HC1 HT HR HS1 hbl eA hff
          go_wp2_with fail
          go_region_law (first
              | (refine step_appG rentP (by decide) (by decide) (by kernel_rfl) (by rfl) (.tmp 40) (.tmp 54) (by rfl) (by rfl) HO1.out (by rfl) hlit (by omega) (by simp; omega) ?_; intro A3 c3 w3 happ; have hcw := (HCO.out.below hal HCO.out.lt).grown happ.2.2.1 ((HCO.out.below hal HCO.out.lt).not_row HO1.out.1 (by decide)); obtain ⟨e0, e1, e2⟩ := ref_cel3 hcw; have fe := cel_fr hcw 1))
          all_goals (
            go_wp2
            go_roundw
            case rel =>
              refine ⟨k + 1, A3, c3, by omega, by go_num, cel_put hcw 1 _, by rw [HTT.out]; exact ⟨ownsRow_setCell_below happ.1.1 (Nat.lt_of_lt_of_le hlt2 hwb) _, happ.1.2⟩, rdg_away (fun _ => ⟨1, _, rfl, rfl⟩) (HFF.out.below happ.2.1) hcw sl3 (cell_put1 _ _ _ _), by simpa using (Nat.le_trans hsb (Nat.le_trans hal.size happ.2.1.size)), (hbw.trans ((hal.mono (by omega)).trans (happ.2.1.mono (by omega)))).setCell (p := ⟨w.heap.size + 1 + 1, 1, none⟩) (Nat.le_refl _) _⟩
            case measure => simp [intOf]; omega)
        · obtain rfl : k = x.nn := by omega
          have hlen : x.now.length = x.nn := HR.out.n.1
          rw [List.take_of_length_le (Nat.le_of_eq hlen)] at hown
          clear hlen
          have HX3 := Lib.hid hco
          have HE3 := Lib.hid hown.rd
          have HF3 := Lib.hid (hff.mono hsb)
          have HB3 := Lib.hid hbw
          obtain ⟨wb3, hwb3⟩ : ∃ u, u = wr := ⟨_, rfl⟩
          rw [← hwb3] at HX3 HE3 HF3 HB3
          obtain ⟨P2, hP2⟩ : ∃ u, u = A1 := ⟨_, rfl⟩
          obtain ⟨q2, hq2⟩ : ∃ u, u = c1 := ⟨_, rfl⟩
          rw [← hP2, ← hq2] at HX3 HE3
          clear hco hown hff hsb hd o0 o1 o2 fo hbw hsw
          go_wp2
          try rw [← hwb3]
          clear hwb3 hP2 hq2
          go_loopw [6] (fun i wr => St3 x w w1 wb3 P1 q1 P2 q2 i wr) (fun i _ => x.kn - (intOf i).toNat)
          case atStart => exact ⟨0, none, 0, by omega, rfl, HX3.out, OwnG.nil _ _ _, HF3.out, HE3.out, Nat.le_refl _, HB3.out⟩
          case round =>
            have hwb : w1.heap.size ≤ wb3.heap.size := HB3.out.size
            obtain ⟨k, A1, c1, hk, rfl, hco, hown, hff, hee, hsb, hbw⟩ := hrel
            have hsw := hbw.size
            have hd := HC0.out.below hbw (by omega)
            obtain ⟨d0, d1, d2⟩ := ref_cel3 hd
            obtain ⟨o0, o1, o2⟩ := ref_cel3 hco
            have fo := cel_fr hco 2
            by_cases hlt : k < x.kn
            · have hbr := HB1.out.trans (hbw.mono (show w.heap.size ≤ w.heap.size + 1 + 1 by omega))
              obtain ⟨b, o, s, q, eA, hbl, HE, r1, r2⟩ := atE (HR.out.k.below hbr) hlt
              rw [eA] at d2
              have HT := Lib.hid (take_next HE.out)
              have HTT := HT
              have hkz : (k : Int) < (x.kn : Int) := by omega
              have hlit := litRE 69 wr.drew s q
              have hal : Below wr.heap.size wr (wr.drew.alloc (.cells #[.string (ba s), .int .i64 q] 69)) := (Below.refl _ _).drew.alloc (Nat.le_refl _) _
              have HO1 := Lib.hid (hown.below hal)
              have hbr2 : b < wr.heap.size := World.block_lt_of_cell? wr _ r1
              have hgo : w.heap.size + 1 + 1 < wr.heap.size := hco.lt
              have hgd : w.heap.size < wr.heap.size := hd.lt
              have HCO := Lib.hid hco
              have HFF := Lib.hid (hff.below (hal.mono hsb))
              have HEE := Lib.hid (hee.below (hal.mono hsb))
              have hoa : (wr.alloc (.cells #[.string (ba s), .int .i64 q] 69)).cell? ⟨w.heap.size + 1 + 1, 2, none⟩ = some (.slice A1 k c1) := ((alloc_more wr _).cell (p := ⟨w.heap.size + 1 + 1, 2, none⟩) hgo).trans o2
              clear HE hco hd hown hnc hnm d0 d1 o0 o1 HC0 HC1 HT HR HS1 hbl eA hff hee
              go_wp2_with fail
              go_region_law (first
                  | (refine step_appG rentP (by decide) (by decide) (by kernel_rfl) (by rfl) (.tmp 65) (.tmp 79) (by rfl) (by rfl) HO1.out (by rfl) hlit (by omega) (by simp; omega) ?_; intro A3 c3 w3 happ; have hcw := (HCO.out.below hal HCO.out.lt).grown happ.2.2.1 ((HCO.out.below hal HCO.out.lt).not_row HO1.out.1 (by decide)); obtain ⟨e0, e1, e2⟩ := ref_cel3 hcw; have fe := cel_fr hcw 2))
              all_goals (
                go_wp2
                go_roundw
                case rel =>
                  refine ⟨k + 1, A3, c3, by omega, by go_num, cel_put hcw 2 _, by rw [HTT.out]; exact ⟨ownsRow_setCell_below happ.1.1 (Nat.lt_of_lt_of_le hlt2 hwb) _, happ.1.2⟩, rdg_away (fun _ => ⟨1, _, rfl, rfl⟩) (HFF.out.below happ.2.1) hcw sl3 (cell_put1 _ _ _ _), rde_put (HEE.out.below happ.2.1) hcw sl3 _, by simpa using (Nat.le_trans hsb (Nat.le_trans hal.size happ.2.1.size)), (hbw.trans ((hal.mono (by omega)).trans (happ.2.1.mono (by omega)))).setCell (p := ⟨w.heap.size + 1 + 1, 2, none⟩) (Nat.le_refl _) _⟩
                case measure => simp [intOf]; omega)
            · obtain rfl : k = x.kn := by omega
              have hlen : x.kept.length = x.kn := HR.out.k.1
              rw [List.take_of_length_le (Nat.le_of_eq hlen)] at hown
              clear hlen
              obtain ⟨p0, p1, p2⟩ := ref_cel3 (HC1.out.below hbw (by omega))
              obtain ⟨g0, g1, g2⟩ := cel_frs (HC1.out.below hbw (by omega))
              have HCR := Lib.hid (HC1.out.below hbw (by omega))
              have HBW := Lib.hid hbw
              have HCO := Lib.hid hco
              have HOW := Lib.hid hown.rd
              have HFF := Lib.hid (hff.mono hsb)
              have HEE := Lib.hid (hee.mono hsb)
              clear hco hown hff hee hbw hd
              go_wp2
              refine bodyPost_ret (ret_rdisk rfl _ _ (w.heap.size + 1) #[.slice P1 x.fn q1, .slice P2 x.nn q2, .slice A1 x.kn c1] rfl (cel_put3 HCR.out) rfl) rfl ?_
              have hst : Below w.heap.size w wr := HB1.out.trans (HBW.out.mono (by omega))
              refine ⟨⟨P1, x.fn, q1, x.xs, P2, x.nn, q2, x.now, A1, x.kn, c1, x.kept⟩, rfl, rfl, ⟨⟨?_, ?_⟩, ?_, ?_⟩, below_put3 hst (by omega) _ _ _⟩
              · exact (rdg_away (fun _ => ⟨1, _, rfl, rfl⟩) HFF.out HCR.out sl3 (put3_cell _ _ _ _ _)).mono (by simp)
              · exact (HR.out.f.2.below (below_put3 hst (by omega) _ _ _)).mono (below_put3 hst (by omega) _ _ _).size
              · exact (rdg_away (fun _ => ⟨1, _, rfl, rfl⟩) HEE.out HCR.out sl3 (put3_cell _ _ _ _ _)).mono (by simp)
              · exact (rdg_away (fun _ => ⟨1, _, rfl, rfl⟩) HOW.out HCR.out sl3 (put3_cell _ _ _ _ _)).mono (by simp)
end Go.Proofs.YtlefpodonkdbeaaGreat.Dw
