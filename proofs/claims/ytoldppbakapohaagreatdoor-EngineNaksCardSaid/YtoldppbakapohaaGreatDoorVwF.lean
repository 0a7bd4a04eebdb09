/- What boarderlaw13's Plain comes to, and the document's examples. No conditions. -/
import Derived.Test.YtoldppbakapohaaGreatDoorVwE
section
set_option maxRecDepth 8000
namespace Go.Proofs.YtoldppbakapohaaGreatDoor.Vw
open Go.RowKit By Cf Ad Ky
open Dw (ba ba_size ba_data ba_list alloc_more)

/-! ### The document's examples -/
def i01 : List UInt8 := [105, 48, 49]
def exSn (f : Int) : Sn := ⟨167772160, 24, [⟨f, 167772180⟩], [⟨i01, 167772165⟩], 1, 167772161, 600⟩
def cfP (f : Int) : Cf := ⟨167772161, 300, [[exSn f]]⟩
theorem ex_small (f : Int) : Small (cfP f) := small_iff.1 (by rfl)

/-! ### Where an example lies -/
def plSx (b : Nat) (f : Int) : Sx := ⟨167772160, 24, some ⟨b + 1, 0, none⟩, 1, [⟨f, 167772180⟩], some ⟨b + 2, 0, none⟩, 1, [⟨i01, 167772165⟩], 1, 167772161, 600⟩
def plCx (b : Nat) (f : Int) : Cx := ⟨167772161, 300, some ⟨b + 5, 0, none⟩, 1, 1, [⟨some ⟨b + 4, 0, none⟩, 1, [plSx b f]⟩]⟩
@[reducible] def plCs (b : Nat) : Array Value := #[.int .i64 167772161, .int .i64 300, .slice (some ⟨b + 5, 0, none⟩) 1 1]
@[reducible] def plSs (b : Nat) : Array Value := #[.int .i64 167772160, .int .i64 24, .slice (some ⟨b + 1, 0, none⟩) 1 1, .slice (some ⟨b + 2, 0, none⟩) 1 1, .int .i64 1, .int .i64 167772161, .int .i64 600]
structure PlA (W : World) (b : Nat) (f : Int) : Prop where
  p : Cel W (b + 1) 124 #[.int .i64 f, .int .i64 167772180]
  r : Cel W (b + 2) 126 #[.string (ba i01), .int .i64 167772165]
  s : Cel W (b + 4) 115 (plSs b)
  n : Cel W (b + 5) 110 #[.slice (some ⟨b + 4, 0, none⟩) 1 1]
section
variable {W W' : World} {b B U : Nat} {f : Int}
theorem PlA.below (h : PlA W b f) (hb : Below B W W') (hB : b + 5 < B) : PlA W' b f := ⟨h.p.below hb (by omega), h.r.below hb (by omega), h.s.below hb (by omega), h.n.below hb hB⟩
theorem PlA.sx (h : PlA W b f) (hU : b + 5 < U) : (plSx b f).ok U W 1 1 :=
  ⟨cel_row (Y := layP) [⟨f, 167772180⟩] h.p (by omega) (show 1 ≤ 1 from Nat.le_refl _) (show 1 ≤ 1000000 by omega), cel_row (Y := layR) [⟨i01, 167772165⟩] h.r (by omega) (show 1 ≤ 1 from Nat.le_refl _) (show 1 ≤ 1000000 by omega), fun r hr => by
    simp only [plSx, List.mem_cons, List.not_mem_nil, or_false] at hr
    subst hr
    show (3 : Nat) ≤ 9223372036854775807
    omega⟩
theorem PlA.ok (h : PlA W b f) (hU : b + 5 < U) : (plCx b f).ok U W :=
  ⟨cel_row (Y := layN) [⟨some ⟨b + 4, 0, none⟩, 1, [plSx b f]⟩] h.n hU (show 1 ≤ 1 from Nat.le_refl _) (show 1 ≤ 1000000 by omega), fun y hy => by
    simp only [plCx, List.mem_cons, List.not_mem_nil, or_false] at hy
    subst hy
    refine ⟨cel_row (Y := layS) [plSx b f] h.s (by omega) (show 1 ≤ 1 from Nat.le_refl _) (show 1 ≤ 1000000 by omega), fun s hs => ?_⟩
    simp only [List.mem_cons, List.not_mem_nil, or_false] at hs
    subst hs
    exact h.sx hU⟩
end
theorem chain6 (w : World) (a b c d e f : Array Value) (ta tb tc td te tf : TypeId) : ∃ w6, w6 = ((((((w.alloc (.cells a ta)).alloc (.cells b tb)).alloc (.cells c tc)).alloc (.cells d td)).alloc (.cells e te)).alloc (.cells f tf)) ∧
    Cel w6 w.heap.size ta a ∧ Cel w6 (w.heap.size + 1) tb b ∧ Cel w6 (w.heap.size + 2) tc c ∧ Cel w6 (w.heap.size + 4) te e ∧ Cel w6 (w.heap.size + 5) tf f ∧ Below w.heap.size w w6 ∧ w6.heap.size = w.heap.size + 6 := by
  have ca := Cel.born w ta a
  have ba := alloc_more w (.cells a ta)
  have sa : (w.alloc (.cells a ta)).heap.size = w.heap.size + 1 := by simp
  refine ⟨_, rfl, ?_⟩
  generalize w.alloc (.cells a ta) = wa at ca ba sa
  have cb := Cel.born wa tb b
  have bb := alloc_more wa (.cells b tb)
  have sb : (wa.alloc (.cells b tb)).heap.size = w.heap.size + 2 := by simp; omega
  generalize wa.alloc (.cells b tb) = wb at cb bb sb
  have cc := Cel.born wb tc c
  have bc := alloc_more wb (.cells c tc)
  have sc : (wb.alloc (.cells c tc)).heap.size = w.heap.size + 3 := by simp; omega
  generalize wb.alloc (.cells c tc) = wc at cc bc sc
  have bd := alloc_more wc (.cells d td)
  have sd : (wc.alloc (.cells d td)).heap.size = w.heap.size + 4 := by simp; omega
  generalize wc.alloc (.cells d td) = wd at bd sd
  have ce := Cel.born wd te e
  have be := alloc_more wd (.cells e te)
  have se : (wd.alloc (.cells e te)).heap.size = w.heap.size + 5 := by simp; omega
  generalize wd.alloc (.cells e te) = we at ce be se
  have cf := Cel.born we tf f
  have bf := alloc_more we (.cells f tf)
  have sf : (we.alloc (.cells f tf)).heap.size = w.heap.size + 6 := by simp; omega
  generalize we.alloc (.cells f tf) = wf at cf bf sf
  rw [sa] at cb bb
  rw [sb] at cc bc
  rw [sc] at bd
  rw [sd] at ce be
  rw [se] at cf bf
  refine ⟨?_, ?_, ?_, ce.below bf (by omega), cf, ?_, sf⟩
  · exact ((((ca.below bb (by omega)).below bc (by omega)).below bd (by omega)).below be (by omega)).below bf (by omega)
  · exact (((cb.below bc (by omega)).below bd (by omega)).below be (by omega)).below bf (by omega)
  · exact ((cc.below bd (by omega)).below be (by omega)).below bf (by omega)
  · exact ((((ba.trans (bb.mono (by omega))).trans (bc.mono (by omega))).trans (bd.mono (by omega))).trans (be.mono (by omega))).trans (bf.mono (by omega))
theorem ret_conf {fn : Func} {p : Tmp} (hres : fn.results = #[.cell p 24]) (tmps : Array Value) (w : World) (g : Nat) (cs : Array Value) (hp : tmps.getD p undef = .pointer (some ⟨g, 0, none⟩)) (hc : Cel w g 24 cs) (hs : cs.size = 3) :
    (results fn tmps).run Tryz.prog w = .ok (.agg cs) w := results_cell_row hres tmps w g _ cs (0, 0) _ hp hc Tryz.underlying24 rfl (by rw [hs]; kernel_rfl)
set_option maxHeartbeats 4000000 in
theorem plain_any (w : World) : Calls Tryz.prog 36 #[] w fun e w' => e = .returned (.agg (plCs w.heap.size)) ∧ PlA w' w.heap.size 167772170 ∧ Below w.heap.size w w' ∧ w'.heap.size = w.heap.size + 6 := by
  obtain ⟨w6, hw6, ca, cb, cc, ce, cf, hb, hs⟩ := chain6 w (plCs w.heap.size) #[.int .i64 167772170, .int .i64 167772180] #[.string (ba i01), .int .i64 167772165] (plSs w.heap.size) (plSs w.heap.size) #[.slice (some ⟨w.heap.size + 4, 0, none⟩) 1 1] 24 124 126 115 115 110
  have HP := Lib.hid (show PlA w6 w.heap.size 167772170 from ⟨cb, cc, ce, cf⟩)
  have HC := Lib.hid ca
  have HB := Lib.hid hb
  have HS := Lib.hid hs
  clear ca cb cc ce cf hb hs
  go_enter Tryz.func36, Tryz.ntmps36
  go_wp2
  change bodyPost _ _ _ _ _ (((((((w.alloc (.cells (plCs w.heap.size) 24)).alloc (.cells #[.int .i64 167772170, .int .i64 167772180] 124)).alloc (.cells #[.string (ba i01), .int .i64 167772165] 126)).alloc (.cells (plSs w.heap.size) 115)).alloc (.cells (plSs w.heap.size) 115)).alloc (.cells #[.slice (some ⟨w.heap.size + 4, 0, none⟩) 1 1] 110)))
  rw [← hw6]
  clear hw6
  refine bodyPost_ret (ret_conf rfl _ _ w.heap.size (plCs w.heap.size) rfl HC.out rfl) rfl ?_
  exact ⟨rfl, HP.out, HB.out, HS.out⟩
end Go.Proofs.YtoldppbakapohaaGreatDoor.Vw
end
/- What boarderlaw13's Great comes to. Condition: the configuration reads. -/
section
set_option maxRecDepth 8000
namespace Go.Proofs.YtoldppbakapohaaGreatDoor.Vw
open Go.RowKit By Cf Ad Ky
open Dw (ba ba_size ba_data ba_list alloc_more)

theorem any_bad {α : Type} {p : α → Bool} {l : List α} {k : Nat} {a : α} (h : l[k]? = some a) (hq : p a = true) : l.any p = true := List.any_eq_true.2 ⟨a, List.mem_of_getElem? h, hq⟩
theorem any_take {α : Type} {p : α → Bool} {l : List α} {n : Nat} (h : (l.take n).any p = false) (hn : l.length = n) : l.any p = false := by rwa [← hn, List.take_length] at h
theorem great_at (x : Cx) : greatC x.cf = (decide (10 < x.ns.length) || x.ns.any fun y => greatN y.l) := by
  unfold greatC
  rw [show x.cf.nets = netsOf x.ns from rfl, nets_len, nets_any]
theorem greatN_at (y : Nx) : greatN y.l = (decide (10 < y.xs.length) || y.xs.any fun s => greatS s.s) := by
  unfold greatN Nx.l
  rw [sns_len]
  unfold snsOf
  rw [List.any_map]
  rfl
def longK (r : Rs) : Bool := decide (1000 < r.key.length)
theorem greatS_at (s : Sx) : greatS s.s = (decide (20 < s.pools.length) || decide (20 < s.res.length) || s.res.any longK) := rfl
set_option maxHeartbeats 16000000 in
theorem great_any (x : Cx) (U : Nat) (w : World) (h : x.ok U w) (hU : U ≤ w.heap.size) : Calls Tryz.prog 72 #[x.v] w (isB (greatC x.cf) w) := by
  obtain ⟨w0, hw0, hc0, hb0⟩ := boxedC w x
  have hgr := great_at x
  generalize greatC x.cf = ans at hgr ⊢
  obtain ⟨srv, prob, A, n, c, ns⟩ := x
  have HX : Hid (RdNx U w A n c ns) := h.rd
  have HL : Hid (ns.length = n) := h.rd.len
  have HUU := Lib.hid hU
  have hcp : n ≤ c := h.rd.cap
  have hmx : c ≤ 9223372036854775807 := h.rd.max
  have HB := Lib.hid hb0
  have HC0 : Hid (Cel w0 w.heap.size 24 #[.int .i64 srv, .int .i64 prob, .slice A n c]) := hc0
  have HG : Hid (ans = (decide (10 < ns.length) || ns.any fun y => greatN y.l)) := hgr
  rw [HL.out] at HG
  show Calls _ _ #[.agg #[.int .i64 srv, .int .i64 prob, .slice A n c]] w (isB ans w)
  have hw0' : w0 = w.alloc (.cells #[.int .i64 srv, .int .i64 prob, .slice A n c] 24) := hw0
  clear h hU hc0 hb0 hw0 hgr
  by_cases hn : (n : Int) > 10
  · have HT : Hid (ans = true) := by show _ = _; rw [HG.out, decide_eq_true (by omega)]; rfl
    go_enter Tryz.func72, Tryz.ntmps72
    go_upto_region 1 with fail
    rw [← hw0']
    clear hw0'
    obtain ⟨c0, c1, c2⟩ := celC HC0.out
    go_wp2
    go_ret
    exact ⟨ret_bool HT.out.symm, HB.out⟩
  rw [decide_eq_false (by omega), Bool.false_or] at HG
  go_enter Tryz.func72, Tryz.ntmps72
  go_upto_region 1 with fail
  rw [← hw0']
  clear hw0'
  obtain ⟨c0, c1, c2⟩ := celC HC0.out
  go_wp2_with fail
  clear c0 c1 c2
  go_loopw [3] (fun v wr => ∃ i : Nat, v = .int .i64 i ∧ i ≤ n ∧ Hid (((ns.take i).any fun y => greatN y.l) = false) ∧ Hid (Below w0.heap.size w0 wr)) (fun v _ => n - (intOf v).toNat)
  case atStart => exact ⟨0, rfl, by omega, rfl, Below.refl _ _⟩
  case round =>
    obtain ⟨i, rfl, hi2, HE, HB2⟩ := hrel
    have HBW := Lib.hid (HB.out.trans (HB2.out.mono HB.out.size))
    obtain ⟨c0, c1, c2⟩ := celC (HC0.out.below HB2.out HC0.out.lt)
    by_cases hlt : i < n
    · obtain ⟨b, o, y, m, rfl, hbU, HA, hy, n0⟩ := atN HX.out hlt
      have hiz : (i : Int) < (n : Int) := by omega
      have HY0 := Lib.hid hy
      have hyc := hy.cap
      have hym := hy.max
      have hgn := greatN_at y
      rw [hy.len] at hgn
      have HN0 : Hid (∀ W, Below w.heap.size w W → W.cell? ⟨b, o + i, none⟩ = some (.slice y.A m y.c)) := fun W hW => (hW.cell (p := ⟨b, o + i, none⟩) (Nat.lt_of_lt_of_le hbU HUU.out)).trans n0
      have HBDN : Hid (greatN y.l = true → ans = true) := fun hv => by rw [HG.out]; exact any_bad HA.out hv
      have HNXN : Hid (greatN y.l = false → ((ns.take (i + 1)).any fun y => greatN y.l) = false) := fun hv => any_skip HA.out HE.out hv
      rw [hgn] at HBDN HNXN
      clear hy n0 hgn HA HE
      obtain ⟨yA, yc, xs⟩ := y
      have HY : Hid (RdSx U w yA m yc xs) := HY0
      have HN : Hid (∀ W, Below w.heap.size w W → W.cell? ⟨b, o + i, none⟩ = some (.slice yA m yc)) := HN0
      have HBD : Hid ((decide (10 < m) || xs.any fun s => greatS s.s) = true → ans = true) := HBDN
      have HNX : Hid ((decide (10 < m) || xs.any fun s => greatS s.s) = false → ((ns.take (i + 1)).any fun y => greatN y.l) = false) := HNXN
      replace hyc : m ≤ yc := hyc
      replace hym : yc ≤ 9223372036854775807 := hym
      clear HY0 HN0 HBDN HNXN
      have n0 := HN.out wr HBW.out
      by_cases hm : (m : Int) > 10
      · have HT : Hid (ans = true) := HBD.out (by rw [decide_eq_true (by omega)]; rfl)
        go_wp2
        go_ret
        exact ⟨ret_bool HT.out.symm, HBW.out⟩
      rw [decide_eq_false (by omega), Bool.false_or] at HBD HNX
      go_wp2_with fail
      clear c0 c1 c2 n0
      go_loopw [4] (fun v wr => ∃ k : Nat, v = .int .i64 k ∧ k ≤ m ∧ Hid (((xs.take k).any fun s => greatS s.s) = false) ∧ Hid (Below w0.heap.size w0 wr)) (fun v _ => m - (intOf v).toNat)
      case atStart => exact ⟨0, rfl, by omega, rfl, HB2.out⟩
      case round =>
        obtain ⟨k, rfl, hk2, HE2, HB3⟩ := hrel
        have HBV := Lib.hid (HB.out.trans (HB3.out.mono HB.out.size))
        obtain ⟨c0, c1, c2⟩ := celC (HC0.out.below HB3.out HC0.out.lt)
        have n0 := HN.out wr HBV.out
        by_cases hlt2 : k < m
        · obtain ⟨b2, o2, s, pn, rn, rfl, hbU2, HD, hok, HPN, HRN, hsv⟩ := atS HY.out hlt2
          have hkz : (k : Int) < (m : Int) := by omega
          obtain ⟨s0, s1, s2, s3, s4, s5, s6⟩ := hsv.below (HBV.out.mono HUU.out) hbU2
          have hgs := greatS_at s
          rw [HPN.out, HRN.out] at hgs
          have HROW := Lib.hid hok.r
          have HKF := Lib.hid hok.k
          have hpc := hok.p.cap
          have hpm := hok.p.max
          have hrc := hok.r.cap
          have hrm := hok.r.max
          have HBS : Hid (greatS s.s = true → ans = true) := fun hv => HBD.out (any_bad HD.out hv)
          have HNS : Hid (greatS s.s = false → ((xs.take (k + 1)).any fun s => greatS s.s) = false) := fun hv => any_skip HD.out HE2.out hv
          rw [hgs] at HBS HNS
          obtain ⟨w5, hw5⟩ : ∃ w5, w5 = wr.alloc (.cells (s.cs pn rn) 115) := ⟨_, rfl⟩
          have hb5 : Below wr.heap.size wr w5 := by rw [hw5]; exact alloc_more _ _
          have hc5 : Cel w5 wr.heap.size 115 (s.cs pn rn) := by rw [hw5]; exact Cel.born _ _ _
          have HC5 := Lib.hid hc5
          have HLT : Hid (wr.heap.size < w5.heap.size) := hc5.lt
          have HB5 := Lib.hid (HB3.out.trans (hb5.mono HB3.out.size))
          have HBX := Lib.hid (HB.out.trans (HB5.out.mono HB.out.size))
          clear hok hsv hb5 hc5 hgs HE2 HD
          go_upto_region 12 with fail
          rw [← hw5]
          clear hw5
          generalize wr.heap.size = gg at HC5 HLT ⊢
          clear c0 c1 c2 n0 s0 s1 s2 s3 s4 s5 s6
          obtain ⟨s0, s1, s2, s3, s4, s5, s6⟩ := cel7 HC5.out
          by_cases h1 : (pn : Int) > 20
          · have HT : Hid (ans = true) := HBS.out (by rw [decide_eq_true (show 20 < pn by omega)]; rfl)
            go_wp2
            go_ret
            exact ⟨ret_bool HT.out.symm, HBX.out⟩
          by_cases h2 : (rn : Int) > 20
          · have HT : Hid (ans = true) := HBS.out (by rw [decide_eq_true (show 20 < rn by omega), Bool.or_true]; rfl)
            go_wp2
            go_ret
            exact ⟨ret_bool HT.out.symm, HBX.out⟩
          rw [decide_eq_false (show ¬ 20 < pn by omega), decide_eq_false (show ¬ 20 < rn by omega), Bool.false_or, Bool.false_or] at HBS HNS
          go_wp2_with fail
          clear s0 s1 s2 s3 s4 s5 s6
          go_loopw [6] (fun v wr => ∃ j : Nat, v = .int .i64 j ∧ j ≤ rn ∧ Hid ((s.res.take j).any longK = false) ∧ Hid (Below w5.heap.size w5 wr)) (fun v _ => rn - (intOf v).toNat)
          case atStart => exact ⟨0, rfl, by omega, rfl, Below.refl _ _⟩
          case round =>
            obtain ⟨j, rfl, hj2, HE3, HB6⟩ := hrel
            have HBY := Lib.hid (HBX.out.trans (HB6.out.mono HBX.out.size))
            obtain ⟨s0, s1, s2, s3, s4, s5, s6⟩ := cel7 (HC5.out.below HB6.out HLT.out)
            by_cases hlt3 : j < rn
            · obtain ⟨b3, o3, r, hrA, hbU3, HQ, p0, p1⟩ := atR (HROW.out.below (HBY.out.mono HUU.out)) hlt3
              have hjz : (j : Int) < (rn : Int) := by omega
              have hfr : r.key.length ≤ 9223372036854775807 := HKF.out r (List.mem_of_getElem? HQ.out)
              have hbs := ba_size r.key
              rw [hrA] at s3
              clear hrA
              by_cases hv : 1000 < r.key.length
              · have HT : Hid (ans = true) := HBS.out (any_bad HQ.out (decide_eq_true hv))
                have hvz : ((ba r.key).size : Int) > 1000 := by rw [hbs]; omega
                clear hv HQ HE3
                go_wp2_with fail
                go_ret
                exact ⟨ret_bool HT.out.symm, HBY.out⟩
              · have HT : Hid ((s.res.take (j + 1)).any longK = false) := any_skip HQ.out HE3.out (decide_eq_false hv)
                have hvz : ¬ ((ba r.key).size : Int) > 1000 := by rw [hbs]; omega
                clear hv HQ HE3
                go_wp2_with fail
                go_roundw
                case rel => exact ⟨j + 1, by go_num, by omega, HT.out, HB6.out⟩
                case measure => simp [intOf]; omega
            · obtain rfl : j = rn := by omega
              have HT : Hid (((xs.take (k + 1)).any fun s => greatS s.s) = false) := HNS.out (any_take HE3.out HRN.out)
              have hjz : ¬ (j : Int) < (j : Int) := by omega
              clear hlt3 HE3
              go_wp2
              go_roundw
              case rel => exact ⟨k + 1, by go_num, by omega, HT.out, HB5.out.trans (HB6.out.mono HB5.out.size)⟩
              case measure => simp [intOf]; omega
        · obtain rfl : k = m := by omega
          have HT : Hid (((ns.take (i + 1)).any fun y => greatN y.l) = false) := HNX.out (any_take HE2.out HY.out.len)
          have hkz : ¬ (k : Int) < (k : Int) := by omega
          clear hlt2 HE2
          go_wp2
          go_roundw
          case rel => exact ⟨i + 1, by go_num, by omega, HT.out, HB3.out⟩
          case measure => simp [intOf]; omega
    · obtain rfl : i = n := by omega
      have HT : Hid (ans = false) := by
        show _ = _
        rw [HG.out]
        exact any_take HE.out HL.out
      have hiz : ¬ (i : Int) < (i : Int) := by omega
      clear hlt HE
      go_wp2
      go_ret
      exact ⟨ret_bool HT.out.symm, HBW.out⟩
end Go.Proofs.YtoldppbakapohaaGreatDoor.Vw
end
