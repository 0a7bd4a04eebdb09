/- What alloc.sources comes to: the ranges that are tried, in their order. Conditions: the configuration is small, valid and has the network; the keys fit; at most 64 addresses are handed in. -/
import Derived.Test.YtpdjdaoclpeffaaGreatXwLeaf
import Derived.Test.YtpdjdaoclpeffaaGreatXwRow
import Derived.BigQuiet
import Derived.Deep.QuietTactic
set_option maxRecDepth 8000
namespace Go.Proofs.YtpdjdaoclpeffaaGreat.Xw
open Go.RowKit Co By Ky Rc Ew Jw La Tb Lw Cf Al Bw
open Vw (Cx Nx Sx RdPl RdSx RdNx layP atP atN atS cel7 AdR snsOf netsOf nets_get small_sns)
open Dw (ba ba_size ba_data ba_list alloc_more)

theorem parts3 {w : World} {b n1 c1 n2 c2 n3 c3 : Nat} {t : TypeId} {A1 A2 A3 : Option Addr} {l1 l2 l3 : List Pl} (hc : Cel w b t #[.slice A1 n1 c1, .slice A2 n2 c2, .slice A3 n3 c3]) (h1 : RdPl w.heap.size w A1 n1 c1 l1) (h2 : RdPl w.heap.size w A2 n2 c2 l2) (h3 : RdPl w.heap.size w A3 n3 c3 l3) : PartsQ w b 0 [⟨A1, c1, l1⟩, ⟨A2, c2, l2⟩, ⟨A3, c3, l3⟩] := by
  obtain rfl := h1.len
  obtain rfl := h2.len
  obtain rfl := h3.len
  intro i hi
  rw [Nat.zero_add, hc.cell]
  match i, hi with
  | 0, _ => exact ⟨rfl, h1⟩
  | 1, _ => exact ⟨rfl, h2⟩
  | 2, _ => exact ⟨rfl, h3⟩
theorem cat3 {A1 A2 A3 : Option Addr} {c1 c2 c3 : Nat} {l1 l2 l3 : List Pl} : catQ [⟨A1, c1, l1⟩, ⟨A2, c2, l2⟩, ⟨A3, c3, l3⟩] = l1 ++ (l2 ++ l3) := by simp [catQ]
theorem tot3 {A1 A2 A3 : Option Addr} {c1 c2 c3 : Nat} {l1 l2 l3 : List Pl} : totQ [⟨A1, c1, l1⟩, ⟨A2, c2, l2⟩, ⟨A3, c3, l3⟩] = l1.length + (l2.length + l3.length) := by simp [totQ]
/-- What is tried by a client that holds none. -/
def srcL (c : Cf) (net : Int) (k : List UInt8) (ol : List Int) (want : Int) : List Pl := (keptL c net k).map sgl ++ (ol.map sgl ++ (sgl want :: (netC c net).flatMap fun s => s.pools))
theorem net_at {x : Cx} {y : Nx} {k : Nat} (h0 : checkC x.cf = 0) (hk : x.ns[k]? = some y) : netC x.cf (k : Int) = snsOf y.xs := by
  obtain ⟨hlt, _⟩ := List.getElem?_eq_some_iff.1 (nets_get hk)
  unfold netC
  rw [if_pos ⟨h0, by omega, by show (k : Int) < ((netsOf x.ns).length : Int); omega⟩, List.getD_eq_getElem?_getD, Int.toNat_natCast, show x.cf.nets = netsOf x.ns from rfl, nets_get hk]
  rfl
theorem src_at {x : Cx} {y : Nx} {k : Nat} {key : List UInt8} {ol : List Int} {want : Int} (h0 : checkC x.cf = 0) (hk : x.ns[k]? = some y) (hl : List Pl) (h1 : hl = (keptL x.cf (k : Int) key).map sgl) : (hl ++ (ol.map sgl ++ [sgl want])) ++ y.xs.flatMap (fun s => s.pools) = srcL x.cf (k : Int) key ol want := by
  unfold srcL
  rw [net_at h0 hk, h1]
  have : (snsOf y.xs).flatMap (fun s => s.pools) = y.xs.flatMap fun s => s.pools := by
    unfold snsOf
    rw [List.flatMap_map]
    rfl
  rw [this]
  simp
theorem take_pools {xs : List Sx} {j : Nat} {x : Sx} (h : xs[j]? = some x) (l : List Pl) : l ++ (xs.take (j + 1)).flatMap (fun s => s.pools) = (l ++ (xs.take j).flatMap fun s => s.pools) ++ x.pools := by
  rw [take_nextL h, List.flatMap_append]
  simp
/-- A slice of ranges of the call's own. -/
def SrR (w : World) (l : List Pl) (e : Ending) (w' : World) : Prop := ∃ A n c, e = .returned (.slice A n c) ∧ OwnPl w.heap.size w' A n c l ∧ Below w.heap.size w w'
set_option maxHeartbeats 8000000 in
theorem sources_any (d : Nd) (k : Nat) (U : Nat) (oA : Option Addr) (on oc : Nat) (ol : List Int) (want : Int) (w : World) (h : d.ok U w) (hU : U ≤ w.heap.size) (h0 : checkC d.x.cf = 0) (hk : d.net = (k : Int)) (hkn : k < d.x.n) (ho : RdZ w.heap.size w oA on oc ol) (hon : on ≤ 64) :
    Calls Tryz.prog 31 #[d.v, .slice oA on oc, .int .i64 want] w (SrR w (srcL d.x.cf d.net d.k ol want)) := by
  obtain ⟨w0, hw0, hc0, hb0, hz⟩ := boxedN w d
  have HK := Lib.hid (fun W (hW : Below w.heap.size w W) => kept_any d.x d.net d.k U W (h.x.below (hW.mono hU)) (Nat.le_trans hU hW.size) h.s)
  have HO := Lib.hid (fun W (hW : Below w.heap.size w W) => singly_any oA on oc w.heap.size ol W (ho.below hW) hW.size (by omega))
  have HS1 := Lib.hid (fun (a : Int) W => singly_any (some ⟨W.heap.size, 0, none⟩) 1 1 (W.heap.size + 1) [a] (W.alloc (.cells #[.int .i64 a] 3)) (litZ W a) (by simp) (by omega))
  have HOL := Lib.hid ho.len
  have HB0 := Lib.hid hb0
  have HC0 := Lib.hid hc0
  have HUU := Lib.hid hU
  have HNX := Lib.hid h.x.rd
  have HSM := Lib.hid h.s
  obtain ⟨nb, no, y, m, hA, hnU, HY, hyx, hcell⟩ := atN h.x.rd hkn
  have HSX := Lib.hid hyx
  have hm10 : m ≤ 10 := by rw [← hyx.len]; exact small_sns h.s y (List.mem_of_getElem? HY.out)
  have HPN : Hid (∀ x ∈ y.xs, x.pools.length ≤ 20) := fun x hx => h.s.pools _ (List.mem_map.2 ⟨y, List.mem_of_getElem? HY.out, rfl⟩) x.s (List.mem_map.2 ⟨x, hx, rfl⟩)
  have HSRC := Lib.hid (fun hl h1 => src_at (x := d.x) (y := y) (k := k) (key := d.k) (ol := ol) (want := want) h0 HY.out hl h1)
  have HKL : Hid (keptL d.x.cf (k : Int) d.k = if (keptC d.x.cf (k : Int) d.k).2 = true then [(keptC d.x.cf (k : Int) d.k).1] else []) := rfl
  have hmcap := hyx.cap
  have hmmax := hyx.max
  have hncap := HNX.out.cap
  have hnmax := HNX.out.max
  rw [hk]
  rw [hk] at HK
  generalize hsr : srcL d.x.cf (k : Int) d.k ol want = sr at HSRC ⊢
  clear hsr
  generalize keptL d.x.cf (k : Int) d.k = kl at HKL HSRC
  generalize keptC d.x.cf (k : Int) d.k = u at HK HKL
  obtain ⟨own, kept⟩ := u
  obtain ⟨x, tA, tn, tc, tl, net, key, now⟩ := d
  obtain ⟨srv, prob, cA, cn, cc, ns⟩ := x
  simp only at hA hk hkn hncap hnmax
  subst hA hk
  have HCE := Lib.hid hcell
  have hkz : (k : Int) < (cn : Int) := by omega
  clear h hU ho hb0 hc0 hz hyx hcell h0
  cases kept with
  | true =>
    go_enter Tryz.func31, Tryz.ntmps31
    go_upto_region 1 with fail
    rw [← hw0]
    clear hw0
    obtain ⟨c0, c1, c2, c3, c4, c5, c6⟩ := cel7N HC0.out
    go_wp2_with fail
    refine (HK.out _ HB0.out).mono ?_
    rintro e w1 ⟨rfl, hb1⟩
    have HB1 := Lib.hid (HB0.out.trans (hb1.mono HB0.out.size))
    have HC1 := Lib.hid (HC0.out.below hb1 HC0.out.lt)
    clear c0 c1 c2 c3 c4 c5 c6 HC0 HK hb1
    have hba : Below w1.heap.size w1 (w1.alloc (.cells #[.int .i64 own] 3)) := alloc_more _ _
    go_wp2_with fail
    refine (HS1.out own w1).mono ?_
    rintro e w2 ⟨A1, c1, rfl, hown1, hb2⟩
    have hbb := hba.trans (hb2.mono hba.size)
    have HB2 := Lib.hid (HB1.out.trans (hbb.mono HB1.out.size))
    have HC2 := Lib.hid (HC1.out.below hbb HC1.out.lt)
    have HR1 := Lib.hid hown1.rd
    clear hba hbb hown1 hb2 HC1
    go_wp2_with fail
    refine (HO.out _ HB2.out).mono ?_
    rintro e w3 ⟨A2, c2, rfl, hown2, hb3⟩
    have HB3 := Lib.hid (HB2.out.trans (hb3.mono HB2.out.size))
    have HC3 := Lib.hid (HC2.out.below hb3 HC2.out.lt)
    have HR13 := Lib.hid ((HR1.out.below hb3).mono hb3.size)
    have HR2 := Lib.hid hown2.rd
    have hba3 : Below w3.heap.size w3 (w3.alloc (.cells #[.int .i64 want] 3)) := alloc_more _ _
    clear hown2 hb3 HR1 HC2
    go_wp2_with fail
    refine (HS1.out want w3).mono ?_
    rintro e w4 ⟨A3, c3, rfl, hown3, hb4⟩
    have hbb4 := hba3.trans (hb4.mono hba3.size)
    have HB4 := Lib.hid (HB3.out.trans (hbb4.mono HB3.out.size))
    have HC4 := Lib.hid (HC3.out.below hbb4 HC3.out.lt)
    have hr1 := ((HR13.out.below hbb4).mono hbb4.size)
    have hr2 := ((HR2.out.below hbb4).mono hbb4.size)
    have hr3 := hown3.rd
    obtain ⟨w5, hw5⟩ : ∃ w5, w5 = w4.alloc (.cells #[.slice A1 1 c1, .slice A2 on c2, .slice A3 1 c3] 53) := ⟨_, rfl⟩
    have hb5 : Below w4.heap.size w4 w5 := by rw [hw5]; exact alloc_more _ _
    have hc5 : Cel w5 w4.heap.size 53 #[.slice A1 1 c1, .slice A2 on c2, .slice A3 1 c3] := by rw [hw5]; exact Cel.born _ _ _
    have hpt := parts3 hc5 ((hr1.below hb5).mono hb5.size) ((hr2.below hb5).mono hb5.size) ((hr3.below hb5).mono hb5.size)
    have htt := hr2.len
    have HCC := Lib.hid (concatQ_any w4.heap.size 0 3 3 _ w5 hpt rfl (by omega) (by omega) (by rw [tot3]; simp only [List.length_map, List.length_cons, List.length_nil]; rw [HOL.out]; omega))
    have HB5 := Lib.hid (HB4.out.trans (hb5.mono HB4.out.size))
    have HC5 := Lib.hid (HC4.out.below hb5 HC4.out.lt)
    have HKE := Lib.hid (HSRC.out ([own].map sgl) (by rw [HKL.out]; rfl))
    rw [cat3, tot3] at HCC
    rw [show (ol.map sgl).length = on from htt] at HCC
    clear hba3 hown3 hb4 hbb4 hr1 hr2 hr3 hc5 hpt htt HC3 HR13 HR2 hb5 HC4 HKL
    go_wp2_with fail
    rw [← hw5]
    clear hw5
    refine HCC.out.mono ?_
    rintro e w6 ⟨A4, c4, rfl, hown4, hb6⟩
    have HB6 := Lib.hid (HB5.out.trans (hb6.mono HB5.out.size))
    have HC6 := Lib.hid (HC5.out.below hb6 HC5.out.lt)
    have HO4 := Lib.hid (hown4.mono HB5.out.size)
    obtain ⟨c0, c1', c2', c3', c4', c5', c6'⟩ := cel7N HC6.out
    have hce := (HB6.out.cell (p := ⟨nb, no + k, none⟩) (Nat.lt_of_lt_of_le hnU HUU.out)).trans HCE.out
    obtain ⟨nT, hnT⟩ : ∃ nT, nT = ([own].map sgl).length + (on + ([want].map sgl).length) := ⟨_, rfl⟩
    have hnT2 : nT ≤ 66 := by rw [hnT]; simp; omega
    rw [← hnT] at HO4 ⊢
    obtain ⟨lT, hlT⟩ : ∃ lT, lT = ([own].map sgl) ++ (ol.map sgl ++ [want].map sgl) := ⟨_, rfl⟩
    have HKT : Hid (lT ++ y.xs.flatMap (fun s => s.pools) = sr) := by show _ = _; rw [hlT]; exact HKE.out
    rw [← hlT] at HO4
    clear hown4 hb6 HC5 HCC HKE hnT hlT
    go_wp2
    clear c0 c1' c2' c3' c4' c5' c6' hce
    go_loopw [7, 43] (fun v i wr => ∃ (j : Nat) (A5 : Option Addr) (n5 c5 : Nat), j ≤ m ∧ n5 ≤ 66 + 20 * j ∧ i = .int .i64 j ∧ v = .slice A5 n5 c5 ∧ Hid (OwnPl w.heap.size wr A5 n5 c5 (lT ++ (y.xs.take j).flatMap fun s => s.pools)) ∧ Hid (Below w.heap.size w wr)) (fun _ i _ => m - (intOf i).toNat)
    case atStart => exact ⟨0, A4, nT, c4, by omega, by omega, rfl, rfl, Lib.hid (by simpa using HO4.out), HB6.out⟩
    case round =>
      obtain ⟨j, A5, n5, c5, hj, hn5, rfl, rfl, HOW, HB⟩ := hrel
      by_cases hlt : j < m
      · obtain ⟨b, o, x, pn, rn, hyA, hbU, HA, hok, HP, HR, d0, d1, d2, d3, d4, d5, d6⟩ := atS (HSX.out.below (HB.out.mono HUU.out)) hlt
        have hjz : (j : Int) < (m : Int) := by omega
        obtain ⟨wB, hwB⟩ : ∃ wB, wB = wr.alloc (.cells (x.cs pn rn) 61) := ⟨_, rfl⟩
        have hbB : Below wr.heap.size wr wB := by rw [hwB]; exact alloc_more _ _
        have HCB := Lib.hid (show Cel wB wr.heap.size 61 (x.cs pn rn) by rw [hwB]; exact Cel.born _ _ _)
        have hpn : pn ≤ 20 := by rw [← HP.out]; exact HPN.out x (List.mem_of_getElem? HA.out)
        have hrd := hok.p.below (hbB.mono (Nat.le_trans HUU.out HB.out.size))
        have hown := HOW.out.below hbB
        have HTK := Lib.hid (take_pools HA.out lT)
        have HBB := Lib.hid (HB.out.trans (hbB.mono HB.out.size))
        have hszB := HBB.out.size
        rw [hyA]
        clear hbB HOW hok HP HR
        go_upto_region 9 with fail
        rw [← hwB]
        clear hwB d0 d1 d2 d3 d4 d5 d6
        obtain ⟨e0, e1, e2, e3, e4, e5, e6⟩ := cel7 HCB.out
        go_wp2_with (at_builtin; refine wpList_appG plP (by decide) (by decide) (by kernel_rfl) rfl (.tmp 47) (.tmp 49) rfl rfl hown rfl hrd (by omega) hszB ?_; intro A6 c6 w9 happ)
        go_roundw
        case rel => exact ⟨j + 1, A6, n5 + pn, c6, by omega, by omega, by go_num, rfl, by rw [HTK.out]; exact happ.1, HBB.out.trans happ.2.1⟩
        case measure => simp [intOf]; omega
      · obtain rfl : j = m := by omega
        have HT : Hid (y.xs.take j = y.xs) := List.take_of_length_le (by rw [HSX.out.len]; exact Nat.le_refl _)
        have hjz : ¬ (j : Int) < (j : Int) := by omega
        rw [HT.out, HKT.out] at HOW
        clear hlt
        go_wp2
        go_ret
        exact ⟨A5, n5, c5, rfl, HOW.out, HB.out⟩
  | false =>
    go_enter Tryz.func31, Tryz.ntmps31
    go_upto_region 1 with fail
    rw [← hw0]
    clear hw0
    obtain ⟨c0, c1, c2, c3, c4, c5, c6⟩ := cel7N HC0.out
    go_wp2_with fail
    refine (HK.out _ HB0.out).mono ?_
    rintro e w1 ⟨rfl, hb1⟩
    have HB1 := Lib.hid (HB0.out.trans (hb1.mono HB0.out.size))
    have HC1 := Lib.hid (HC0.out.below hb1 HC0.out.lt)
    clear c0 c1 c2 c3 c4 c5 c6 HC0 HK hb1
    have HB2 := HB1
    have HC2 := HC1
    have HR1 : Hid (RdPl w1.heap.size w1 none 0 0 []) := RdG.nil _ _
    clear HC1
    go_wp2_with fail
    refine (HO.out _ HB2.out).mono ?_
    rintro e w3 ⟨A2, c2, rfl, hown2, hb3⟩
    have HB3 := Lib.hid (HB2.out.trans (hb3.mono HB2.out.size))
    have HC3 := Lib.hid (HC2.out.below hb3 HC2.out.lt)
    have HR13 := Lib.hid ((HR1.out.below hb3).mono hb3.size)
    have HR2 := Lib.hid hown2.rd
    have hba3 : Below w3.heap.size w3 (w3.alloc (.cells #[.int .i64 want] 3)) := alloc_more _ _
    clear hown2 hb3 HR1 HC2
    go_wp2_with fail
    refine (HS1.out want w3).mono ?_
    rintro e w4 ⟨A3, c3, rfl, hown3, hb4⟩
    have hbb4 := hba3.trans (hb4.mono hba3.size)
    have HB4 := Lib.hid (HB3.out.trans (hbb4.mono HB3.out.size))
    have HC4 := Lib.hid (HC3.out.below hbb4 HC3.out.lt)
    have hr1 := ((HR13.out.below hbb4).mono hbb4.size)
    have hr2 := ((HR2.out.below hbb4).mono hbb4.size)
    have hr3 := hown3.rd
    obtain ⟨w5, hw5⟩ : ∃ w5, w5 = w4.alloc (.cells #[.slice none 0 0, .slice A2 on c2, .slice A3 1 c3] 53) := ⟨_, rfl⟩
    have hb5 : Below w4.heap.size w4 w5 := by rw [hw5]; exact alloc_more _ _
    have hc5 : Cel w5 w4.heap.size 53 #[.slice none 0 0, .slice A2 on c2, .slice A3 1 c3] := by rw [hw5]; exact Cel.born _ _ _
    have hpt := parts3 hc5 ((hr1.below hb5).mono hb5.size) ((hr2.below hb5).mono hb5.size) ((hr3.below hb5).mono hb5.size)
    have htt := hr2.len
    have HCC := Lib.hid (concatQ_any w4.heap.size 0 3 3 _ w5 hpt rfl (by omega) (by omega) (by rw [tot3]; simp only [List.length_map, List.length_cons, List.length_nil]; rw [HOL.out]; omega))
    have HB5 := Lib.hid (HB4.out.trans (hb5.mono HB4.out.size))
    have HC5 := Lib.hid (HC4.out.below hb5 HC4.out.lt)
    have HKE := Lib.hid (HSRC.out ([] : List Pl) (by rw [HKL.out]; rfl))
    rw [cat3, tot3] at HCC
    rw [show (ol.map sgl).length = on from htt] at HCC
    clear hba3 hown3 hb4 hbb4 hr1 hr2 hr3 hc5 hpt htt HC3 HR13 HR2 hb5 HC4 HKL
    go_wp2_with fail
    rw [← hw5]
    clear hw5
    refine HCC.out.mono ?_
    rintro e w6 ⟨A4, c4, rfl, hown4, hb6⟩
    have HB6 := Lib.hid (HB5.out.trans (hb6.mono HB5.out.size))
    have HC6 := Lib.hid (HC5.out.below hb6 HC5.out.lt)
    have HO4 := Lib.hid (hown4.mono HB5.out.size)
    obtain ⟨c0, c1', c2', c3', c4', c5', c6'⟩ := cel7N HC6.out
    have hce := (HB6.out.cell (p := ⟨nb, no + k, none⟩) (Nat.lt_of_lt_of_le hnU HUU.out)).trans HCE.out
    obtain ⟨nT, hnT⟩ : ∃ nT, nT = ([] : List Pl).length + (on + ([want].map sgl).length) := ⟨_, rfl⟩
    have hnT2 : nT ≤ 66 := by rw [hnT]; simp; omega
    rw [← hnT] at HO4 ⊢
    obtain ⟨lT, hlT⟩ : ∃ lT, lT = ([] : List Pl) ++ (ol.map sgl ++ [want].map sgl) := ⟨_, rfl⟩
    have HKT : Hid (lT ++ y.xs.flatMap (fun s => s.pools) = sr) := by show _ = _; rw [hlT]; exact HKE.out
    rw [← hlT] at HO4
    clear hown4 hb6 HC5 HCC HKE hnT hlT
    go_wp2
    clear c0 c1' c2' c3' c4' c5' c6' hce
    go_loopw [7, 43] (fun v i wr => ∃ (j : Nat) (A5 : Option Addr) (n5 c5 : Nat), j ≤ m ∧ n5 ≤ 66 + 20 * j ∧ i = .int .i64 j ∧ v = .slice A5 n5 c5 ∧ Hid (OwnPl w.heap.size wr A5 n5 c5 (lT ++ (y.xs.take j).flatMap fun s => s.pools)) ∧ Hid (Below w.heap.size w wr)) (fun _ i _ => m - (intOf i).toNat)
    case atStart => exact ⟨0, A4, nT, c4, by omega, by omega, rfl, rfl, Lib.hid (by simpa using HO4.out), HB6.out⟩
    case round =>
      obtain ⟨j, A5, n5, c5, hj, hn5, rfl, rfl, HOW, HB⟩ := hrel
      by_cases hlt : j < m
      · obtain ⟨b, o, x, pn, rn, hyA, hbU, HA, hok, HP, HR, d0, d1, d2, d3, d4, d5, d6⟩ := atS (HSX.out.below (HB.out.mono HUU.out)) hlt
        have hjz : (j : Int) < (m : Int) := by omega
        obtain ⟨wB, hwB⟩ : ∃ wB, wB = wr.alloc (.cells (x.cs pn rn) 61) := ⟨_, rfl⟩
        have hbB : Below wr.heap.size wr wB := by rw [hwB]; exact alloc_more _ _
        have HCB := Lib.hid (show Cel wB wr.heap.size 61 (x.cs pn rn) by rw [hwB]; exact Cel.born _ _ _)
        have hpn : pn ≤ 20 := by rw [← HP.out]; exact HPN.out x (List.mem_of_getElem? HA.out)
        have hrd := hok.p.below (hbB.mono (Nat.le_trans HUU.out HB.out.size))
        have hown := HOW.out.below hbB
        have HTK := Lib.hid (take_pools HA.out lT)
        have HBB := Lib.hid (HB.out.trans (hbB.mono HB.out.size))
        have hszB := HBB.out.size
        rw [hyA]
        clear hbB HOW hok HP HR
        go_upto_region 9 with fail
        rw [← hwB]
        clear hwB d0 d1 d2 d3 d4 d5 d6
        obtain ⟨e0, e1, e2, e3, e4, e5, e6⟩ := cel7 HCB.out
        go_wp2_with (at_builtin; refine wpList_appG plP (by decide) (by decide) (by kernel_rfl) rfl (.tmp 47) (.tmp 49) rfl rfl hown rfl hrd (by omega) hszB ?_; intro A6 c6 w9 happ)
        go_roundw
        case rel => exact ⟨j + 1, A6, n5 + pn, c6, by omega, by omega, by go_num, rfl, by rw [HTK.out]; exact happ.1, HBB.out.trans happ.2.1⟩
        case measure => simp [intOf]; omega
      · obtain rfl : j = m := by omega
        have HT : Hid (y.xs.take j = y.xs) := List.take_of_length_le (by rw [HSX.out.len]; exact Nat.le_refl _)
        have hjz : ¬ (j : Int) < (j : Int) := by omega
        rw [HT.out, HKT.out] at HOW
        clear hlt
        go_wp2
        go_ret
        exact ⟨A5, n5, c5, rfl, HOW.out, HB.out⟩
end Go.Proofs.YtpdjdaoclpeffaaGreat.Xw
