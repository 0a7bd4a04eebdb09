/- The walk of ConfOrder: it returns true, and what was in memory stays. Condition: the configuration reads. -/
import Derived.Test.YtoilljilndmmfaaVwLaws
import Derived.BigRegion
set_option maxRecDepth 8000
namespace Go.Proofs.Ytoilljilndmmfaa
open Go.RowKit By Cf Ad Ky Vw
open Dw (ba ba_size ba_data ba_list alloc_more)

theorem Vw.netP : RgP Try.prog 22 41 layN (.agg #[.slice none 0 0]) 24 := ⟨Try.underlying22, by kernel_rfl⟩
def Vw.nv (y : Nx) : Value := .slice y.A y.xs.length y.c
theorem Vw.cells_nv : ∀ ns : List Nx, layN.cells ns = ns.map nv
  | [] => rfl
  | y :: ns => by
    have e : layN.cells (y :: ns) = layN.cs y ++ layN.cells ns := by simp [Lay.cells]
    rw [e, Vw.cells_nv ns]
    rfl
theorem Vw.own_nets {e B n c : Nat} {w : World} {A : Option Addr} {ns : List Nx} (h : OwnG layN e B w A n c ns) (hn : 0 < n) : ∃ g, A = some ⟨g, 0, none⟩ ∧ B ≤ g ∧ g < w.heap.size ∧ (∃ cur, Cel w g e cur) ∧ ∀ i y, ns[i]? = some y → w.cell? ⟨g, i, none⟩ = some (nv y) := by
  rcases h.1.2 with ⟨_, h0⟩ | ⟨g, cap, cur, e1, hB, hg, hnc, hcm, hsz, htk⟩
  · omega
  · simp only [Value.slice.injEq, true_and] at e1
    obtain ⟨rfl, rfl⟩ := e1
    have hc : Cel w g e cur := hg
    refine ⟨g, rfl, hB, hc.lt, ⟨cur, hc⟩, fun i y hy => ?_⟩
    have hi : i < n := by rw [← h.2]; exact (List.getElem?_eq_some_iff.1 hy).1
    have hsz1 : cur.size = c * 1 := hsz
    have htk1 : cur.toList.take (n * 1) = layN.cells ns := htk
    rw [hc.cell]
    have h1 : (cur.toList.take (n * 1))[i]? = some (nv y) := by rw [htk1, Vw.cells_nv, List.getElem?_map, hy]; rfl
    rw [List.getElem?_take, if_pos (by omega), Array.getElem?_toList] at h1
    exact h1
theorem Vw.own_set {e B n c g i : Nat} {w : World} {ns : List Nx} (h : OwnG layN e B w (some ⟨g, 0, none⟩) n c ns) (y : Nx) : OwnG layN e B (w.setCell ⟨g, i, none⟩ (nv y)) (some ⟨g, 0, none⟩) n c (ns.set i y) := by
  refine ⟨⟨?_, ?_⟩, by rw [List.length_set]; exact h.2⟩
  · have := h.1.1
    rw [Vw.cells_nv, List.length_map] at this ⊢
    rw [List.length_set]
    exact this
  · rcases h.1.2 with ⟨e1, _⟩ | ⟨g', cap, cur, e1, hB, hg, hnc, hcm, hsz, htk⟩
    · simp at e1
    · simp only [Value.slice.injEq, true_and] at e1
      obtain ⟨e1, rfl⟩ := e1
      injection e1 with e1
      injection e1 with e1
      subst e1
      have hc : Cel w g e cur := hg
      refine .inr ⟨g, c, cur.setIfInBounds i (nv y), rfl, hB, celPut1 hc i _, hnc, hcm, by rw [Array.size_setIfInBounds]; exact hsz, ?_⟩
      rw [Array.toList_setIfInBounds, List.take_set, htk, Vw.cells_nv, Vw.cells_nv, List.map_set]
theorem Vw.nets_swap {ns : List Nx} {i k : Nat} {y z : Nx} (hi : ns[i]? = some y) (hk : ns[k]? = some z) : netsOf ((ns.set i z).set k y) = swapL (netsOf ns) i k := by
  unfold netsOf swapL
  rw [List.map_set, List.map_set]
  simp only [List.getD_eq_getElem?_getD, List.getElem?_map, hi, hk]
  rfl
set_option maxHeartbeats 40000000 in
theorem confOrder_walk (x : Cx) (i k : Int) (w : World) (h : x.ok w.heap.size w) : Calls Try.prog 7 #[x.v, .int .i64 i, .int .i64 k] w (isTrue w) := by
  obtain ⟨w0, hw0, hc0, hb0⟩ := boxedC w x
  have hz : w0.heap.size = w.heap.size + 1 := by rw [hw0]; simp
  have HG := Lib.hid (great_any x w.heap.size w0 (h.below hb0) (by omega))
  have HOK : Hid (∀ W, Below w0.heap.size w0 W → x.ok w.heap.size W ∧ w.heap.size ≤ W.heap.size) := fun W hW => ⟨(h.below hb0).below (hW.mono (by omega)), by have := hW.size; omega⟩
  have HCE : Hid (∀ W, Below w0.heap.size w0 W → W.cell? ⟨w.heap.size, 0, none⟩ = some (.int .i64 x.server) ∧ W.cell? ⟨w.heap.size, 1, none⟩ = some (.int .i64 x.prob) ∧ W.cell? ⟨w.heap.size, 2, none⟩ = some (.slice x.A x.n x.c)) := fun W hW => cel3C (hc0.below hW hc0.lt)
  have HB := Lib.hid hb0
  have HZ := Lib.hid hz
  have hlen := h.len
  have hcap := h.rd.cap
  have hmax := h.rd.max
  have hnets := h.nets
  clear h hc0 hb0 hz
  cases hg : greatC x.cf with
  | true =>
    rw [hg] at HG
    clear hg
    go_enter Try.func7, Try.ntmps7
    go_wp2_with fail
    rw [← hw0]
    clear hw0
    refine HG.out.mono ?_
    rintro e w1 ⟨rfl, hb1⟩
    go_wp2_with fail
    refine (knows_yes _).mono ?_
    rintro e wz ⟨rfl, hbz⟩
    go_wp2
    go_ret
    exact ⟨rfl, HB.out.trans ((hb1.trans (hbz.mono hb1.size)).mono HB.out.size)⟩
  | false =>
  have hS := small_iff.1 hg
  rw [hg] at HG
  clear hg
  by_cases g1 : i < 0
  · go_enter Try.func7, Try.ntmps7
    go_wp2_with fail
    rw [← hw0]
    clear hw0
    refine HG.out.mono ?_
    rintro e w1 ⟨rfl, hb1⟩
    obtain ⟨x0, x1, x2⟩ := HCE.out w1 hb1
    go_wp2_with fail
    refine (knows_yes _).mono ?_
    rintro e wz ⟨rfl, hbz⟩
    go_wp2
    go_ret
    exact ⟨rfl, HB.out.trans ((hb1.trans (hbz.mono hb1.size)).mono HB.out.size)⟩
  by_cases g2 : k < 0
  · go_enter Try.func7, Try.ntmps7
    go_wp2_with fail
    rw [← hw0]
    clear hw0
    refine HG.out.mono ?_
    rintro e w1 ⟨rfl, hb1⟩
    obtain ⟨x0, x1, x2⟩ := HCE.out w1 hb1
    go_wp2_with fail
    refine (knows_yes _).mono ?_
    rintro e wz ⟨rfl, hbz⟩
    go_wp2
    go_ret
    exact ⟨rfl, HB.out.trans ((hb1.trans (hbz.mono hb1.size)).mono HB.out.size)⟩
  by_cases g3 : i ≥ (x.n : Int)
  · go_enter Try.func7, Try.ntmps7
    go_wp2_with fail
    rw [← hw0]
    clear hw0
    refine HG.out.mono ?_
    rintro e w1 ⟨rfl, hb1⟩
    obtain ⟨x0, x1, x2⟩ := HCE.out w1 hb1
    go_wp2_with fail
    refine (knows_yes _).mono ?_
    rintro e wz ⟨rfl, hbz⟩
    go_wp2
    go_ret
    exact ⟨rfl, HB.out.trans ((hb1.trans (hbz.mono hb1.size)).mono HB.out.size)⟩
  by_cases g4 : k ≥ (x.n : Int)
  · go_enter Try.func7, Try.ntmps7
    go_wp2_with fail
    rw [← hw0]
    clear hw0
    refine HG.out.mono ?_
    rintro e w1 ⟨rfl, hb1⟩
    obtain ⟨x0, x1, x2⟩ := HCE.out w1 hb1
    go_wp2_with fail
    refine (knows_yes _).mono ?_
    rintro e wz ⟨rfl, hbz⟩
    go_wp2
    go_ret
    exact ⟨rfl, HB.out.trans ((hb1.trans (hbz.mono hb1.size)).mono HB.out.size)⟩
  obtain ⟨ii, hii⟩ : ∃ ii : Nat, i = (ii : Int) := ⟨i.toNat, by omega⟩
  obtain ⟨kk, hkk⟩ : ∃ kk : Nat, k = (kk : Int) := ⟨k.toNat, by omega⟩
  subst hii hkk
  have hi : ii < x.n := by omega
  have hk : kk < x.n := by omega
  have hn10 := small_n (HOK.out w0 (Below.refl _ _)).1 hS
  obtain ⟨y, hy⟩ : ∃ y, x.ns[ii]? = some y := ⟨_, List.getElem?_eq_getElem (by omega)⟩
  obtain ⟨z, hz⟩ : ∃ z, x.ns[kk]? = some z := ⟨_, List.getElem?_eq_getElem (by omega)⟩
  have HY := Lib.hid hy
  have HZ2 := Lib.hid hz
  have HSM := Lib.hid hS
  have HI := Lib.hid hi
  have HK := Lib.hid hk
  have HN := Lib.hid hnets
  clear hy hz hS hi hk hnets
  go_enter Try.func7, Try.ntmps7
  go_wp2_with fail
  rw [← hw0]
  clear hw0
  refine HG.out.mono ?_
  rintro e w1 ⟨rfl, hb1⟩
  obtain ⟨x0, x1, x2⟩ := HCE.out w1 hb1
  have HB1 := Lib.hid hb1
  clear hb1
  obtain ⟨w2, hw2⟩ : ∃ w2, w2 = w1.alloc (.cells x.cs 24) := ⟨_, rfl⟩
  have hb2 : Below w1.heap.size w1 w2 := by rw [hw2]; exact alloc_more _ _
  have hc2 : Cel w2 w1.heap.size 24 x.cs := by rw [hw2]; exact Cel.born _ _ _
  have HC2 := Lib.hid hc2
  have HLT : Hid (w1.heap.size < w2.heap.size) := hc2.lt
  have HB2 := Lib.hid (HB1.out.trans (hb2.mono HB1.out.size))
  have HS1 := Lib.hid HB1.out.size
  clear hb2 hc2
  go_upto_region 4 with fail
  rw [← hw2]
  clear hw2 x0 x1 x2
  generalize w1.heap.size = gd at HC2 HLT HS1 ⊢
  obtain ⟨x0, x1, x2⟩ := HCE.out w2 HB2.out
  obtain ⟨d0, d1, d2⟩ := cel3C HC2.out
  have hE0 : OwnG layN 41 w2.heap.size (w2.alloc (.cells #[] 41)) (some ⟨w2.heap.size, 0, none⟩) 0 0 [] := OwnG.lit (Y := layN) 41 w2 [] (by simp)
  have hba : Below w2.heap.size w2 (w2.alloc (.cells #[] 41)) := alloc_more _ _
  have HBA := Lib.hid (HB2.out.trans (hba.mono HB2.out.size))
  have hrd := (HOK.out _ HBA.out).1.rd.1
  have xa : (w2.alloc (.cells #[] 41)).cell? ⟨w.heap.size, 2, none⟩ = some (.slice x.A x.n x.c) := (HCE.out _ HBA.out).2.2
  have HDA := Lib.hid (HC2.out.below hba HLT.out)
  have HBAA := Lib.hid hba
  clear hba
  go_upto_region 5 with (at_builtin; refine wpList_appG netP (by decide) (by decide) (by kernel_rfl) ?_ (.tmp 34) (.tmp 36) ?_ ?_ hE0 ?_ hrd (by omega) (by simp) ?_; rfl; rfl; rfl; rfl; intro A3 c3 w3 happ; obtain ⟨e0, e1, e2⟩ := cel3C (HDA.out.below happ.2.1 HLT.out); have fe := celFr1 (HDA.out.below happ.2.1 HLT.out) 2)
  obtain ⟨g, rfl, hgB, hgl, ⟨cur, hcur⟩, hcl⟩ := own_nets happ.1 (by have := HI.out; omega)
  obtain ⟨w4, hw4⟩ : ∃ w4, w4 = w3.setCell ⟨gd, 2, none⟩ (.slice (some ⟨g, 0, none⟩) (0 + x.n) c3) := ⟨_, rfl⟩
  have hlt := HLT.out
  have hgd : g ≠ gd := by omega
  have hcur4 : Cel w4 g 41 cur := by rw [hw4]; exact celFar1 hcur 2 _ hgd
  have hcd4 : Cel w4 gd 24 #[.int .i64 x.server, .int .i64 x.prob, .slice (some ⟨g, 0, none⟩) (0 + x.n) c3] := by rw [hw4]; exact celPut1 (HDA.out.below happ.2.1 HLT.out) 2 _
  have hown4 : OwnG layN 41 w2.heap.size w4 (some ⟨g, 0, none⟩) (0 + x.n) c3 ([] ++ x.ns) := by
    rw [hw4]
    refine ⟨World.ownsRow.kept happ.1.1 (grownSet w3 gd 2 _) (.inr fun e => ?_), happ.1.2⟩
    simp [Value.ownBlock] at e
    omega
  have hb4 : Below w0.heap.size w0 w4 := by
    rw [hw4]
    have := (HBA.out.trans (happ.2.1.mono HB2.out.size))
    exact this.setCell (p := ⟨gd, 2, none⟩) HS1.out _
  have hfi := celFr1 hcur4 ii
  have hfk := celFr1 hcur4 kk
  have hci : w4.cell? ⟨g, ii, none⟩ = some (.slice y.A y.xs.length y.c) := by
    rw [hw4]
    show (w3.setCell _ _).cell? _ = _
    have := hcl ii y HY.out
    unfold nv at this
    rw [← this]
    simp only [World.cell?]
    rw [Below.heap_setCell w3 ⟨gd, 2, none⟩ _ g hgd]
  have hck : w4.cell? ⟨g, kk, none⟩ = some (.slice z.A z.xs.length z.c) := by
    rw [hw4]
    show (w3.setCell _ _).cell? _ = _
    have := hcl kk z HZ2.out
    unfold nv at this
    rw [← this]
    simp only [World.cell?]
    rw [Below.heap_setCell w3 ⟨gd, 2, none⟩ _ g hgd]
  obtain ⟨d0, d1, d2⟩ := celC hcd4
  rw [Nat.zero_add] at d2
  have HO4 := Lib.hid hown4
  have HB4 := Lib.hid hb4
  have HCD4 := Lib.hid hcd4
  have hiz : (ii : Int) < (x.n : Int) := by have := HI.out; omega
  have hkz : (kk : Int) < (x.n : Int) := by have := HK.out; omega
  try rw [Nat.zero_add] at hw4
  try rw [← hw4]
  clear hw4 happ hcl hcur hown4 hb4 hcd4 hlt hgl e0 e1 e2 fe xa hrd x0 x1 x2 hE0
  obtain ⟨yA, yc, yxs⟩ := y
  obtain ⟨zA, zc, zxs⟩ := z
  obtain ⟨ym, hym⟩ : ∃ ym, ym = yxs.length := ⟨_, rfl⟩
  obtain ⟨zm, hzm⟩ : ∃ zm, zm = zxs.length := ⟨_, rfl⟩
  simp only at hci hck
  rw [← hym] at hci
  rw [← hzm] at hck
  have d2s : (w4.setCell ⟨g, ii, none⟩ (.slice zA zm zc)).cell? ⟨gd, 2, none⟩ = some (.slice (some ⟨g, 0, none⟩) x.n c3) := by
    rw [← d2]
    simp only [World.cell?]
    rw [Below.heap_setCell w4 ⟨g, ii, none⟩ _ gd (fun e => hgd e.symm)]
  have hfs : (w4.setCell ⟨g, ii, none⟩ (.slice zA zm zc)).frozen? ⟨g, kk, none⟩ = false := celFr1 (celPut1 hcur4 ii _) kk
  obtain ⟨q, hq⟩ : ∃ q, (w4.setCell ⟨g, ii, none⟩ (.slice zA zm zc)).cell? ⟨g, kk, none⟩ = some q := by
    have h1 := own_set (i := ii) HO4.out ⟨zA, zc, zxs⟩
    obtain ⟨g', e, _, _, _, hcl⟩ := own_nets h1 (by have := HI.out; omega)
    injection e with e
    injection e with e
    subst e
    have hkl : kk < (([] ++ x.ns).set ii ⟨zA, zc, zxs⟩).length := by rw [List.length_set]; have := HK.out; simp; omega
    have := hcl kk _ (List.getElem?_eq_getElem hkl)
    exact ⟨_, by rw [hzm]; exact this⟩
  have HYM := Lib.hid hym
  have HZM := Lib.hid hzm
  clear hym hzm hcur4
  go_region
  obtain ⟨w6, hw6⟩ : ∃ w6, w6 = ((w4.setCell ⟨g, ii, none⟩ (.slice zA zm zc)).setCell ⟨g, kk, none⟩ (.slice yA ym yc)).drew := ⟨_, rfl⟩
  have hle : w0.heap.size ≤ g := by have := HB2.out.size; omega
  have hb6 : Below w0.heap.size w0 w6 := by
    rw [hw6]
    exact ((HB4.out.setCell (p := ⟨g, ii, none⟩) hle _).setCell (p := ⟨g, kk, none⟩) hle _).drew
  have hcd6 : Cel w6 gd 24 #[.int .i64 x.server, .int .i64 x.prob, .slice (some ⟨g, 0, none⟩) x.n c3] := by
    have := celFar1 (celFar1 HCD4.out ii (.slice zA zm zc) (fun e => hgd e.symm)) kk (.slice yA ym yc) (fun e => hgd e.symm)
    rw [Nat.zero_add] at this
    rw [hw6]
    exact this
  have hown6 : OwnG layN 41 w2.heap.size w6 (some ⟨g, 0, none⟩) x.n c3 ((x.ns.set ii ⟨zA, zc, zxs⟩).set kk ⟨yA, yc, yxs⟩) := by
    have := own_set (i := kk) (own_set (i := ii) HO4.out ⟨zA, zc, zxs⟩) ⟨yA, yc, yxs⟩
    rw [Nat.zero_add, List.nil_append] at this
    rw [hw6, HYM.out, HZM.out]
    exact this
  have hok6 := HOK.out w6 hb6
  obtain ⟨xd, hxd⟩ : ∃ xd : Cx, xd = ⟨x.server, x.prob, some ⟨g, 0, none⟩, x.n, c3, (x.ns.set ii ⟨zA, zc, zxs⟩).set kk ⟨yA, yc, yxs⟩⟩ := ⟨_, rfl⟩
  have hd6 : xd.ok w6.heap.size w6 := by
    rw [hxd]
    refine ⟨hown6.rd, fun t ht => ?_⟩
    have hm : t ∈ x.ns := by
      rcases List.mem_or_eq_of_mem_set ht with ht | rfl
      · rcases List.mem_or_eq_of_mem_set ht with ht | rfl
        · exact ht
        · exact List.mem_of_getElem? HZ2.out
      · exact List.mem_of_getElem? HY.out
    exact (hok6.1.rd.2 t hm).mono hok6.2
  have hcf : xd.cf = ⟨x.cf.server, x.cf.prob, swapL x.cf.nets ii kk⟩ := by
    rw [hxd]
    unfold Cx.cf
    simp only
    rw [nets_swap HY.out HZ2.out]
  have hil : ii < x.cf.nets.length := by rw [HN.out]; exact HI.out
  have hkl : kk < x.cf.nets.length := by rw [HN.out]; exact HK.out
  have hchk : checkC xd.cf = checkC x.cf := by rw [hcf]; exact check_swap x.cf hil hkl
  have hsd : Small xd.cf := by
    have h0 := HSM.out
    rw [hcf]
    have hm : ∀ {l : List Sn}, l ∈ swapL x.cf.nets ii kk → l ∈ x.cf.nets := fun {l} hl => (mem_swap hil hkl l).1 hl
    exact ⟨by simp only [swap_len]; exact h0.nets, fun l hl => h0.sns l (hm hl), fun l hl => h0.pools l (hm hl), fun l hl => h0.res l (hm hl), fun l hl => h0.keys l (hm hl)⟩
  have HD1 : Hid (∀ W, Below w6.heap.size w6 W → Calls Try.prog 10 #[.agg #[.int .i64 x.server, .int .i64 x.prob, .slice x.A x.n x.c]] W (isI (checkC x.cf) W)) := fun W hW => check_any x w.heap.size W (HOK.out W (hb6.trans (hW.mono hb6.size))).1 (HOK.out W (hb6.trans (hW.mono hb6.size))).2 HSM.out
  have HD2 : Hid (∀ W, Below w6.heap.size w6 W → Calls Try.prog 10 #[.agg #[.int .i64 x.server, .int .i64 x.prob, .slice (some ⟨g, 0, none⟩) x.n c3]] W (isI (checkC x.cf) W)) := fun W hW => by
    have := check_any xd w6.heap.size W (hd6.below hW) hW.size hsd
    rw [hchk, hxd] at this
    exact this
  have HKC : Hid (∀ W, Below w6.heap.size w6 W → (W.cell? ⟨w.heap.size, 0, none⟩ = some (.int .i64 x.server) ∧ W.cell? ⟨w.heap.size, 1, none⟩ = some (.int .i64 x.prob) ∧ W.cell? ⟨w.heap.size, 2, none⟩ = some (.slice x.A x.n x.c)) ∧
      (W.cell? ⟨gd, 0, none⟩ = some (.int .i64 x.server) ∧ W.cell? ⟨gd, 1, none⟩ = some (.int .i64 x.prob) ∧ W.cell? ⟨gd, 2, none⟩ = some (.slice (some ⟨g, 0, none⟩) x.n c3))) := fun W hW => ⟨HCE.out W (hb6.trans (hW.mono hb6.size)), celC (hcd6.below hW hcd6.lt)⟩
  have HB6 := Lib.hid (HB.out.trans (hb6.mono HB.out.size))
  rw [← hw6]
  generalize checkC x.cf = zz at HD1 HD2
  have hzz : (zz == zz) = true := beq_self_eq_true zz
  clear hw6 hb6 hcd6 hown6 hok6 hxd hd6 hcf hil hkl hchk hsd hle d2s hfs hq hci hck d0 d1 d2 hfi hfk HO4 HB4 HCD4 HOK HCE HSM HY HZ2 HI HK HN hgd hgB HDA HBA HBAA HB1 HB2 HC2 HLT HS1 HYM HZM hlen hcap hmax HG HZ HB
  obtain ⟨⟨x0, x1, x2⟩, ⟨d0, d1, d2⟩⟩ := HKC.out w6 (Below.refl _ _)
  go_wp2_with fail
  go_region_held3 (fun W => (W.cell? ⟨w.heap.size, 0, none⟩ = some (.int .i64 x.server) ∧ W.cell? ⟨w.heap.size, 1, none⟩ = some (.int .i64 x.prob) ∧ W.cell? ⟨w.heap.size, 2, none⟩ = some (.slice x.A x.n x.c)) ∧ (W.cell? ⟨gd, 0, none⟩ = some (.int .i64 x.server) ∧ W.cell? ⟨gd, 1, none⟩ = some (.int .i64 x.prob) ∧ W.cell? ⟨gd, 2, none⟩ = some (.slice (some ⟨g, 0, none⟩) x.n c3)))
    (first
      | exact HKC.out _ (Below.refl _ _)
      | exact HKC.out _ (Below.refl _ _).drew
      | exact HKC.out _ hbx3 | exact HKC.out _ hbx2 | exact HKC.out _ hbx1)
    (first
      | (go_simp; go_at_call 10; (with_reducible refine (HD1.out _ (Below.refl _ _).drew).mono ?_); rintro ee wu1 ⟨rfl, hbu1⟩; have hbx1 : Below w6.heap.size w6 wu1 := below_undrew hbu1)
      | (go_simp; go_at_call 10; (with_reducible refine (HD2.out _ hbx1).mono ?_); rintro ee wu2 ⟨rfl, hbu2⟩; have hbx2 : Below w6.heap.size w6 wu2 := hbx1.trans (hbu2.mono hbx1.size))
      | (go_simp; go_at_call 9; (with_reducible refine (knows_yes _).mono ?_); rintro ee wu3 ⟨rfl, hbu3⟩; have hbx3 : Below w6.heap.size w6 wu3 := hbx2.trans (hbu3.mono hbx2.size)))
  all_goals (
    go_wp2
    go_ret
    exact ⟨rfl, HB6.out.trans (hbx3.mono HB6.out.size)⟩)
end Go.Proofs.Ytoilljilndmmfaa
