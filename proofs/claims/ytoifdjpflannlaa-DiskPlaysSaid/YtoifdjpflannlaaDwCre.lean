/- What disk's withFile and created come to. For disks of up to 1000 entries. -/
import Derived.Test.YtoifdjpflannlaaDwIns
set_option maxRecDepth 8000
namespace Go.Proofs.Ytoifdjpflannlaa.Dw
open Go.RowKit By Dk

/-! ### Memory: a file stored -/
theorem cellsF_cons (e : Fv) (l : List Fv) : layF.cells (e :: l) = .slice e.A e.l.length e.c :: .int .i64 e.s :: layF.cells l := by simp [Lay.cells, layF]
theorem cellsF_put (l : List Fv) (i : Nat) (h : i < l.length) (q : Fv) : ((layF.cells l).set (i * 2) (.slice q.A q.l.length q.c)).set (i * 2 + 1) (.int .i64 q.s) = layF.cells (l.set i q) := by
  induction l generalizing i with
  | nil => cases h
  | cons p l ih =>
    match i with
    | 0 => simp [cellsF_cons]
    | i + 1 =>
      rw [cellsF_cons, show (i + 1) * 2 = i * 2 + 2 by omega, show (i * 2 + 2) + 1 = (i * 2 + 1) + 2 by omega]
      simp only [List.set_cons_succ]
      rw [cellsF_cons, ih i (by simpa using h)]
theorem putF {e B g n c : Nat} {w : World} {l : List Fv} (h : OwnG layF e B w (some ⟨g, 0, none⟩) n c l) {i : Nat} (hi : i < l.length) (q : Fv) :
    OwnG layF e B ((w.setCell ⟨g, i * 2, none⟩ (.slice q.A q.l.length q.c)).setCell ⟨g, i * 2 + 1, none⟩ (.int .i64 q.s)) (some ⟨g, 0, none⟩) n c (l.set i q) := by
  have h1 := (World.ownsRow.stored h.1 (i * 2) (.slice q.A q.l.length q.c)).1
  have h2 := (World.ownsRow.stored h1 (i * 2 + 1) (.int .i64 q.s)).1
  refine ⟨?_, by rw [List.length_set]; exact h.2⟩
  rw [← cellsF_put l i hi q]
  exact h2
theorem atOF {e B g n c : Nat} {w : World} {l : List Fv} (h : OwnG layF e B w (some ⟨g, 0, none⟩) n c l) {k : Nat} (hk : k < n) : ∃ v, l[k]? = some v ∧ w.cell? ⟨g, k * 2, none⟩ = some (.slice v.A v.l.length v.c) ∧ w.cell? ⟨g, k * 2 + 1, none⟩ = some (.int .i64 v.s) := by
  obtain ⟨b, o, e1, _, x, hx, hc⟩ := h.rd.at_ hk
  simp only [Option.some.injEq, Addr.mk.injEq, and_true] at e1
  obtain ⟨rfl, rfl⟩ := e1
  have c1 := hc 0 _ rfl
  have c2 := hc 1 _ rfl
  rw [Nat.zero_add] at c1 c2
  exact ⟨x, hx.out, c1, c2⟩
theorem fs_set (xs : List Fv) (k : Nat) (v : Fv) : fsOf (xs.set k v) = (fsOf xs).set k v.f := by unfold fsOf; rw [List.map_set]
theorem mem_set {xs : List Fv} {k : Nat} {v u : Fv} (h : u ∈ xs.set k v) : u ∈ xs ∨ u = v := List.mem_or_eq_of_mem_set h
theorem cel_far {w : World} {g g' : Nat} {t : TypeId} {cs : Array Value} (h : Cel w g t cs) (hne : g ≠ g') (j : Nat) (v : Value) : Cel (w.setCell ⟨g', j, none⟩ v) g t cs := (Below.heap_setCell w ⟨g', j, none⟩ v g hne).trans h
theorem cel2 {w : World} {g : Nat} {t : TypeId} {a b : Value} (h : Cel w g t #[a, b]) : w.cell? ⟨g, 0, none⟩ = some a ∧ w.cell? ⟨g, 1, none⟩ = some b := ⟨by rw [h.cell]; rfl, by rw [h.cell]; rfl⟩

set_option maxHeartbeats 2000000 in
theorem withFile_any (x : Dv) (k : Nat) (v : Fv) (w : World) (h : RdD w.heap.size w x) (hv : BsU w.heap.size w v.A v.l.length v.c v.l) (hk : k < x.fn) (hin : ∀ f ∈ cameD x.d, 0 ≤ f ∧ f < (x.fn : Int)) (hn : x.now.length + x.kept.length ≤ 1000) (hfn : x.fn ≤ 1000) (hby : ∀ u ∈ x.xs, u.l.length ≤ 1000000) (hvl : v.l.length ≤ 1000000) :
    Calls Try.prog 55 #[x.v, .int .i64 (k : Int), .agg #[.slice v.A v.l.length v.c, .int .i64 v.s]] w (DO w (orderedD (setD x.d (k : Int) v.f))) := by
  obtain ⟨w1, hw1⟩ : ∃ w1, w1 = ((w.alloc (.cells x.cs 25)).alloc (.cells #[.slice v.A v.l.length v.c, .int .i64 v.s] 58)).alloc (.cells #[.slice none 0 0, .slice none 0 0, .slice none 0 0] 25) := ⟨_, rfl⟩
  have hb1 : Below w.heap.size w w1 := by rw [hw1]; exact (((Below.refl _ _).alloc (Nat.le_refl _) _).alloc (by simp) _).alloc (by simp; omega) _
  have hs1 : w1.heap.size = w.heap.size + 3 := by rw [hw1]; simp
  have hc0 : Cel w1 w.heap.size 25 x.cs := by rw [hw1]; exact (Cel.born w _ _).below (((Below.refl _ _).alloc (Nat.le_refl _) _).alloc (by simp) _) (by simp)
  have hc1 : Cel w1 (w.heap.size + 1) 58 #[.slice v.A v.l.length v.c, .int .i64 v.s] := by
    rw [hw1]
    have := Cel.born (w.alloc (.cells x.cs 25)) 58 #[.slice v.A v.l.length v.c, .int .i64 v.s]
    have h2 := this.below ((Below.refl _ _).alloc (Nat.le_refl _) (.cells #[.slice none 0 0, .slice none 0 0, .slice none 0 0] 25)) this.lt
    simpa using h2
  have hc2 : Cel w1 (w.heap.size + 2) 25 #[.slice none 0 0, .slice none 0 0, .slice none 0 0] := by
    rw [hw1]
    have := Cel.born ((w.alloc (.cells x.cs 25)).alloc (.cells #[.slice v.A v.l.length v.c, .int .i64 v.s] 58)) 25 #[.slice none 0 0, .slice none 0 0, .slice none 0 0]
    simpa using this
  have HCL := Lib.hid (cloneF_any w.heap.size x.fA x.fn x.fc x.xs w1 (h.f.1.below hb1) hb1.size (by omega))
  have r0 : w1.cell? ⟨w.heap.size, 0, none⟩ = some (.slice x.fA x.fn x.fc) := (cel3 hc0).1
  have HR := Lib.hid h
  have HV := Lib.hid hv
  have HIN := Lib.hid hin
  have HBY := Lib.hid hby
  have HB1 := Lib.hid hb1
  have HC0 := Lib.hid hc0
  have HC1 := Lib.hid hc1
  have HC2 := Lib.hid hc2
  clear h hv hin hby hb1 hc0 hc1 hc2
  go_enter Try.func55, Try.ntmps55
  go_wp2_with fail
  rw [← hw1]
  clear hw1
  refine HCL.out.mono ?_
  rintro e w2 ⟨A2, c2, rfl, hown, hb2⟩
  obtain ⟨g, rfl, hgB, hglt⟩ := headG hown (by omega)
  have hl2 := hown.2
  obtain ⟨u, hu, d1, d2⟩ := atOF hown hk
  have hk0 := HC0.out.below hb2 HC0.out.lt
  have hk1 := HC1.out.below hb2 HC1.out.lt
  have hk2 := HC2.out.below hb2 HC2.out.lt
  obtain ⟨q0, q1, q2⟩ := cel3 hk0
  obtain ⟨p0, p1⟩ := cel2 hk1
  have f0 := cel_fr hk0 0
  have f3 : w2.frozen? ⟨g, k * 2, none⟩ = false := World.ownsRow.frozenAt hown.1 _
  have f4 : w2.frozen? ⟨g, k * 2 + 1, none⟩ = false := World.ownsRow.frozenAt hown.1 _
  have hne1 : g ≠ w.heap.size := by omega
  have hne2 : g ≠ w.heap.size + 1 := by omega
  have hne3 : w.heap.size ≠ g := by omega
  have hne4 : w.heap.size + 1 ≠ g := by omega
  have hx : (0 : Int) ≤ (k : Int) ∧ (k : Int) < (x.fn : Int) := by omega
  obtain ⟨hx1, hx2⟩ := hx
  have hfc := hown.rd.cap
  have hfm := hown.rd.max
  -- the world ahead of normalize
  obtain ⟨w4, hw4⟩ : ∃ w4, w4 = ((w2.setCell ⟨w.heap.size, 0, none⟩ (.slice (some ⟨g, 0, none⟩) x.fn c2)).setCell ⟨g, k * 2, none⟩ (.slice v.A v.l.length v.c)).setCell ⟨g, k * 2 + 1, none⟩ (.int .i64 v.s) := ⟨_, rfl⟩
  have HB2 := Lib.hid hb2
  have hown3 : OwnG layF 58 w1.heap.size (w2.setCell ⟨w.heap.size, 0, none⟩ (.slice (some ⟨g, 0, none⟩) x.fn c2)) (some ⟨g, 0, none⟩) x.fn c2 x.xs := hown.away hk0 (by decide) (grown_set _ _ _ _)
  have hown4 : OwnG layF 58 w1.heap.size w4 (some ⟨g, 0, none⟩) x.fn c2 (x.xs.set k v) := by rw [hw4]; exact putF hown3 (by omega) v
  have hb4 : Below w.heap.size w w4 := by
    rw [hw4]
    exact (((HB1.out.trans (hb2.mono HB1.out.size)).setCell (p := ⟨w.heap.size, 0, none⟩) (Nat.le_refl _) _).setCell (p := ⟨g, k * 2, none⟩) (by show w.heap.size ≤ g; omega) _).setCell (p := ⟨g, k * 2 + 1, none⟩) (by show w.heap.size ≤ g; omega) _
  have hc4 : Cel w4 (w.heap.size + 2) 25 #[.slice none 0 0, .slice none 0 0, .slice none 0 0] := by
    rw [hw4]
    exact cel_far (cel_far (cel_far hk2 (by omega) _ _) (by omega) _ _) (by omega) _ _
  have hbyt : Byt w4.heap.size w4 (x.xs.set k v) := fun u hu => by
    rcases mem_set hu with hu | rfl
    · exact bsu_mono ((HR.out.f.2 u hu).below hb4) hb4.size
    · exact bsu_mono (HV.out.below hb4) hb4.size
  have hr4 : RdD w4.heap.size w4 ⟨some ⟨g, 0, none⟩, x.fn, c2, x.xs.set k v, x.nA, x.nn, x.nc, x.now, x.kA, x.kn, x.kc, x.kept⟩ := ⟨⟨hown4.rd, hbyt⟩, (HR.out.n.below hb4).mono hb4.size, (HR.out.k.below hb4).mono hb4.size⟩
  have HNO := Lib.hid (normalize_any ⟨some ⟨g, 0, none⟩, x.fn, c2, x.xs.set k v, x.nA, x.nn, x.nc, x.now, x.kA, x.kn, x.kc, x.kept⟩ w4 hr4 HIN.out hn (fun u hu => by
    rcases mem_set hu with hu | rfl
    · exact HBY.out u hu
    · exact hvl))
  have HD : Hid (setD x.d (k : Int) v.f = (⟨some ⟨g, 0, none⟩, x.fn, c2, x.xs.set k v, x.nA, x.nn, x.nc, x.now, x.kA, x.kn, x.kc, x.kept⟩ : Dv).d) := by
    show D.mk ((fsOf x.xs).set ((k : Int)).toNat v.f) x.now x.kept = D.mk (fsOf (x.xs.set k v)) x.now x.kept
    rw [fs_set, Int.toNat_natCast]
  have HB4 := Lib.hid hb4
  have HC4 := Lib.hid hc4
  clear hown hu hk0 hk1 hk2 hb2 hown3 hown4 hb4 hc4 hbyt hr4
  go_wp2_with fail
  rw [← hw4]
  clear hw4
  refine HNO.out.mono ?_
  rintro e w5 ⟨z, rfl, hz, hoz, hb5⟩
  have hk5 := HC4.out.below hb5 HC4.out.lt
  obtain ⟨t0, t1, t2⟩ := cel3 hk5
  have f5 := cel_fr hk5 0
  have f6 := cel_fr hk5 1
  have f7 := cel_fr hk5 2
  have HK5 := Lib.hid hk5
  have HOZ := Lib.hid hoz
  have HZ := Lib.hid hz
  have HB5 := Lib.hid (HB4.out.trans (hb5.mono HB4.out.size))
  have hs4 := HB4.out.size
  clear hk5 hoz hz hb5
  go_wp2
  (try simp only [Exit.inBlock, Exit.then])
  refine bodyPost_ret (ret_disk rfl _ _ (w.heap.size + 2) z.cs rfl (cel_put3 HK5.out) rfl) rfl ?_
  refine ⟨z, rfl, by rw [HD.out]; exact HZ.out, (HOZ.out.mono hs4).away HK5.out (grown_put3 _ _ _ _ _), below_put3 HB5.out (by omega) _ _ _⟩
end Go.Proofs.Ytoifdjpflannlaa.Dw
