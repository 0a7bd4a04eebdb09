/- What boarderlaw10's Kept comes to: the disk to which the right ones of the first ten leases were added. For all leases whose keys fit. -/
import Derived.Test.YtlefpodonkdbeaaGreatJwAdd
import Derived.Test.YtlefpodonkdbeaaGreatJwDo
import Derived.Test.YtlefpodonkdbeaaGreatJwRow
import Derived.Test.YtlefpodonkdbeaaGreatJwKnows
import Derived.Test.YtlefpodonkdbeaaGreatEwA
import Derived.Deep.RegionHeld3
set_option maxRecDepth 8000
namespace Go.Proofs.YtlefpodonkdbeaaGreat.Jw
open Go.RowKit Co By Ky Rc Dk Jn Ew
open Dw (ba ba_size ba_data ba_list Dv RdD Sm zeroV good_sm cel3 cel_frs cel_put3 below_put3 rdd_away sl3 cell_put3 alloc_more cel_far grown_put3)

/-- The right ones of the first k leases. -/
def keptK (ls : List L) (k : Nat) : List L := (ls.take k).filter rightR
def keptL (ls : List L) : List L := keptK ls 10
theorem kept_right (ls : List L) (k : Nat) : ∀ a ∈ keptK ls k, RightR a := fun _ ha => of_decide_eq_true (List.mem_filter.1 ha).2
theorem kept_len (ls : List L) (k : Nat) : (keptK ls k).length ≤ k := by
  have h1 := List.length_filter_le rightR (ls.take k)
  rw [List.length_take] at h1
  unfold keptK
  omega
theorem kept_no {ls : List L} {k : Nat} {a : L} (h : ls[k]? = some a) (hr : rightR a = false) : keptK ls (k + 1) = keptK ls k := by
  unfold keptK
  rw [Dk.take_next h, List.filter_append]
  simp [hr]
theorem kept_yes {ls : List L} {k : Nat} {a : L} (h : ls[k]? = some a) (hr : rightR a = true) : keptK ls (k + 1) = keptK ls k ++ [a] := by
  unfold keptK
  rw [Dk.take_next h, List.filter_append]
  simp [hr]
theorem kept_end {ls : List L} {n : Nat} (h : ls.length = n) (hn : n ≤ 10) : keptK ls n = keptL ls := by
  unfold keptL keptK
  rw [List.take_of_length_le (by omega), List.take_of_length_le (by omega)]
theorem kept_small {ls : List L} {k : Nat} (hk : k ≤ 10) {a : L} (hr : RightR a) : (framesJ (keptK ls k)).length ≤ 20000 ∧ (framesJ (keptK ls k ++ [a])).length ≤ 20000 := by
  have h1 := frames_small (kept_right ls k)
  have h2 := key_len hr
  have h3 := kept_len ls k
  rw [frames_snoc, List.length_append, frameL_length]
  omega

/-- The variables of the call: the answer's, and the disk. -/
structure Kp (w wr : World) (z : Dv) : Prop where
  b : Below w.heap.size w wr
  s : w.heap.size + 2 ≤ wr.heap.size
  c0 : Cel wr w.heap.size 30 #[.slice none 0 0, .slice none 0 0, .slice none 0 0]
  c1 : Cel wr (w.heap.size + 1) 30 z.cs
  r : RdD wr.heap.size wr z
theorem Kp.below {w wr w' : World} {z : Dv} (h : Kp w wr z) (hb : Below wr.heap.size wr w') : Kp w w' z :=
  ⟨h.b.trans (hb.mono h.b.size), Nat.le_trans h.s hb.size, h.c0.below hb h.c0.lt, h.c1.below hb h.c1.lt, (h.r.below hb).mono hb.size⟩
theorem Kp.start (w : World) : Kp w ((w.alloc (.cells #[.slice none 0 0, .slice none 0 0, .slice none 0 0] 30)).alloc (.cells #[.slice none 0 0, .slice none 0 0, .slice none 0 0] 30)) zeroV := by
  refine ⟨((Below.refl _ _).alloc (Nat.le_refl _) _).alloc (by simp) _, by simp, (Cel.born w _ _).below ((Below.refl _ _).alloc (Nat.le_refl _) _) (by simp), ?_, RdD.zero _ _⟩
  have := Cel.born (w.alloc (.cells #[.slice none 0 0, .slice none 0 0, .slice none 0 0] 30)) 30 #[.slice none 0 0, .slice none 0 0, .slice none 0 0]
  show Cel _ (w.heap.size + 1) _ #[.slice none 0 0, .slice none 0 0, .slice none 0 0]
  simpa using this
theorem Kp.set {w wr : World} {z y : Dv} (h : Kp w wr z) (hy : RdD wr.heap.size wr y) : Kp w (((wr.setCell ⟨w.heap.size + 1, 0, none⟩ (.slice y.fA y.fn y.fc)).setCell ⟨w.heap.size + 1, 1, none⟩ (.slice y.nA y.nn y.nc)).setCell ⟨w.heap.size + 1, 2, none⟩ (.slice y.kA y.kn y.kc)) y := by
  refine ⟨below_put3 h.b (by omega) _ _ _, by simpa using h.s, cel_far (cel_far (cel_far h.c0 (by omega) _ _) (by omega) _ _) (by omega) _ _, cel_put3 h.c1, ?_⟩
  have := rdd_away hy h.c1 sl3 (cell_put3 wr (w.heap.size + 1) (.slice y.fA y.fn y.fc) (.slice y.nA y.nn y.nc) (.slice y.kA y.kn y.kc))
  simpa using this
theorem Kp.app {w wr w' : World} {z : Dv} (h : Kp w wr z) (hb : Below (w.heap.size + 2) wr w') (hr : RdD w'.heap.size w' z) : Kp w w' z :=
  ⟨h.b.trans (hb.mono (by omega)), Nat.le_trans h.s hb.size, h.c0.below hb (by omega), h.c1.below hb (by omega), hr⟩
/-- What a store to the disk's variable leaves of the row. -/
theorem row_set {w wr : World} {z : Dv} (h : Kp w wr z) {A : Option Addr} {n c : Nat} {l : List L} (ho : OwnLs (w.heap.size + 2) wr A n c l) (hs : Spare wr A) (a b d : Value) :
    OwnLs (w.heap.size + 2) (((wr.setCell ⟨w.heap.size + 1, 0, none⟩ a).setCell ⟨w.heap.size + 1, 1, none⟩ b).setCell ⟨w.heap.size + 1, 2, none⟩ d) A n c l ∧ Spare (((wr.setCell ⟨w.heap.size + 1, 0, none⟩ a).setCell ⟨w.heap.size + 1, 1, none⟩ b).setCell ⟨w.heap.size + 1, 2, none⟩ d) A := by
  refine ⟨ho.away h.c1 (by decide) (grown_put3 _ _ _ _ _), hs.below ho fun k hk hB => ?_⟩
  exact (grown_put3 wr (w.heap.size + 1) a b d).block k hk (fun e => by injection e; omega)
theorem row_below {B : Nat} {w w' : World} {A : Option Addr} {n c : Nat} {l : List L} (ho : OwnLs B w A n c l) (hs : Spare w A) (hb : Below w.heap.size w w') : OwnLs B w' A n c l ∧ Spare w' A :=
  ⟨ho.below hb, hs.below ho fun k hk _ => hb.block k hk⟩
theorem ret_disk3 {fn : Func} {p u v : Tmp} (hres : fn.results = #[.cell p 30, .tmp u, .tmp v]) (tmps : Array Value) (w : World) (g : Nat) (cs : Array Value) (hp : tmps.getD p undef = .pointer (some ⟨g, 0, none⟩)) (hc : Cel w g 30 cs) (hs : cs.size = 3) :
    (results fn tmps).run Tryz.prog w = .ok (.tuple #[.agg cs, tmps.getD u undef, tmps.getD v undef]) w := by
  rw [results_cell_tmp2 hres, hp]
  have := run_loadVar_row (P := Tryz.prog) w g 30 30 cs (0, 0) _ hc Tryz.underlying30 rfl (by rw [hs]; kernel_rfl)
  simp [asAddr, this]
/-- What Kept answers. -/
def KpR (w : World) (ks : List L) (e : Ending) (w' : World) : Prop := ∃ (z : Dv) (A : Option Addr) (c : Nat), e = .returned (.tuple #[.agg #[.slice z.fA z.fn z.fc, .slice z.nA z.nn z.nc, .slice z.kA z.kn z.kc], .slice A ks.length c, .bool true]) ∧ z.d = diskJ ks ∧ RdD w'.heap.size w' z ∧ RdLs w'.heap.size w' A ks.length c ks ∧ Below w.heap.size w w'
theorem kp_ans {w wr : World} {z : Dv} {A : Option Addr} {c : Nat} {ks : List L} (h : Kp w wr z) (hd : z.d = diskJ ks) (ho : OwnLs (w.heap.size + 2) wr A ks.length c ks) :
    KpR w ks (.returned (.tuple #[.agg #[.slice z.fA z.fn z.fc, .slice z.nA z.nn z.nc, .slice z.kA z.kn z.kc], .slice A ks.length c, .bool true])) (((wr.setCell ⟨w.heap.size, 0, none⟩ (.slice z.fA z.fn z.fc)).setCell ⟨w.heap.size, 1, none⟩ (.slice z.nA z.nn z.nc)).setCell ⟨w.heap.size, 2, none⟩ (.slice z.kA z.kn z.kc)) := by
  refine ⟨z, A, c, rfl, hd, ?_, (ho.away h.c0 (by decide) (grown_put3 _ _ _ _ _)).rd, below_put3 h.b (Nat.le_refl _) _ _ _⟩
  have := rdd_away h.r h.c0 sl3 (cell_put3 wr w.heap.size (.slice z.fA z.fn z.fc) (.slice z.nA z.nn z.nc) (.slice z.kA z.kn z.kc))
  simpa using this
theorem changes_len (ks : List L) (a : L) : (changesJ ks a).length = 2 ∨ (changesJ ks a).length = 3 := by
  unfold changesJ
  split
  · exact .inr rfl
  · exact .inl rfl
set_option maxHeartbeats 8000000 in
theorem kept_any (A : Option Addr) (n c : Nat) (ls : List L) (w : World) (h : RdLs w.heap.size w A n c ls) (hfk : ∀ a ∈ ls, Fk a) : Calls Tryz.prog 17 #[.slice A n c] w (KpR w (keptL ls)) := by
  obtain ⟨w1, hw1⟩ : ∃ w1, w1 = (w.alloc (.cells #[.slice none 0 0, .slice none 0 0, .slice none 0 0] 30)).alloc (.cells #[.slice none 0 0, .slice none 0 0, .slice none 0 0] 30) := ⟨_, rfl⟩
  have K1 : Kp w w1 zeroV := by rw [hw1]; exact Kp.start w
  have HK1 := Lib.hid K1
  have HX := Lib.hid h
  have HF := Lib.hid hfk
  have HL := Lib.hid h.len
  have hm := h.max
  have hcap := h.cap
  clear h hfk K1
  go_enter Tryz.func17, Tryz.ntmps17
  go_wp2
  rw [← hw1]
  clear hw1
  go_loopw [6, 7] (fun v i wr => ∃ (k : Nat) (z : Dv) (A1 : Option Addr) (c1 : Nat), k ≤ n ∧ k ≤ 10 ∧ i = .int .i64 k ∧ v = .slice A1 (keptK ls k).length c1 ∧ Hid (Kp w wr z ∧ z.d = diskJ (keptK ls k) ∧ OwnLs (w.heap.size + 2) wr A1 (keptK ls k).length c1 (keptK ls k) ∧ Spare wr A1)) (fun _ i _ => n - (intOf i).toNat)
  case atStart => exact ⟨0, zeroV, none, 0, by omega, by omega, rfl, rfl, Lib.hid ⟨HK1.out, rfl, OwnG.nil _ _ _, Spare.none _⟩⟩
  case round =>
    obtain ⟨k, z, A1, c1, hk, hk10, rfl, rfl, HS⟩ := hrel
    obtain ⟨d0, d1, d2⟩ := cel3 HS.out.1.c1
    obtain ⟨q0, q1, q2⟩ := cel3 HS.out.1.c0
    obtain ⟨f0, f1, f2⟩ := cel_frs HS.out.1.c0
    by_cases hlt : k < n
    rotate_left
    · have H : Hid (keptK ls k = keptL ls) := kept_end (by rw [HL.out]; omega) hk10
      have hkz : decide ((k : Int) < (n : Int)) = false := decide_eq_false (by omega)
      go_wp2
      (try simp only [Exit.inBlock, Exit.then])
      refine bodyPost_ret (ret_disk3 rfl _ _ w.heap.size z.cs rfl (cel_put3 HS.out.1.c0) rfl) rfl ?_
      rw [← H.out]
      exact kp_ans HS.out.1 HS.out.2.1 HS.out.2.2.1
    by_cases h10 : k < 10
    rotate_left
    · obtain rfl : k = 10 := by omega
      have hkz : decide (((10 : Nat) : Int) < (n : Int)) = true := decide_eq_true (by omega)
      go_wp2
      (try simp only [Exit.inBlock, Exit.then])
      refine bodyPost_ret (ret_disk3 rfl _ _ w.heap.size z.cs rfl (cel_put3 HS.out.1.c0) rfl) rfl ?_
      exact kp_ans HS.out.1 HS.out.2.1 HS.out.2.2.1
    obtain ⟨b, o, a, rfl, hbU, HE, c0, c1', c2, c3⟩ := atL HX.out hlt
    have hfa := HF.out a (List.mem_of_getElem? HE.out)
    have HRI := Lib.hid (refRight_any a wr hfa)
    have HFA := Lib.hid hfa
    have hkz : (k : Int) < (n : Int) := by omega
    have hkz2 : (k : Int) < 10 := by omega
    have HKS := Lib.hid (show ∀ W, Below w.heap.size w W → W.cell? ⟨b, o + k * 4, none⟩ = some (.int .i64 a.addr) ∧ W.cell? ⟨b, o + k * 4 + 1, none⟩ = some (.int .i64 a.state) ∧ W.cell? ⟨b, o + k * 4 + 2, none⟩ = some (.int .i64 a.till) ∧ W.cell? ⟨b, o + k * 4 + 3, none⟩ = some (.string (ba a.key)) from fun W hW =>
      ⟨(hW.cell (p := ⟨b, o + k * 4, none⟩) hbU).trans c0, (hW.cell (p := ⟨b, o + k * 4 + 1, none⟩) hbU).trans c1', (hW.cell (p := ⟨b, o + k * 4 + 2, none⟩) hbU).trans c2, (hW.cell (p := ⟨b, o + k * 4 + 3, none⟩) hbU).trans c3⟩)
    clear c0 c1' c2 c3
    obtain ⟨c0, c1', c2, c3⟩ := HKS.out wr HS.out.1.b
    clear hfa q0 q1 q2 f0 f1 f2 d0 d1 d2
    go_wp2_with fail
    refine HRI.out.mono ?_
    rintro e w2 ⟨rfl, hb2⟩
    have HS2 := Lib.hid (HS.out.1.below hb2)
    have hro := row_below HS.out.2.2.1 HS.out.2.2.2 hb2
    have HR2 := Lib.hid hro
    have HZ := Lib.hid HS.out.2.1
    have HB2 := Lib.hid hb2
    clear HRI hro hb2 c0 c1' c2 c3
    cases hr : rightR a with
    | false =>
      have HN := Lib.hid (kept_no HE.out hr)
      clear hr HE
      go_wp2
      go_roundw
      case rel => exact ⟨k + 1, z, A1, c1, by omega, by omega, by go_num, by rw [HN.out], Lib.hid ⟨HS2.out, by rw [HN.out]; exact HZ.out, by rw [HN.out]; exact HR2.out.1, HR2.out.2⟩⟩
      case measure => simp [intOf]; omega
    | true =>
      have hra : RightR a := of_decide_eq_true hr
      have HN := Lib.hid (kept_yes HE.out hr)
      have hsm := kept_small (ls := ls) hk10 hra
      have HSM := Lib.hid hsm
      have hadd := add_disk (kept_right ls k) hra hsm.1
      have HAD : Hid (∀ W, Below w2.heap.size w2 W → Calls Tryz.prog 29 #[z.v, lv a] W (AdR W (changesJ (keptK ls k) a, 0))) := fun W hW => by
        have := addJ_any z a W ((HS2.out.r.below hW).mono hW.size) (by rw [HZ.out]; exact good_sm (disk_right hsm.1)) HFA.out
        rw [HZ.out, hadd] at this
        exact this
      have K : Hid (∀ W, Below w2.heap.size w2 W → (W.cell? ⟨w.heap.size + 1, 0, none⟩ = some (.slice z.fA z.fn z.fc) ∧ W.cell? ⟨w.heap.size + 1, 1, none⟩ = some (.slice z.nA z.nn z.nc) ∧ W.cell? ⟨w.heap.size + 1, 2, none⟩ = some (.slice z.kA z.kn z.kc)) ∧ W.cell? ⟨b, o + k * 4, none⟩ = some (.int .i64 a.addr) ∧ W.cell? ⟨b, o + k * 4 + 1, none⟩ = some (.int .i64 a.state) ∧ W.cell? ⟨b, o + k * 4 + 2, none⟩ = some (.int .i64 a.till) ∧ W.cell? ⟨b, o + k * 4 + 3, none⟩ = some (.string (ba a.key))) := fun W hW =>
        ⟨cel3 (HS2.out.c1.below hW HS2.out.c1.lt), HKS.out W (HS2.out.b.trans (hW.mono HS2.out.b.size))⟩
      have HRA := Lib.hid hra
      clear hr HE hra hsm hadd
      go_wp2_with fail
      go_region_held3 (fun W => (W.cell? ⟨w.heap.size + 1, 0, none⟩ = some (.slice z.fA z.fn z.fc) ∧ W.cell? ⟨w.heap.size + 1, 1, none⟩ = some (.slice z.nA z.nn z.nc) ∧ W.cell? ⟨w.heap.size + 1, 2, none⟩ = some (.slice z.kA z.kn z.kc)) ∧ W.cell? ⟨b, o + k * 4, none⟩ = some (.int .i64 a.addr) ∧ W.cell? ⟨b, o + k * 4 + 1, none⟩ = some (.int .i64 a.state) ∧ W.cell? ⟨b, o + k * 4 + 2, none⟩ = some (.int .i64 a.till) ∧ W.cell? ⟨b, o + k * 4 + 3, none⟩ = some (.string (ba a.key)))
        (first
          | exact K.out _ (Below.refl _ _)
          | exact K.out _ (Below.refl _ _).drew
          | exact K.out _ hbu9)
        (first
          | (go_simp; go_at_call 29; (with_reducible refine (HAD.out _ (by first | exact Below.refl _ _ | exact (Below.refl _ _).drew)).mono ?_); rintro ee wu ⟨Au, nu, cu, xs, rfl, hxu, heu, hbu⟩; have hbu9 : Below w2.heap.size w2 wu := below_undrew hbu))
      all_goals (
        have hnu : nu = (changesJ (keptK ls k) a).length := by rw [← hxu.len, ← List.length_map (f := Cv.ch), heu]
        have hn2 : 2 ≤ nu ∧ nu ≤ 3 := by rcases changes_len (keptK ls k) a with e | e <;> omega
        have hnz : ((nu : Int) == 0) = false := by simp; omega
        have hnn : ((nu : Int) != (nu : Int)) = false := by simp
        have hnn2 : (nu != nu) = false := by simp
        have hcc := hxu.1.cap
        have hcm := hxu.1.max
        have S3 := HS2.out.below hbu9
        have hr3 := row_below HR2.out.1 HR2.out.2 hbu9
        have hdo := doJ_any z Au nu cu xs nu wu S3.r (by rw [HZ.out]; exact good_sm (disk_right HSM.out.1)) hxu (kinds_of heu)
        rw [HZ.out, heu, do_all HSM.out.2 (by omega), ← hnu] at hdo
        have HDO := Lib.hid hdo
        have HS3 := Lib.hid S3
        have HR3 := Lib.hid hr3
        obtain ⟨d0, d1, d2⟩ := cel3 S3.c1
        clear hnu hdo hxu heu hbu hbu9 S3 hr3 HAD K HS2 HR2
        go_wp2_with fail
        refine HDO.out.mono ?_
        rintro e w3 ⟨y, rfl, hy, hry, hb3⟩
        obtain ⟨w4, hw4⟩ : ∃ w4, w4 = w3.alloc (.cells y.cs 30) := ⟨_, rfl⟩
        have hb4 : Below w3.heap.size w3 w4 := by rw [hw4]; exact alloc_more _ _
        have hc4 : Cel w4 w3.heap.size 30 y.cs := by rw [hw4]; exact Cel.born _ _ _
        have S4 := (HS3.out.below hb3).below hb4
        have hr3 := row_below HR3.out.1 HR3.out.2 hb3
        have hr4 := row_below hr3.1 hr3.2 hb4
        have hy4 := (hry.below hb4).mono hb4.size
        obtain ⟨w5, hw5⟩ : ∃ w5, w5 = ((w4.setCell ⟨w.heap.size + 1, 0, none⟩ (.slice y.fA y.fn y.fc)).setCell ⟨w.heap.size + 1, 1, none⟩ (.slice y.nA y.nn y.nc)).setCell ⟨w.heap.size + 1, 2, none⟩ (.slice y.kA y.kn y.kc) := ⟨_, rfl⟩
        have S5 := S4.set hy4
        have hr5 := row_set S4 hr4.1 hr4.2 (.slice y.fA y.fn y.fc) (.slice y.nA y.nn y.nc) (.slice y.kA y.kn y.kc)
        rw [← hw5] at S5 hr5
        have hs5 : w5.heap.size = w3.heap.size + 1 := by rw [hw5, hw4]; simp
        have HY : Hid (y.d = diskJ (keptK ls k ++ [a])) := hy
        have hba : Below w5.heap.size w5 (w5.alloc (.cells (lcs a) 56)) := alloc_more _ _
        have S6 := S5.below hba
        have hr6 := row_below hr5.1 hr5.2 hba
        have hlit := litL w5 a
        rw [hs5] at hlit
        have hq := key_notJ HRA.out
        have hkl := kept_len ls k
        have hsB := S6.s
        obtain ⟨p0, p1, p2⟩ := cel3 hc4
        obtain ⟨f0, f1, f2⟩ := cel_frs S4.c1
        obtain ⟨g0, g1, g2⟩ := cel3 S4.c1
        obtain ⟨c0, c1', c2, c3⟩ := HKS.out w5 S5.b
        rw [hw4] at p0 p1 p2 f0 f1 f2 g0 g1 g2
        rw [hw5, hw4] at c0 c1' c2 c3
        have HS6 := Lib.hid S6
        have HR6 := Lib.hid hr6
        clear hb3 hb4 hc4 S4 hr3 hr4 hy4 S5 hr5 hy hry HDO S6 HKS HS3 HR3
        go_wp2_with (at_builtin; rw [← hw4, ← hw5]; refine wpList_appL rfl (.tmp 62) (.tmp 67) rfl rfl HR6.out.1 HR6.out.2 rfl hlit hq (by omega) (by omega) ?_; intro A7 c7 w7 happ hsp)
        go_roundw
        case rel =>
          have hnm : ∀ e ∈ y.now ++ y.kept, e.1 = nJ := by have := names_disk (keptK ls k ++ [a]); rw [← HY.out] at this; exact this
          have hr7 := rdd_row HS6.out.r hnm HR6.out.1 HR6.out.2 (Nat.le_refl _) happ.2.2.1
          have S7 := HS6.out.app happ.2.1 (hr7.mono happ.2.2.1.size)
          refine ⟨k + 1, y, A7, c7, by omega, by omega, by go_num, by rw [HN.out, List.length_append]; rfl, Lib.hid ⟨S7, by rw [HN.out]; exact HY.out, ?_, hsp⟩⟩
          rw [HN.out, List.length_append]
          exact happ.1
        case measure => simp [intOf]; omega)
end Go.Proofs.YtlefpodonkdbeaaGreat.Jw
