/- What the document's SameNames and Same come to at disks that are alike, what boarderlaw08's means comes to, and the walk of DiskPlays. For all disks whose names fit. -/
import Derived.Test.YtoifdjpflannlaaDwRf4
import Derived.Test.YtoifdjpflannlaaDwAs
import Derived.BigQuiet
import Derived.Deep.QuietTactic
import Derived.Laws.StructEq
import Derived.Test.YtoifdjpflannlaaDwDo
import Derived.Test.YtoifdjpflannlaaDwRg6
import Derived.Test.YtoifdjpflannlaaDwRg8
import Derived.Test.YtoifdjpflannlaaDwRga
import Derived.Test.YtoifdjpflannlaaDwStep
import Derived.Deep.RegionHeld3
import Derived.Deep.CutRange
set_option maxRecDepth 8000
namespace Go.Proofs.Ytoifdjpflannlaa.Dw
open Go.RowKit By Dk

theorem eneq_self (s : N) (f : Int) (W : World) : (binOp .neq 69 (.agg #[.string (ba s), .int .i64 f]) (.agg #[.string (ba s), .int .i64 f])).run Try.prog W = .ok (.bool false) W := by
  have hS : Try.prog.underlying 69 = some (.struct (Try.prog.fieldsOf 69)) := by kernel_rfl
  have hp : Try.prog.stoodInHeld 69 = false := by kernel_rfl
  have u3 := Try.underlying3
  have a3 := Try.isAgg3
  have z3 := Try.sizeOf3
  have u9 := Try.underlying9
  have a9 := Try.isAgg9
  have z9 := Try.sizeOf9
  rw [run_neq_struct, show (10000 : Nat) = 9999 + 1 from rfl, run_equalIn_agg W 9999 69 _ _ hS hp]
  simp only [Program.fieldsOf, Try.underlying69]
  go_simp
set_option maxHeartbeats 1000000 in
theorem sameNames_yes (A : Option Addr) (n c : Nat) (A' : Option Addr) (n' c' : Nat) (l : List E) (w : World) (h : RdE w.heap.size w A n c l) (h' : RdE w.heap.size w A' n' c' l) :
    Calls Try.prog 40 #[.slice A n c, .slice A' n' c'] w fun e w' => e = .returned (.bool true) ∧ Below w.heap.size w w' := by
  have hl := h.len
  have hl' := h'.len
  have hnn : n' = n := by omega
  subst hnn
  have hmx := h.max
  have hcap := h.cap
  clear hl hl'
  go_enter Try.func40, Try.ntmps40
  go_wp2
  go_loopw [5] (fun i wr => ∃ k : Nat, k ≤ n' ∧ i = .int .i64 k ∧ Below w.heap.size w wr) (fun i _ => n' - (intOf i).toNat)
  case atStart => exact ⟨0, by omega, rfl, Below.refl _ _⟩
  case round =>
    obtain ⟨k, hk, rfl, hbw⟩ := hrel
    by_cases hlt : k < n'
    · obtain ⟨b, o, s, f, rfl, _, HE, d1, d2⟩ := atE (h.below hbw) hlt
      obtain ⟨b', o', s', f', rfl, _, HE', e1, e2⟩ := atE (h'.below hbw) hlt
      obtain ⟨rfl, rfl⟩ : s = s' ∧ f = f' := by
        have q := HE.out.symm.trans HE'.out
        simp only [Option.some.injEq, Prod.mk.injEq] at q
        exact q
      have hkz : (k : Int) < (n' : Int) := by omega
      have HQ := fun W => eneq_self s f W
      clear HE HE'
      go_wp2_with fail
      go_quiet (fail)
      go_wp2
      go_roundw
      case rel => exact ⟨k + 1, by omega, by go_num, below_drewN hbw _⟩
      case measure => simp [intOf]; omega
    · obtain rfl : k = n' := by omega
      go_wp2
      go_ret
      exact ⟨rfl, hbw⟩
theorem file_same {xs ys : List Fv} (h : fsOf xs = fsOf ys) {k : Nat} {u v : Fv} (hu : xs[k]? = some u) (hv : ys[k]? = some v) : u.l = v.l ∧ u.s = v.s := by
  have h1 := fs_get hu
  have h2 := fs_get hv
  rw [h, h2] at h1
  injection h1 with h1
  exact ⟨(congrArg F.d h1).symm, (congrArg F.s h1).symm⟩
set_option maxHeartbeats 4000000 in
theorem same_yesD (x y : Dv) (w : World) (hx : RdD w.heap.size w x) (hy : RdD w.heap.size w y) (he : x.d = y.d) :
    Calls Try.prog 15 #[x.v, y.v] w fun e w' => e = .returned (.bool true) ∧ Below w.heap.size w w' := by
  have hef : fsOf x.xs = fsOf y.xs := congrArg D.fs he
  have hen : x.now = y.now := congrArg D.now he
  have hek : x.kept = y.kept := congrArg D.kept he
  have hfn : x.fn = y.fn := by
    have h1 := hx.f.len
    have h2 := hy.f.len
    have h3 := congrArg List.length hef
    rw [fs_len, fs_len] at h3
    omega
  have hcx := hx.f.cap
  have hmx := hx.f.max
  obtain ⟨w1, hw1⟩ : ∃ w1, w1 = (w.alloc (.cells x.cs 32)).alloc (.cells y.cs 32) := ⟨_, rfl⟩
  have hb1 : Below w.heap.size w w1 := by rw [hw1]; exact (alloc_more _ _).alloc (by simp) _
  have HC0 := Lib.hid (show Cel w1 w.heap.size 32 x.cs by rw [hw1]; exact (Cel.born w _ _).below (alloc_more _ _) (by simp))
  have HC1 : Hid (Cel w1 (w.heap.size + 1) 32 y.cs) := by
    show Cel _ _ _ _
    rw [hw1]
    have := Cel.born (w.alloc (.cells x.cs 32)) 32 y.cs
    simpa using this
  have HX := Lib.hid hx
  have HY := Lib.hid hy
  have HB1 := Lib.hid hb1
  have HEF := Lib.hid hef
  have HS1 := Lib.hid (sameNames_yes x.nA x.nn x.nc y.nA y.nn y.nc x.now w1 ((hx.n.below hb1).mono hb1.size) (by rw [hen]; exact (hy.n.below hb1).mono hb1.size))
  have HEK := Lib.hid hek
  have HFN := Lib.hid hfn
  have hneq : ((x.fn : Int) != (y.fn : Int)) = false := by rw [hfn]; simp
  have hneq2 : (x.fn != y.fn) = false := by rw [hfn]; simp
  obtain ⟨q0, q1, q2⟩ := ref_cel3 HC0.out
  obtain ⟨p0, p1, p2⟩ := ref_cel3 HC1.out
  rw [hw1] at q0 q1 q2 p0 p1 p2
  clear hx hy hb1 he hef hen hek hfn
  go_enter Try.func15, Try.ntmps15
  go_wp2_with fail
  rw [← hw1]
  clear hw1 q0 q1 q2 p0 p1 p2
  refine HS1.out.mono ?_
  rintro e w2 ⟨rfl, hb2⟩
  have HB2 := Lib.hid (HB1.out.trans (hb2.mono HB1.out.size))
  have HC02 := Lib.hid (HC0.out.below hb2 HC0.out.lt)
  have HC12 := Lib.hid (HC1.out.below hb2 HC1.out.lt)
  have HS2 := Lib.hid (sameNames_yes x.kA x.kn x.kc y.kA y.kn y.kc x.kept w2 ((HX.out.k.below HB2.out).mono HB2.out.size) (by rw [HEK.out]; exact (HY.out.k.below HB2.out).mono HB2.out.size))
  obtain ⟨q0, q1, q2⟩ := ref_cel3 HC02.out
  obtain ⟨p0, p1, p2⟩ := ref_cel3 HC12.out
  clear hb2 HS1 HC0 HC1
  go_wp2_with fail
  refine HS2.out.mono ?_
  rintro e w3 ⟨rfl, hb3⟩
  have HB3 := Lib.hid (HB2.out.trans (hb3.mono HB2.out.size))
  have HC03 := Lib.hid (HC02.out.below hb3 HC02.out.lt)
  have HC13 := Lib.hid (HC12.out.below hb3 HC12.out.lt)
  clear hb3 HS2 HC02 HC12 q0 q1 q2 p0 p1 p2
  go_wp2
  go_loopw [5] (fun i wr => ∃ k : Nat, k ≤ x.fn ∧ i = .int .i64 k ∧ Below w3.heap.size w3 wr) (fun i _ => x.fn - (intOf i).toNat)
  case atStart => exact ⟨0, by omega, rfl, Below.refl _ _⟩
  case round =>
    obtain ⟨k, hk, rfl, hbw⟩ := hrel
    have HBR := Lib.hid (HB3.out.trans (hbw.mono HB3.out.size))
    obtain ⟨q0, q1, q2⟩ := ref_cel3 (HC03.out.below hbw HC03.out.lt)
    obtain ⟨p0, p1, p2⟩ := ref_cel3 (HC13.out.below hbw HC13.out.lt)
    by_cases hlt : k < x.fn
    · have hky : k < y.fn := by have := HFN.out; omega
      obtain ⟨b, o, u, eA, _, HE, hbs, d1, d2⟩ := atF (HX.out.f.below HBR.out) hlt
      obtain ⟨b', o', v, eA', _, HE', hbs', e1, e2⟩ := atF (HY.out.f.below HBR.out) hky
      obtain ⟨hul, hus⟩ := file_same HEF.out HE.out HE'.out
      rw [eA] at q0
      rw [eA'] at p0
      obtain ⟨q, hq⟩ : ∃ q : ByteArray, q = ⟨u.l.toArray⟩ := ⟨_, rfl⟩
      have hcv1 : ∀ j, (convert 35 9 (.slice u.A u.l.length u.c)).run Try.prog (wr.drewN j) = .ok (.string q) (wr.drewN j) := fun j => by rw [hq]; exact byP.str (w := wr.drewN j) hbs.bs
      have hcv2 : ∀ j, (convert 35 9 (.slice v.A v.l.length v.c)).run Try.prog (wr.drewN j) = .ok (.string q) (wr.drewN j) := fun j => by rw [hq, hul]; exact byP.str (w := wr.drewN j) hbs'.bs
      have hss : (u.s != v.s) = false := by rw [hus]; simp
      have hqq : (q.toList == q.toList) = true := by simp
      have hkz : (k : Int) < (x.fn : Int) := by omega
      have hkz2 : (k : Int) < (y.fn : Int) := by omega
      clear HE HE' hbs hbs' eA eA' hul hus hq q1 q2 p1 p2
      go_wp2_with fail
      go_big_quiet (fail)
      go_wp2
      go_roundw
      case rel => exact ⟨k + 1, by omega, by go_num, below_drewN hbw _⟩
      case measure => simp [intOf]; omega
    · obtain rfl : k = x.fn := by omega
      go_wp2
      go_ret
      exact ⟨rfl, HBR.out⟩
end Go.Proofs.Ytoifdjpflannlaa.Dw
namespace Go.Proofs.Ytoifdjpflannlaa.Dw
open Go.RowKit By Dk

set_option maxHeartbeats 4000000 in
theorem means_any (x : Dv) (a : Av) (w : World) (h : RdD w.heap.size w x) (hsm : Sm x.d) (hok : OkA w a) (hbl : a.b.length ≤ 30000) :
    Calls Try.prog 14 #[x.v, a.v] w (DE w (doK x.d a)) := by
  obtain ⟨w1, hw1⟩ : ∃ w1, w1 = ((w.alloc (.cells x.cs 32)).alloc (.cells #[.int .i64 a.kind, .int .i64 a.n, .string (ba a.name), .string (ba a.tn), .slice a.bA a.b.length a.bc, .slice a.kA a.keep.length a.kc, .bool a.dir] 38)).alloc (.cells #[.slice none 0 0, .slice none 0 0, .slice none 0 0] 32) := ⟨_, rfl⟩
  have hb1 : Below w.heap.size w w1 := by rw [hw1]; exact ((alloc_more _ _).alloc (by simp) _).alloc (by simp; omega) _
  have hs1 : w1.heap.size = w.heap.size + 3 := by rw [hw1]; simp
  have hc0 : Cel w1 w.heap.size 32 x.cs := by rw [hw1]; exact (Cel.born w _ _).below ((alloc_more _ _).trans ((alloc_more _ _).mono (by simp))) (by simp)
  have hca : Cel w1 (w.heap.size + 1) 38 #[.int .i64 a.kind, .int .i64 a.n, .string (ba a.name), .string (ba a.tn), .slice a.bA a.b.length a.bc, .slice a.kA a.keep.length a.kc, .bool a.dir] := by
    rw [hw1]
    have := (Cel.born (w.alloc (.cells x.cs 32)) 38 #[.int .i64 a.kind, .int .i64 a.n, .string (ba a.name), .string (ba a.tn), .slice a.bA a.b.length a.bc, .slice a.kA a.keep.length a.kc, .bool a.dir]).below (alloc_more _ (.cells #[.slice none 0 0, .slice none 0 0, .slice none 0 0] 32)) (by simp)
    simpa using this
  have hcr : Cel w1 (w.heap.size + 1 + 1) 32 #[.slice none 0 0, .slice none 0 0, .slice none 0 0] := by
    rw [hw1]
    have := Cel.born ((w.alloc (.cells x.cs 32)).alloc (.cells #[.int .i64 a.kind, .int .i64 a.n, .string (ba a.name), .string (ba a.tn), .slice a.bA a.b.length a.bc, .slice a.kA a.keep.length a.kc, .bool a.dir] 38)) 32 #[.slice none 0 0, .slice none 0 0, .slice none 0 0]
    simpa using this
  obtain ⟨q0, q1, q2⟩ := cel3 hc0
  have a0 : w1.cell? ⟨w.heap.size + 1, 0, none⟩ = some (.int .i64 a.kind) := by rw [hca.cell]; rfl
  have a1 : w1.cell? ⟨w.heap.size + 1, 1, none⟩ = some (.int .i64 a.n) := by rw [hca.cell]; rfl
  have a2 : w1.cell? ⟨w.heap.size + 1, 2, none⟩ = some (.string (ba a.name)) := by rw [hca.cell]; rfl
  have a3 : w1.cell? ⟨w.heap.size + 1, 3, none⟩ = some (.string (ba a.tn)) := by rw [hca.cell]; rfl
  have a4 : w1.cell? ⟨w.heap.size + 1, 4, none⟩ = some (.slice a.bA a.b.length a.bc) := by rw [hca.cell]; rfl
  have a5 : w1.cell? ⟨w.heap.size + 1, 5, none⟩ = some (.slice a.kA a.keep.length a.kc) := by rw [hca.cell]; rfl
  have a6 : w1.cell? ⟨w.heap.size + 1, 6, none⟩ = some (.bool a.dir) := by rw [hca.cell]; rfl
  have HR := Lib.hid ((h.below hb1).mono hb1.size)
  have HSM := Lib.hid hsm
  have HOK := Lib.hid (hok.below hb1)
  have HCR := Lib.hid hcr
  have HB1 := Lib.hid hb1
  have hlt0 : w.heap.size < w1.heap.size := by omega
  have hlt1 : w.heap.size + 1 < w1.heap.size := by omega
  have hlt2 : w.heap.size + 1 + 1 < w1.heap.size := by omega
  clear h hsm hok hc0 hca hcr hb1 hs1
  go_enter Try.func14, Try.ntmps14
  by_cases k0 : a.kind = 0
  · have H : Hid (doK x.d a = appendK x.d a.name a.b) := if_pos k0
    have HC := Lib.hid (refAppend_any x a.name a.bA a.bc a.b w1 HR.out HSM.out HOK.out.b HOK.out.s (by omega))
    have b0 : (a.kind == 0) = true := by simpa using k0
    clear k0
    go_wp2_with fail
    rw [← hw1]
    clear hw1
    refine HC.out.mono ?_
    rintro e w2 ⟨z, rfl, hz, hr, hb2⟩
    have hcz := HCR.out.below hb2 HCR.out.lt
    obtain ⟨t0, t1, t2⟩ := cel3 hcz
    obtain ⟨g0, g1, g2⟩ := cel_frs hcz
    have HZ := Lib.hid hz
    have HRZ := Lib.hid hr
    have HCZ := Lib.hid hcz
    have HB2 := Lib.hid (HB1.out.trans (hb2.mono HB1.out.size))
    clear hz hr hcz hb2
    go_wp2
    (try simp only [Exit.inBlock, Exit.then])
    refine bodyPost_ret (ret_rdisk2 rfl _ _ (w.heap.size + 1 + 1) z.cs rfl (cel_put3 HCZ.out) rfl) rfl ?_
    exact ⟨z, by rw [H.out]; rfl, by rw [H.out]; exact HZ.out, (rdd_away HRZ.out HCZ.out sl3 (cell_put3 w2 _ _ _ _)).mono (by simp), below_put3 HB2.out (by omega) _ _ _⟩
  have b0 : (a.kind == 0) = false := by simpa using k0
  by_cases k1 : a.kind = 1
  · have H : Hid (doK x.d a = syncK x.d a.name) := by show _ = _; unfold doK; rw [if_neg k0]; exact if_pos k1
    have HC := Lib.hid (refSync_any x a.name w1 HR.out HSM.out)
    have b1 : (a.kind == 1) = true := by simpa using k1
    clear k0 k1
    go_wp2_with fail
    rw [← hw1]
    clear hw1
    refine HC.out.mono ?_
    rintro e w2 ⟨z, rfl, hz, hr, hb2⟩
    have hcz := HCR.out.below hb2 HCR.out.lt
    obtain ⟨t0, t1, t2⟩ := cel3 hcz
    obtain ⟨g0, g1, g2⟩ := cel_frs hcz
    have HZ := Lib.hid hz
    have HRZ := Lib.hid hr
    have HCZ := Lib.hid hcz
    have HB2 := Lib.hid (HB1.out.trans (hb2.mono HB1.out.size))
    clear hz hr hcz hb2
    go_wp2
    (try simp only [Exit.inBlock, Exit.then])
    refine bodyPost_ret (ret_rdisk2 rfl _ _ (w.heap.size + 1 + 1) z.cs rfl (cel_put3 HCZ.out) rfl) rfl ?_
    exact ⟨z, by rw [H.out]; rfl, by rw [H.out]; exact HZ.out, (rdd_away HRZ.out HCZ.out sl3 (cell_put3 w2 _ _ _ _)).mono (by simp), below_put3 HB2.out (by omega) _ _ _⟩
  have b1 : (a.kind == 1) = false := by simpa using k1
  by_cases k2 : a.kind = 2
  · have H : Hid (doK x.d a = cutK x.d a.name a.n) := by show _ = _; unfold doK; rw [if_neg k0]; rw [if_neg k1]; exact if_pos k2
    have HC := Lib.hid (refCut_any x a.name a.n w1 HR.out HSM.out)
    have b2 : (a.kind == 2) = true := by simpa using k2
    clear k0 k1 k2
    go_wp2_with fail
    rw [← hw1]
    clear hw1
    refine HC.out.mono ?_
    rintro e w2 ⟨z, rfl, hz, hr, hb2⟩
    have hcz := HCR.out.below hb2 HCR.out.lt
    obtain ⟨t0, t1, t2⟩ := cel3 hcz
    obtain ⟨g0, g1, g2⟩ := cel_frs hcz
    have HZ := Lib.hid hz
    have HRZ := Lib.hid hr
    have HCZ := Lib.hid hcz
    have HB2 := Lib.hid (HB1.out.trans (hb2.mono HB1.out.size))
    clear hz hr hcz hb2
    go_wp2
    (try simp only [Exit.inBlock, Exit.then])
    refine bodyPost_ret (ret_rdisk2 rfl _ _ (w.heap.size + 1 + 1) z.cs rfl (cel_put3 HCZ.out) rfl) rfl ?_
    exact ⟨z, by rw [H.out]; rfl, by rw [H.out]; exact HZ.out, (rdd_away HRZ.out HCZ.out sl3 (cell_put3 w2 _ _ _ _)).mono (by simp), below_put3 HB2.out (by omega) _ _ _⟩
  have b2 : (a.kind == 2) = false := by simpa using k2
  by_cases k3 : a.kind = 3
  · have H : Hid (doK x.d a = renameK x.d a.name a.tn) := by show _ = _; unfold doK; rw [if_neg k0]; rw [if_neg k1]; rw [if_neg k2]; exact if_pos k3
    have HC := Lib.hid (refRename_any x a.name a.tn w1 HR.out HSM.out HOK.out.t)
    have b3 : (a.kind == 3) = true := by simpa using k3
    clear k0 k1 k2 k3
    go_wp2_with fail
    rw [← hw1]
    clear hw1
    refine HC.out.mono ?_
    rintro e w2 ⟨z, rfl, hz, hr, hb2⟩
    have hcz := HCR.out.below hb2 HCR.out.lt
    obtain ⟨t0, t1, t2⟩ := cel3 hcz
    obtain ⟨g0, g1, g2⟩ := cel_frs hcz
    have HZ := Lib.hid hz
    have HRZ := Lib.hid hr
    have HCZ := Lib.hid hcz
    have HB2 := Lib.hid (HB1.out.trans (hb2.mono HB1.out.size))
    clear hz hr hcz hb2
    go_wp2
    (try simp only [Exit.inBlock, Exit.then])
    refine bodyPost_ret (ret_rdisk2 rfl _ _ (w.heap.size + 1 + 1) z.cs rfl (cel_put3 HCZ.out) rfl) rfl ?_
    exact ⟨z, by rw [H.out]; rfl, by rw [H.out]; exact HZ.out, (rdd_away HRZ.out HCZ.out sl3 (cell_put3 w2 _ _ _ _)).mono (by simp), below_put3 HB2.out (by omega) _ _ _⟩
  have b3 : (a.kind == 3) = false := by simpa using k3
  by_cases k4 : a.kind = 4
  · have H : Hid (doK x.d a = removeK x.d a.name) := by show _ = _; unfold doK; rw [if_neg k0]; rw [if_neg k1]; rw [if_neg k2]; rw [if_neg k3]; exact if_pos k4
    have HC := Lib.hid (refRemove_any x a.name w1 HR.out HSM.out)
    have b4 : (a.kind == 4) = true := by simpa using k4
    clear k0 k1 k2 k3 k4
    go_wp2_with fail
    rw [← hw1]
    clear hw1
    refine HC.out.mono ?_
    rintro e w2 ⟨z, rfl, hz, hr, hb2⟩
    have hcz := HCR.out.below hb2 HCR.out.lt
    obtain ⟨t0, t1, t2⟩ := cel3 hcz
    obtain ⟨g0, g1, g2⟩ := cel_frs hcz
    have HZ := Lib.hid hz
    have HRZ := Lib.hid hr
    have HCZ := Lib.hid hcz
    have HB2 := Lib.hid (HB1.out.trans (hb2.mono HB1.out.size))
    clear hz hr hcz hb2
    go_wp2
    (try simp only [Exit.inBlock, Exit.then])
    refine bodyPost_ret (ret_rdisk2 rfl _ _ (w.heap.size + 1 + 1) z.cs rfl (cel_put3 HCZ.out) rfl) rfl ?_
    exact ⟨z, by rw [H.out]; rfl, by rw [H.out]; exact HZ.out, (rdd_away HRZ.out HCZ.out sl3 (cell_put3 w2 _ _ _ _)).mono (by simp), below_put3 HB2.out (by omega) _ _ _⟩
  have b4 : (a.kind == 4) = false := by simpa using k4
  by_cases k5 : a.kind = 5
  · have H : Hid (doK x.d a = (syncDirK x.d, 0)) := by show _ = _; unfold doK; rw [if_neg k0]; rw [if_neg k1]; rw [if_neg k2]; rw [if_neg k3]; rw [if_neg k4]; exact if_pos k5
    have HC := Lib.hid (refSyncDir_any x w1 HR.out HSM.out)
    have b5 : (a.kind == 5) = true := by simpa using k5
    clear k0 k1 k2 k3 k4 k5
    go_wp2_with fail
    rw [← hw1]
    clear hw1
    refine HC.out.mono ?_
    rintro e w2 ⟨z, rfl, hz, hr, hb2⟩
    have hcz := HCR.out.below hb2 HCR.out.lt
    obtain ⟨t0, t1, t2⟩ := cel3 hcz
    obtain ⟨g0, g1, g2⟩ := cel_frs hcz
    have HZ := Lib.hid hz
    have HRZ := Lib.hid hr
    have HCZ := Lib.hid hcz
    have HB2 := Lib.hid (HB1.out.trans (hb2.mono HB1.out.size))
    clear hz hr hcz hb2
    go_wp2
    (try simp only [Exit.inBlock, Exit.then])
    refine bodyPost_ret (ret_rdisk2 rfl _ _ (w.heap.size + 1 + 1) z.cs rfl (cel_put3 HCZ.out) rfl) rfl ?_
    exact ⟨z, by rw [H.out]; rfl, by rw [H.out]; exact HZ.out, (rdd_away HRZ.out HCZ.out sl3 (cell_put3 w2 _ _ _ _)).mono (by simp), below_put3 HB2.out (by omega) _ _ _⟩
  have b5 : (a.kind == 5) = false := by simpa using k5
  have H : Hid (doK x.d a = (crashK x.d a.keep a.dir, 0)) := by show _ = _; unfold doK; rw [if_neg k0]; rw [if_neg k1]; rw [if_neg k2]; rw [if_neg k3]; rw [if_neg k4]; exact if_neg k5
  have HC := Lib.hid (refCrash_any x a.kA a.kc a.keep a.dir w1 HR.out HSM.out HOK.out.k)
  clear k0 k1 k2 k3 k4 k5
  go_wp2_with fail
  rw [← hw1]
  clear hw1
  refine HC.out.mono ?_
  rintro e w2 ⟨z, rfl, hz, hr, hb2⟩
  have hcz := HCR.out.below hb2 HCR.out.lt
  obtain ⟨t0, t1, t2⟩ := cel3 hcz
  obtain ⟨g0, g1, g2⟩ := cel_frs hcz
  have HZ := Lib.hid hz
  have HRZ := Lib.hid hr
  have HCZ := Lib.hid hcz
  have HB2 := Lib.hid (HB1.out.trans (hb2.mono HB1.out.size))
  clear hz hr hcz hb2
  go_wp2
  (try simp only [Exit.inBlock, Exit.then])
  refine bodyPost_ret (ret_rdisk2 rfl _ _ (w.heap.size + 1 + 1) z.cs rfl (cel_put3 HCZ.out) rfl) rfl ?_
  exact ⟨z, by rw [H.out]; rfl, by rw [H.out]; exact HZ.out, (rdd_away HRZ.out HCZ.out sl3 (cell_put3 w2 _ _ _ _)).mono (by simp), below_put3 HB2.out (by omega) _ _ _⟩
end Go.Proofs.Ytoifdjpflannlaa.Dw
namespace Go.Proofs.Ytoifdjpflannlaa.Dw
open Go.RowKit By Dk

theorem doK_good (d : D) (a : Av) : RightD (doK d a).1 := by
  unfold doK
  split
  · exact append_right (good_right d) _ _
  split
  · exact sync_right (good_right d) _
  split
  · exact cut_right (good_right d) _ _
  split
  · exact rename_right (good_right d) _ _
  split
  · exact remove_right (good_right d) _
  split
  · exact syncDir_right (good_right d)
  · exact crash_right (good_right d) _ _
def StPl (w w4 : World) (gk : Nat) (n : Nat) (i : Value) (wr : World) : Prop :=
  ∃ (k : Nat) (X Y : Dv), k ≤ n ∧ k ≤ 20 ∧ i = .int .i64 k ∧ Cel wr w.heap.size 25 X.cs ∧ Cel wr gk 32 Y.cs ∧ RdD wr.heap.size wr X ∧ RdD wr.heap.size wr Y ∧ X.d = Y.d ∧ Sm X.d ∧ Below w.heap.size w wr ∧ w4.heap.size ≤ wr.heap.size
set_option maxHeartbeats 20000000 in
theorem diskPlays_walk (x : Dv) (A : Option Addr) (n c : Nat) (l : List Av) (w : World) (h : RdD w.heap.size w x) (hsm : Sm x.d) (hl : RdA w A n c l) :
    Calls Try.prog 3 #[x.v, .slice A n c] w (isTrue w) := by
  obtain ⟨w1, hw1⟩ : ∃ w1, w1 = w.alloc (.cells x.cs 25) := ⟨_, rfl⟩
  have V1 : Vd (w.heap.size + 1) w1 w.heap.size x := by rw [hw1]; exact Vd.born h
  have hs1 : w1.heap.size = w.heap.size + 1 := by rw [hw1]; simp
  have hb1 : Below w.heap.size w w1 := by rw [hw1]; exact alloc_more _ _
  have HGR := Lib.hid (great_any x w1 (V1.r.mono (by omega)))
  have HV1 := Lib.hid V1
  have B1 := Lib.hid hb1
  have HS1 := Lib.hid hs1
  have HL := Lib.hid hl
  have HSM := Lib.hid hsm
  have hlm := hl.1.max
  have hlc := hl.1.cap
  obtain ⟨q0, q1, q2⟩ := cel3 V1.c
  rw [hw1] at q0 q1 q2
  clear h hsm hl V1 hb1 hs1
  go_enter Try.func3, Try.ntmps3
  go_wp2_with fail
  rw [← hw1]
  clear hw1 q0 q1 q2
  refine HGR.out.mono ?_
  rintro e w2 ⟨gr, rfl, hgr, hb2⟩
  have B2 := Lib.hid (B1.out.trans (hb2.mono B1.out.size))
  have HV2 := Lib.hid (HV1.out.below (hb2.mono (by have := HS1.out; omega)))
  have hs2 : w.heap.size < w2.heap.size := by have := HS1.out; have := hb2.size; omega
  clear hb2 HGR
  cases gr with
  | true =>
    clear hgr
    go_wp2_with fail
    refine (knows_yes _).mono ?_
    rintro e wz ⟨rfl, hbz⟩
    go_wp2
    go_ret
    exact ⟨rfl, B2.out.trans (hbz.mono B2.out.size)⟩
  | false =>
  obtain ⟨_, hg2, hg3, hg4⟩ := hgr rfl
  have HAS := Lib.hid (as_any x w2 (HV2.out.r.mono (by omega)) (by omega) (by omega) (by omega))
  obtain ⟨q0, q1, q2⟩ := cel3 HV2.out.c
  clear hgr hg2 hg3 hg4
  go_wp2_with fail
  refine HAS.out.mono ?_
  rintro e w3 ⟨y, rfl, hy, hry, hb3⟩
  obtain ⟨w4, hw4⟩ : ∃ w4, w4 = w3.alloc (.cells y.cs 32) := ⟨_, rfl⟩
  have hb24 : Below w2.heap.size w2 w4 := by rw [hw4]; exact hb3.alloc hb3.size _
  have hs3 : w2.heap.size ≤ w3.heap.size := hb3.size
  have hs4 : w4.heap.size = w3.heap.size + 1 := by rw [hw4]; simp
  have hst : StPl w w4 w3.heap.size n (.int .i64 0) w4 := by
    refine ⟨0, x, y, by omega, by omega, rfl, HV2.out.c.below hb24 hs2, by rw [hw4]; exact Cel.born _ _ _, ?_, ?_, hy.symm, HSM.out, B2.out.trans (hb24.mono B2.out.size), Nat.le_refl _⟩
    · exact (HV2.out.r.mono (by omega)).below hb24 |>.mono hb24.size
    · rw [hw4]; exact (hry.below (alloc_more _ _)).mono (by simp)
  have HST := Lib.hid hst
  have HG := Lib.hid (show w.heap.size < w3.heap.size by omega)
  have HS4 := Lib.hid hs4
  clear hst hb24 hs4 hy hry hb3 HAS q0 q1 q2
  go_wp2
  rw [← hw4]
  clear hw4
  go_loopw [6] (fun i wr => StPl w w4 w3.heap.size n i wr) (fun i _ => n - (intOf i).toNat)
  case atStart => exact HST.out
  case round =>
    obtain ⟨k, X, Y, hk, hk20, rfl, hcx, hcy, hrx, hry, hxy, hsx, hbw, hsr⟩ := hrel
    have HCX := Lib.hid hcx
    have HCY := Lib.hid hcy
    have HRX := Lib.hid hrx
    have HRY := Lib.hid hry
    have HXY := Lib.hid hxy
    have HSX := Lib.hid hsx
    have HBW := Lib.hid hbw
    have hgd : w.heap.size < wr.heap.size := hcx.lt
    have hgk : w3.heap.size < wr.heap.size := hcy.lt
    have hne := HG.out
    clear hcx hcy hrx hry hxy hsx hbw
    by_cases hlt : k < n
    rotate_left
    · have hkz : ¬ (k : Int) < (n : Int) := by omega
      go_wp2_with fail
      refine (knows_yes _).mono ?_
      rintro e wz ⟨rfl, hbz⟩
      go_wp2
      go_ret
      exact ⟨rfl, HBW.out.trans (hbz.mono HBW.out.size)⟩
    have hkz : (k : Int) < (n : Int) := by omega
    by_cases h20 : k < 20
    rotate_left
    · have hkz2 : ¬ (k : Int) < 20 := by omega
      go_wp2_with fail
      refine (knows_yes _).mono ?_
      rintro e wz ⟨rfl, hbz⟩
      go_wp2
      go_ret
      exact ⟨rfl, HBW.out.trans (hbz.mono HBW.out.size)⟩
    have hkz2 : (k : Int) < 20 := by omega
    obtain ⟨bo, o, a, rfl, hbo, HE, hoka, a0, a1, a2, a3, a4, a5, a6⟩ := atA (HL.out.below HBW.out) hlt
    have HOKA := Lib.hid hoka
    have HSA := Lib.hid (small_any a wr hoka)
    clear hoka HE
    go_wp2_with fail
    refine HSA.out.mono ?_
    rintro e w5 ⟨sm, rfl, hsa, hb5⟩
    have HB5 := Lib.hid hb5
    have HCX5 := Lib.hid (HCX.out.below hb5 hgd)
    have HCY5 := Lib.hid (HCY.out.below hb5 hgk)
    have HRX5 := Lib.hid ((HRX.out.below hb5).mono hb5.size)
    have HRY5 := Lib.hid ((HRY.out.below hb5).mono hb5.size)
    have HBW5 := Lib.hid (HBW.out.trans (hb5.mono HBW.out.size))
    have hs5 := hb5.size
    clear HSA hb5
    cases sm with
    | false =>
      clear hsa a0 a1 a2 a3 a4 a5 a6
      go_wp2
      go_roundw
      case rel => exact ⟨k + 1, X, Y, by omega, by omega, by go_num, HCX5.out, HCY5.out, HRX5.out, HRY5.out, HXY.out, HSX.out, HBW5.out, by omega⟩
      case measure => simp [intOf]; omega
    | true =>
    obtain ⟨t1, t2, t3, t4⟩ := hsa rfl
    have HDO : Hid (∀ W, Below w5.heap.size w5 W → Calls Try.prog 13 #[X.v, a.v] W (DE W (doK X.d a))) := fun W hW => do_any X a W ((HRX5.out.below hW).mono hW.size) HSX.out ((HOKA.out.below HB5.out).below hW) t3
    have HME : Hid (∀ W, Below w5.heap.size w5 W → Calls Try.prog 14 #[Y.v, a.v] W (DE W (doK X.d a))) := fun W hW => by
      rw [HXY.out]
      exact means_any Y a W ((HRY5.out.below hW).mono hW.size) (by rw [← HXY.out]; exact HSX.out) ((HOKA.out.below HB5.out).below hW) t3
    have K : Hid (∀ W, Below w5.heap.size w5 W → W.cell? ⟨w.heap.size, 0, none⟩ = some (.slice X.fA X.fn X.fc) ∧ W.cell? ⟨w.heap.size, 1, none⟩ = some (.slice X.nA X.nn X.nc) ∧ W.cell? ⟨w.heap.size, 2, none⟩ = some (.slice X.kA X.kn X.kc) ∧ W.cell? ⟨w3.heap.size, 0, none⟩ = some (.slice Y.fA Y.fn Y.fc) ∧ W.cell? ⟨w3.heap.size, 1, none⟩ = some (.slice Y.nA Y.nn Y.nc) ∧ W.cell? ⟨w3.heap.size, 2, none⟩ = some (.slice Y.kA Y.kn Y.kc) ∧ W.cell? ⟨bo, o + k * 7, none⟩ = some (.int .i64 a.kind) ∧ W.cell? ⟨bo, o + k * 7 + 1, none⟩ = some (.int .i64 a.n) ∧ W.cell? ⟨bo, o + k * 7 + 2, none⟩ = some (.string (ba a.name)) ∧ W.cell? ⟨bo, o + k * 7 + 3, none⟩ = some (.string (ba a.tn)) ∧ W.cell? ⟨bo, o + k * 7 + 4, none⟩ = some (.slice a.bA a.b.length a.bc) ∧ W.cell? ⟨bo, o + k * 7 + 5, none⟩ = some (.slice a.kA a.keep.length a.kc) ∧ W.cell? ⟨bo, o + k * 7 + 6, none⟩ = some (.bool a.dir)) := fun W hW => by
      have hb := HB5.out.trans (hW.mono hs5)
      obtain ⟨x0, x1, x2⟩ := cel3 (HCX.out.below hb hgd)
      obtain ⟨y0, y1, y2⟩ := cel3 (HCY.out.below hb hgk)
      exact ⟨x0, x1, x2, y0, y1, y2, (hb.cell (p := ⟨bo, o + k * 7, none⟩) hbo).trans a0, (hb.cell (p := ⟨bo, o + k * 7 + 1, none⟩) hbo).trans a1, (hb.cell (p := ⟨bo, o + k * 7 + 2, none⟩) hbo).trans a2, (hb.cell (p := ⟨bo, o + k * 7 + 3, none⟩) hbo).trans a3, (hb.cell (p := ⟨bo, o + k * 7 + 4, none⟩) hbo).trans a4, (hb.cell (p := ⟨bo, o + k * 7 + 5, none⟩) hbo).trans a5, (hb.cell (p := ⟨bo, o + k * 7 + 6, none⟩) hbo).trans a6⟩
    clear hsa t1 t2 t3 t4 a0 a1 a2 a3 a4 a5 a6 HOKA
    have K1 : Hid (∀ W, Below w5.heap.size w5 W → W.cell? ⟨w.heap.size, 0, none⟩ = some (.slice X.fA X.fn X.fc) ∧ W.cell? ⟨w.heap.size, 1, none⟩ = some (.slice X.nA X.nn X.nc) ∧ W.cell? ⟨w.heap.size, 2, none⟩ = some (.slice X.kA X.kn X.kc) ∧ W.cell? ⟨bo, o + k * 7, none⟩ = some (.int .i64 a.kind) ∧ W.cell? ⟨bo, o + k * 7 + 1, none⟩ = some (.int .i64 a.n) ∧ W.cell? ⟨bo, o + k * 7 + 2, none⟩ = some (.string (ba a.name)) ∧ W.cell? ⟨bo, o + k * 7 + 3, none⟩ = some (.string (ba a.tn)) ∧ W.cell? ⟨bo, o + k * 7 + 4, none⟩ = some (.slice a.bA a.b.length a.bc) ∧ W.cell? ⟨bo, o + k * 7 + 5, none⟩ = some (.slice a.kA a.keep.length a.kc) ∧ W.cell? ⟨bo, o + k * 7 + 6, none⟩ = some (.bool a.dir)) := fun W hW => by
      obtain ⟨x0, x1, x2, y0, y1, y2, r⟩ := K.out W hW
      exact ⟨x0, x1, x2, r⟩
    go_wp2_with fail
    go_cut [7, 8] from 32 to 40 (fun p q wx => ∃ (g : Nat) (Z : Dv), p = .pointer (some ⟨g, 0, none⟩) ∧ q = .int .i64 (doK X.d a).2 ∧ Hid (Z.d = (doK X.d a).1) ∧ Hid (Cel wx g 25 Z.cs) ∧ Hid (RdD wx.heap.size wx Z) ∧ Hid (w5.heap.size ≤ g) ∧ Hid (Below w5.heap.size w5 wx))
    case first =>
      go_region_held3 (fun W => W.cell? ⟨w.heap.size, 0, none⟩ = some (.slice X.fA X.fn X.fc) ∧ W.cell? ⟨w.heap.size, 1, none⟩ = some (.slice X.nA X.nn X.nc) ∧ W.cell? ⟨w.heap.size, 2, none⟩ = some (.slice X.kA X.kn X.kc) ∧ W.cell? ⟨bo, o + k * 7, none⟩ = some (.int .i64 a.kind) ∧ W.cell? ⟨bo, o + k * 7 + 1, none⟩ = some (.int .i64 a.n) ∧ W.cell? ⟨bo, o + k * 7 + 2, none⟩ = some (.string (ba a.name)) ∧ W.cell? ⟨bo, o + k * 7 + 3, none⟩ = some (.string (ba a.tn)) ∧ W.cell? ⟨bo, o + k * 7 + 4, none⟩ = some (.slice a.bA a.b.length a.bc) ∧ W.cell? ⟨bo, o + k * 7 + 5, none⟩ = some (.slice a.kA a.keep.length a.kc) ∧ W.cell? ⟨bo, o + k * 7 + 6, none⟩ = some (.bool a.dir))
        (first
          | exact K1.out _ (Below.refl _ _)
          | exact K1.out _ (Below.refl _ _).drew
          | exact K1.out _ hbu
          | exact K1.out _ (hbu.alloc hbu.size _)
          | exact K1.out _ ((Below.refl _ _).alloc (Nat.le_refl _) _)
          | exact K1.out _ ((Below.refl _ _).alloc (Nat.le_refl _) _).drew
          | exact K1.out _ (below_put3 hbu (Nat.le_refl _) _ _ _))
        (first
          | (go_simp; go_at_call 13; (with_reducible refine (HDO.out _ ((Below.refl _ _).drew)).mono ?_); rintro ee wu ⟨Z, rfl, hz, hrz, hbz⟩; have hbu : Below w5.heap.size w5 wu := below_undrew hbz)
          | (go_simp; go_at_call 13; (with_reducible refine (HDO.out _ (((Below.refl _ _).alloc (Nat.le_refl _) _).drew)).mono ?_); rintro ee wu ⟨Z, rfl, hz, hrz, hbz⟩; have hbu : Below w5.heap.size w5 wu := (((Below.refl _ _).alloc (Nat.le_refl _) _).drew).trans (hbz.mono (by simp)); have hcg : Cel wu w5.heap.size 25 #[.slice none 0 0, .slice none 0 0, .slice none 0 0] := (show Cel ((w5.alloc (.cells #[.slice none 0 0, .slice none 0 0, .slice none 0 0] 25)).drew) w5.heap.size 25 #[.slice none 0 0, .slice none 0 0, .slice none 0 0] from Cel.born w5 _ _).below hbz (by simp); obtain ⟨j0, j1, j2⟩ := cel3 hcg; obtain ⟨l0, l1, l2⟩ := cel_frs hcg))
      all_goals (
        go_wp2_with fail
        go_meet
        first
          | (have hq := hcg; exact ⟨w5.heap.size, Z, rfl, rfl, Lib.hid hz, Lib.hid (cel_put3 hcg), Lib.hid ((rdd_away hrz hcg sl3 (cell_put3 _ _ _ _ _)).mono (by simp)), Lib.hid (Nat.le_refl _), Lib.hid (below_put3 hbu (Nat.le_refl _) _ _ _)⟩)
          | exact ⟨wu.heap.size, Z, rfl, rfl, Lib.hid hz, Lib.hid (Cel.born _ _ _), Lib.hid ((hrz.below (alloc_more _ _)).mono (by simp)), Lib.hid hbu.size, Lib.hid (hbu.alloc hbu.size _)⟩)
    case rest =>
    obtain ⟨g7, Z, rfl, rfl, HZ, HCZ, HRZ, HG7, HB6⟩ := hcut
    obtain ⟨w6, hw6⟩ : ∃ q, q = wc := ⟨_, rfl⟩
    subst hw6
    have hs6 := HB6.out.size
    have K2 : Hid (∀ W, Below w6.heap.size w6 W → W.cell? ⟨w3.heap.size, 0, none⟩ = some (.slice Y.fA Y.fn Y.fc) ∧ W.cell? ⟨w3.heap.size, 1, none⟩ = some (.slice Y.nA Y.nn Y.nc) ∧ W.cell? ⟨w3.heap.size, 2, none⟩ = some (.slice Y.kA Y.kn Y.kc) ∧ W.cell? ⟨bo, o + k * 7, none⟩ = some (.int .i64 a.kind) ∧ W.cell? ⟨bo, o + k * 7 + 1, none⟩ = some (.int .i64 a.n) ∧ W.cell? ⟨bo, o + k * 7 + 2, none⟩ = some (.string (ba a.name)) ∧ W.cell? ⟨bo, o + k * 7 + 3, none⟩ = some (.string (ba a.tn)) ∧ W.cell? ⟨bo, o + k * 7 + 4, none⟩ = some (.slice a.bA a.b.length a.bc) ∧ W.cell? ⟨bo, o + k * 7 + 5, none⟩ = some (.slice a.kA a.keep.length a.kc) ∧ W.cell? ⟨bo, o + k * 7 + 6, none⟩ = some (.bool a.dir)) := fun W hW => by
      obtain ⟨x0, x1, x2, y0, y1, y2, r⟩ := K.out W (HB6.out.trans (hW.mono hs6))
      exact ⟨y0, y1, y2, r⟩
    have HM6 : Hid (∀ W, Below w6.heap.size w6 W → Calls Try.prog 14 #[Y.v, a.v] W (DE W (doK X.d a))) := fun W hW => HME.out W (HB6.out.trans (hW.mono hs6))
    go_wp2_with fail
    go_cut [9, 10] from 41 to 49 (fun p q wx => ∃ (g : Nat) (V : Dv), p = .pointer (some ⟨g, 0, none⟩) ∧ q = .int .i64 (doK X.d a).2 ∧ Hid (V.d = (doK X.d a).1) ∧ Hid (Cel wx g 32 V.cs) ∧ Hid (RdD wx.heap.size wx V) ∧ Hid (w6.heap.size ≤ g) ∧ Hid (Below w6.heap.size w6 wx))
    case first =>
      go_region_held3 (fun W => W.cell? ⟨w3.heap.size, 0, none⟩ = some (.slice Y.fA Y.fn Y.fc) ∧ W.cell? ⟨w3.heap.size, 1, none⟩ = some (.slice Y.nA Y.nn Y.nc) ∧ W.cell? ⟨w3.heap.size, 2, none⟩ = some (.slice Y.kA Y.kn Y.kc) ∧ W.cell? ⟨bo, o + k * 7, none⟩ = some (.int .i64 a.kind) ∧ W.cell? ⟨bo, o + k * 7 + 1, none⟩ = some (.int .i64 a.n) ∧ W.cell? ⟨bo, o + k * 7 + 2, none⟩ = some (.string (ba a.name)) ∧ W.cell? ⟨bo, o + k * 7 + 3, none⟩ = some (.string (ba a.tn)) ∧ W.cell? ⟨bo, o + k * 7 + 4, none⟩ = some (.slice a.bA a.b.length a.bc) ∧ W.cell? ⟨bo, o + k * 7 + 5, none⟩ = some (.slice a.kA a.keep.length a.kc) ∧ W.cell? ⟨bo, o + k * 7 + 6, none⟩ = some (.bool a.dir))
        (first
          | exact K2.out _ (Below.refl _ _)
          | exact K2.out _ (Below.refl _ _).drew
          | exact K2.out _ hbu
          | exact K2.out _ (hbu.alloc hbu.size _)
          | exact K2.out _ ((Below.refl _ _).alloc (Nat.le_refl _) _)
          | exact K2.out _ ((Below.refl _ _).alloc (Nat.le_refl _) _).drew
          | exact K2.out _ (below_put3 hbu (Nat.le_refl _) _ _ _))
        (first
          | (go_simp; go_at_call 14; (with_reducible refine (HM6.out _ ((Below.refl _ _).drew)).mono ?_); rintro ee wu ⟨V, rfl, hz, hrz, hbz⟩; have hbu : Below w6.heap.size w6 wu := below_undrew hbz)
          | (go_simp; go_at_call 14; (with_reducible refine (HM6.out _ (((Below.refl _ _).alloc (Nat.le_refl _) _).drew)).mono ?_); rintro ee wu ⟨V, rfl, hz, hrz, hbz⟩; have hbu : Below w6.heap.size w6 wu := (((Below.refl _ _).alloc (Nat.le_refl _) _).drew).trans (hbz.mono (by simp)); have hcg : Cel wu w6.heap.size 32 #[.slice none 0 0, .slice none 0 0, .slice none 0 0] := (show Cel ((w6.alloc (.cells #[.slice none 0 0, .slice none 0 0, .slice none 0 0] 32)).drew) w6.heap.size 32 #[.slice none 0 0, .slice none 0 0, .slice none 0 0] from Cel.born w6 _ _).below hbz (by simp); obtain ⟨j0, j1, j2⟩ := cel3 hcg; obtain ⟨l0, l1, l2⟩ := cel_frs hcg))
      all_goals (
        go_wp2_with fail
        go_meet
        first
          | (have hq := hcg; exact ⟨w6.heap.size, V, rfl, rfl, Lib.hid hz, Lib.hid (cel_put3 hcg), Lib.hid ((rdd_away hrz hcg sl3 (cell_put3 _ _ _ _ _)).mono (by simp)), Lib.hid (Nat.le_refl _), Lib.hid (below_put3 hbu (Nat.le_refl _) _ _ _)⟩)
          | exact ⟨wu.heap.size, V, rfl, rfl, Lib.hid hz, Lib.hid (Cel.born _ _ _), Lib.hid ((hrz.below (alloc_more _ _)).mono (by simp)), Lib.hid hbu.size, Lib.hid (hbu.alloc hbu.size _)⟩)
    case rest =>
    obtain ⟨g9, V, rfl, rfl, HV, HCV, HRV, HG9, HB7⟩ := hcut
    obtain ⟨w7, hw7⟩ : ∃ q, q = wc := ⟨_, rfl⟩
    subst hw7
    have hs7 := HB7.out.size
    have hg76 : g7 < w6.heap.size := HCZ.out.lt
    have HCZ7 := Lib.hid (HCZ.out.below HB7.out hg76)
    have HRZ7 := Lib.hid ((HRZ.out.below HB7.out).mono hs7)
    have HRG : Hid (RightD Z.d) := by show RightD _; rw [HZ.out]; exact doK_good _ _
    have HZV : Hid (Z.d = V.d) := HZ.out.trans HV.out.symm
    have hg9 : g9 < w7.heap.size := HCV.out.lt
    have hg77 : g7 < w7.heap.size := HCZ7.out.lt
    have hfl : Z.d.fs.length = Z.fn := by show (fsOf Z.xs).length = _; rw [fs_len, HRZ.out.f.len]
    have hz1 : Z.fn ≤ 20 := by rw [← hfl]; exact HRG.out.1
    have hz2 : Z.nn ≤ 20 := by have := named_len HRG.out.2.1.1; have e : Z.now.length = Z.nn := HRZ.out.n.1; rw [← e]; exact Nat.le_trans this HRG.out.1
    have hz3 : Z.kn ≤ 20 := by have := named_len HRG.out.2.1.2.1; have e : Z.kept.length = Z.kn := HRZ.out.k.1; rw [← e]; exact Nat.le_trans this HRG.out.1
    have HA7 : Hid (∀ W, Below w7.heap.size w7 W → Calls Try.prog 11 #[Z.v] W (DR W (fun v => v) Z.d)) := fun W hW => as_any Z W ((HRZ7.out.below hW).mono hW.size) (by omega) (by omega) (by omega)
    have K7 : Hid (∀ W, Below w7.heap.size w7 W → W.cell? ⟨g7, 0, none⟩ = some (.slice Z.fA Z.fn Z.fc) ∧ W.cell? ⟨g7, 1, none⟩ = some (.slice Z.nA Z.nn Z.nc) ∧ W.cell? ⟨g7, 2, none⟩ = some (.slice Z.kA Z.kn Z.kc) ∧ W.cell? ⟨g9, 0, none⟩ = some (.slice V.fA V.fn V.fc) ∧ W.cell? ⟨g9, 1, none⟩ = some (.slice V.nA V.nn V.nc) ∧ W.cell? ⟨g9, 2, none⟩ = some (.slice V.kA V.kn V.kc)) := fun W hW => by
      obtain ⟨x0, x1, x2⟩ := cel3 (HCZ7.out.below hW hg77)
      obtain ⟨y0, y1, y2⟩ := cel3 (HCV.out.below hW hg9)
      exact ⟨x0, x1, x2, y0, y1, y2⟩
    have hee : ((doK X.d a).2 != (doK X.d a).2) = false := by simp
    clear hfl hz1 hz2 hz3
    go_wp2_with fail
    go_region_held3 (fun W => W.cell? ⟨g7, 0, none⟩ = some (.slice Z.fA Z.fn Z.fc) ∧ W.cell? ⟨g7, 1, none⟩ = some (.slice Z.nA Z.nn Z.nc) ∧ W.cell? ⟨g7, 2, none⟩ = some (.slice Z.kA Z.kn Z.kc) ∧ W.cell? ⟨g9, 0, none⟩ = some (.slice V.fA V.fn V.fc) ∧ W.cell? ⟨g9, 1, none⟩ = some (.slice V.nA V.nn V.nc) ∧ W.cell? ⟨g9, 2, none⟩ = some (.slice V.kA V.kn V.kc))
      (first
        | exact K7.out _ (Below.refl _ _)
        | exact K7.out _ (Below.refl _ _).drew
        | exact K7.out _ hbu9
        | exact K7.out _ hbv9)
      (first
        | (go_simp; go_at_call 11; (with_reducible refine (HA7.out _ ((Below.refl _ _).drew)).mono ?_); rintro ee wu ⟨U, rfl, hu, hru, hbu⟩; have hbu9 : Below w7.heap.size w7 wu := below_undrew hbu)
        | (go_simp; go_at_call 15; (with_reducible refine (same_yesD U V wu hru ((HRV.out.below hbu9).mono hbu9.size) (hu.trans HZV.out)).mono ?_); rintro ee wv ⟨rfl, hbv⟩; have hbv9 : Below w7.heap.size w7 wv := hbu9.trans (hbv.mono hbu9.size)))
    all_goals (
      have HBE := Lib.hid hbv9
      have hcz8 := HCZ7.out.below hbv9 hg77
      have hcv8 := HCV.out.below hbv9 hg9
      have hb58 := HB6.out.trans ((HB7.out.trans (hbv9.mono hs7)).mono hs6)
      have hcx8 := HCX5.out.below hb58 (by omega)
      have hcy8 := HCY5.out.below hb58 (by omega)
      have HRZ8 := Lib.hid ((HRZ7.out.below hbv9).mono hbv9.size)
      have HRV8 := Lib.hid ((HRV.out.below hbv9).mono hbv9.size)
      have HBW8 := Lib.hid (HBW5.out.trans (hb58.mono HBW5.out.size))
      have hs8 := hb58.size
      obtain ⟨x0, x1, x2⟩ := cel3 hcz8
      obtain ⟨y0, y1, y2⟩ := cel3 hcv8
      obtain ⟨p0, p1, p2⟩ := cel3 hcx8
      obtain ⟨r0, r1, r2⟩ := cel3 hcy8
      obtain ⟨f0, f1, f2⟩ := cel_frs hcx8
      obtain ⟨h0, h1, h2⟩ := cel_frs hcy8
      have HCX8 := Lib.hid hcx8
      have HCY8 := Lib.hid hcy8
      clear hbu hbv hbu9 hbv9 hu hru hcz8 hcv8 hcx8 hcy8 hb58 hee
      have n1 : g9 ≠ w.heap.size := by have := HG7.out; have := HG9.out; omega
      have n2 : w.heap.size ≠ g9 := fun q => n1 q.symm
      have n3 : g7 ≠ w3.heap.size := by have := HG7.out; omega
      have n4 : w3.heap.size ≠ g7 := fun q => n3 q.symm
      have n5 : w.heap.size ≠ w3.heap.size := by omega
      have n6 : w3.heap.size ≠ w.heap.size := fun q => n5 q.symm
      obtain ⟨wp, hwp⟩ : ∃ wp, wp = ((wv.setCell ⟨w.heap.size, 0, none⟩ (.slice Z.fA Z.fn Z.fc)).setCell ⟨w.heap.size, 1, none⟩ (.slice Z.nA Z.nn Z.nc)).setCell ⟨w.heap.size, 2, none⟩ (.slice Z.kA Z.kn Z.kc) := ⟨_, rfl⟩
      have hcp : Cel wp w.heap.size 25 Z.cs := by rw [hwp]; exact cel_put3 HCX8.out
      have hcq : Cel wp w3.heap.size 32 Y.cs := by rw [hwp]; exact cel_far (cel_far (cel_far HCY8.out n6 0 _) n6 1 _) n6 2 _
      have hpz : RdD wv.heap.size wp Z := by rw [hwp]; exact rdd_away HRZ8.out HCX8.out sl3 (cell_put3 _ _ _ _ _)
      have hpv : RdD wv.heap.size wp V := by rw [hwp]; exact rdd_away HRV8.out HCX8.out sl3 (cell_put3 _ _ _ _ _)
      have hpb : Below w.heap.size w wp := by rw [hwp]; exact below_put3 HBW8.out (Nat.le_refl _) _ _ _
      have hps : wp.heap.size = wv.heap.size := by rw [hwp]; simp
      obtain ⟨w8, hw8⟩ : ∃ w8, w8 = (((wp.setCell ⟨w3.heap.size, 0, none⟩ (.slice V.fA V.fn V.fc)).setCell ⟨w3.heap.size, 1, none⟩ (.slice V.nA V.nn V.nc)).setCell ⟨w3.heap.size, 2, none⟩ (.slice V.kA V.kn V.kc)).drew := ⟨_, rfl⟩
      have hc1 : Cel w8 w.heap.size 25 Z.cs := by rw [hw8]; exact cel_far (cel_far (cel_far hcp n5 0 _) n5 1 _) n5 2 _
      have hc2 : Cel w8 w3.heap.size 32 V.cs := by rw [hw8]; exact cel_put3 hcq
      have hr1 : RdD wv.heap.size w8 Z := by rw [hw8]; exact (rdd_away hpz hcq sl3 (cell_put3 _ _ _ _ _)).drew
      have hr2 : RdD wv.heap.size w8 V := by rw [hw8]; exact (rdd_away hpv hcq sl3 (cell_put3 _ _ _ _ _)).drew
      have hb8 : Below w.heap.size w w8 := by rw [hw8]; exact (below_put3 hpb (by omega) _ _ _).drew
      have hz8 : w8.heap.size = wv.heap.size := by rw [hw8]; simp [hps]
      have HC1 := Lib.hid hc1
      have HC2 := Lib.hid hc2
      have HR1 := Lib.hid hr1
      have HR2 := Lib.hid hr2
      have HB8 := Lib.hid hb8
      have HZ8 := Lib.hid hz8
      rw [hwp] at hw8
      have HW8 := Lib.hid hw8
      clear hwp hcp hcq hpz hpv hpb hps hc1 hc2 hr1 hr2 hb8 hz8 hw8
      go_wp2_with fail
      go_region_with (fail)
      all_goals (
        rw [← HW8.out]
        clear HW8 x0 x1 x2 y0 y1 y2 p0 p1 p2 r0 r1 r2 f0 f1 f2 h0 h1 h2
        have hz8 := HZ8.out
        go_wp2
        go_roundw
        case rel => exact ⟨k + 1, Z, V, by omega, by omega, by go_num, HC1.out, HC2.out, HR1.out.mono (Nat.le_of_eq hz8.symm), HR2.out.mono (Nat.le_of_eq hz8.symm), HZV.out, right_sm HRG.out, HB8.out, by omega⟩
        case measure => simp [intOf]; omega))
end Go.Proofs.Ytoifdjpflannlaa.Dw
