/- What the document's SameNames and Same come to at disks that are alike, what boarderlaw08's means comes to, and the walk of DiskPlays. For all disks whose names fit. -/
import Derived.Test.YtogcmnpnhncjhaaGreatDwF
import Derived.Test.YtogcmnpnhncjhaaGreatDwAs
import Derived.Test.YtogcmnpnhncjhaaGreatDwDo
import Derived.Test.YtogcmnpnhncjhaaGreatDwH
import Derived.Test.YtogcmnpnhncjhaaGreatDwI
import Derived.Test.YtogcmnpnhncjhaaGreatDwE
import Derived.BigQuiet
import Derived.Deep.QuietTactic
import Derived.Laws.StructEq
import Derived.Deep.RegionHeld3
import Derived.Deep.CutRange
set_option maxRecDepth 8000
namespace Go.Proofs.YtogcmnpnhncjhaaGreat.Dw
open Go.RowKit By Dk

theorem eneq_self (s : N) (f : Int) (W : World) : (binOp .neq 64 (.agg #[.string (ba s), .int .i64 f]) (.agg #[.string (ba s), .int .i64 f])).run Tryz.prog W = .ok (.bool false) W := by
  have hS : Tryz.prog.underlying 64 = some (.struct (Tryz.prog.fieldsOf 64)) := by kernel_rfl
  have hp : Tryz.prog.stoodInHeld 64 = false := by kernel_rfl
  have u3 := Tryz.underlying3
  have a3 := Tryz.isAgg3
  have z3 := Tryz.sizeOf3
  have u9 := Tryz.underlying9
  have a9 := Tryz.isAgg9
  have z9 := Tryz.sizeOf9
  rw [run_neq_struct, show (10000 : Nat) = 9999 + 1 from rfl, run_equalIn_agg W 9999 64 _ _ hS hp]
  simp only [Program.fieldsOf, Tryz.underlying64]
  go_simp
set_option maxHeartbeats 1000000 in
theorem sameNames_yes (A : Option Addr) (n c : Nat) (A' : Option Addr) (n' c' : Nat) (l : List E) (w : World) (h : RdE w.heap.size w A n c l) (h' : RdE w.heap.size w A' n' c' l) :
    Calls Tryz.prog 24 #[.slice A n c, .slice A' n' c'] w fun e w' => e = .returned (.bool true) ∧ Below w.heap.size w w' := by
  have hl := h.len
  have hl' := h'.len
  have hnn : n' = n := by omega
  subst hnn
  have hmx := h.max
  have hcap := h.cap
  clear hl hl'
  go_enter Tryz.func24, Tryz.ntmps24
  go_wp2
  go_loopw [5] (fun i wr => ∃ k : Nat, k ≤ n' ∧ i = .int .i64 k ∧ Below w.heap.size w wr) (fun i _ => n' - (intOf i).toNat)
  case atStart => exact ⟨0, by omega, rfl, Below.refl _ _⟩
  case round =>
    obtain ⟨k, hk, rfl, hbw⟩ := hrel
    by_cases hlt : k < n'
    · obtain ⟨b, o, s, f, rfl, _, HE, d1, d2⟩ := atE (h.below hbw) hlt
      obtain ⟨b', o', s', f', rfl, _, HE', e1, e2⟩ := atE (h'.below hbw) hlt
      obtain ⟨rfl, rfl⟩ : s = s' ∧ f = f' := by
        have q := HE.out.symm.trans HE'.out
        simp only [Option.some.injEq, Prod.mk.injEq] at q
        exact q
      have hkz : (k : Int) < (n' : Int) := by omega
      have HQ := fun W => eneq_self s f W
      clear HE HE'
      go_wp2_with fail
      go_quiet (fail)
      go_wp2
      go_roundw
      case rel => exact ⟨k + 1, by omega, by go_num, below_drewN hbw _⟩
      case measure => simp [intOf]; omega
    · obtain rfl : k = n' := by omega
      go_wp2
      go_ret
      exact ⟨rfl, hbw⟩
theorem file_same {xs ys : List Fv} (h : fsOf xs = fsOf ys) {k : Nat} {u v : Fv} (hu : xs[k]? = some u) (hv : ys[k]? = some v) : u.l = v.l ∧ u.s = v.s := by
  have h1 := fs_get hu
  have h2 := fs_get hv
  rw [h, h2] at h1
  injection h1 with h1
  exact ⟨(congrArg F.d h1).symm, (congrArg F.s h1).symm⟩
set_option maxHeartbeats 4000000 in
theorem same_yesD (x y : Dv) (w : World) (hx : RdD w.heap.size w x) (hy : RdD w.heap.size w y) (he : x.d = y.d) :
    Calls Tryz.prog 9 #[x.v, y.v] w fun e w' => e = .returned (.bool true) ∧ Below w.heap.size w w' := by
  have hef : fsOf x.xs = fsOf y.xs := congrArg D.fs he
  have hen : x.now = y.now := congrArg D.now he
  have hek : x.kept = y.kept := congrArg D.kept he
  have hfn : x.fn = y.fn := by
    have h1 := hx.f.len
    have h2 := hy.f.len
    have h3 := congrArg List.length hef
    rw [fs_len, fs_len] at h3
    omega
  have hcx := hx.f.cap
  have hmx := hx.f.max
  obtain ⟨w1, hw1⟩ : ∃ w1, w1 = (w.alloc (.cells x.cs 34)).alloc (.cells y.cs 34) := ⟨_, rfl⟩
  have hb1 : Below w.heap.size w w1 := by rw [hw1]; exact (alloc_more _ _).alloc (by simp) _
  have HC0 := Lib.hid (show Cel w1 w.heap.size 34 x.cs by rw [hw1]; exact (Cel.born w _ _).below (alloc_more _ _) (by simp))
  have HC1 : Hid (Cel w1 (w.heap.size + 1) 34 y.cs) := by
    show Cel _ _ _ _
    rw [hw1]
    have := Cel.born (w.alloc (.cells x.cs 34)) 34 y.cs
    simpa using this
  have HX := Lib.hid hx
  have HY := Lib.hid hy
  have HB1 := Lib.hid hb1
  have HEF := Lib.hid hef
  have HS1 := Lib.hid (sameNames_yes x.nA x.nn x.nc y.nA y.nn y.nc x.now w1 ((hx.n.below hb1).mono hb1.size) (by rw [hen]; exact (hy.n.below hb1).mono hb1.size))
  have HEK := Lib.hid hek
  have HFN := Lib.hid hfn
  have hneq : ((x.fn : Int) != (y.fn : Int)) = false := by rw [hfn]; simp
  have hneq2 : (x.fn != y.fn) = false := by rw [hfn]; simp
  obtain ⟨q0, q1, q2⟩ := ref_cel3 HC0.out
  obtain ⟨p0, p1, p2⟩ := ref_cel3 HC1.out
  rw [hw1] at q0 q1 q2 p0 p1 p2
  clear hx hy hb1 he hef hen hek hfn
  go_enter Tryz.func9, Tryz.ntmps9
  go_wp2_with fail
  rw [← hw1]
  clear hw1 q0 q1 q2 p0 p1 p2
  refine HS1.out.mono ?_
  rintro e w2 ⟨rfl, hb2⟩
  have HB2 := Lib.hid (HB1.out.trans (hb2.mono HB1.out.size))
  have HC02 := Lib.hid (HC0.out.below hb2 HC0.out.lt)
  have HC12 := Lib.hid (HC1.out.below hb2 HC1.out.lt)
  have HS2 := Lib.hid (sameNames_yes x.kA x.kn x.kc y.kA y.kn y.kc x.kept w2 ((HX.out.k.below HB2.out).mono HB2.out.size) (by rw [HEK.out]; exact (HY.out.k.below HB2.out).mono HB2.out.size))
  obtain ⟨q0, q1, q2⟩ := ref_cel3 HC02.out
  obtain ⟨p0, p1, p2⟩ := ref_cel3 HC12.out
  clear hb2 HS1 HC0 HC1
  go_wp2_with fail
  refine HS2.out.mono ?_
  rintro e w3 ⟨rfl, hb3⟩
  have HB3 := Lib.hid (HB2.out.trans (hb3.mono HB2.out.size))
  have HC03 := Lib.hid (HC02.out.below hb3 HC02.out.lt)
  have HC13 := Lib.hid (HC12.out.below hb3 HC12.out.lt)
  clear hb3 HS2 HC02 HC12 q0 q1 q2 p0 p1 p2
  go_wp2
  go_loopw [5] (fun i wr => ∃ k : Nat, k ≤ x.fn ∧ i = .int .i64 k ∧ Below w3.heap.size w3 wr) (fun i _ => x.fn - (intOf i).toNat)
  case atStart => exact ⟨0, by omega, rfl, Below.refl _ _⟩
  case round =>
    obtain ⟨k, hk, rfl, hbw⟩ := hrel
    have HBR := Lib.hid (HB3.out.trans (hbw.mono HB3.out.size))
    obtain ⟨q0, q1, q2⟩ := ref_cel3 (HC03.out.below hbw HC03.out.lt)
    obtain ⟨p0, p1, p2⟩ := ref_cel3 (HC13.out.below hbw HC13.out.lt)
    by_cases hlt : k < x.fn
    · have hky : k < y.fn := by have := HFN.out; omega
      obtain ⟨b, o, u, eA, _, HE, hbs, d1, d2⟩ := atF (HX.out.f.below HBR.out) hlt
      obtain ⟨b', o', v, eA', _, HE', hbs', e1, e2⟩ := atF (HY.out.f.below HBR.out) hky
      obtain ⟨hul, hus⟩ := file_same HEF.out HE.out HE'.out
      rw [eA] at q0
      rw [eA'] at p0
      obtain ⟨q, hq⟩ : ∃ q : ByteArray, q = ⟨u.l.toArray⟩ := ⟨_, rfl⟩
      have hcv1 : ∀ j, (convert 39 9 (.slice u.A u.l.length u.c)).run Tryz.prog (wr.drewN j) = .ok (.string q) (wr.drewN j) := fun j => by rw [hq]; exact byP.str (w := wr.drewN j) hbs.bs
      have hcv2 : ∀ j, (convert 39 9 (.slice v.A v.l.length v.c)).run Tryz.prog (wr.drewN j) = .ok (.string q) (wr.drewN j) := fun j => by rw [hq, hul]; exact byP.str (w := wr.drewN j) hbs'.bs
      have hss : (u.s != v.s) = false := by rw [hus]; simp
      have hqq : (q.toList == q.toList) = true := by simp
      have hkz : (k : Int) < (x.fn : Int) := by omega
      have hkz2 : (k : Int) < (y.fn : Int) := by omega
      clear HE HE' hbs hbs' eA eA' hul hus hq q1 q2 p1 p2
      go_wp2_with fail
      go_big_quiet (fail)
      go_wp2
      go_roundw
      case rel => exact ⟨k + 1, by omega, by go_num, below_drewN hbw _⟩
      case measure => simp [intOf]; omega
    · obtain rfl : k = x.fn := by omega
      go_wp2
      go_ret
      exact ⟨rfl, HBR.out⟩
end Go.Proofs.YtogcmnpnhncjhaaGreat.Dw
namespace Go.Proofs.YtogcmnpnhncjhaaGreat.Dw
open Go.RowKit By Dk

end Go.Proofs.YtogcmnpnhncjhaaGreat.Dw
namespace Go.Proofs.YtogcmnpnhncjhaaGreat.Dw
open Go.RowKit By Dk

theorem doK_good (d : D) (a : Av) : RightD (doK d a).1 := by
  unfold doK
  split
  · exact append_right (good_right d) _ _
  split
  · exact sync_right (good_right d) _
  split
  · exact cut_right (good_right d) _ _
  split
  · exact rename_right (good_right d) _ _
  split
  · exact remove_right (good_right d) _
  split
  · exact syncDir_right (good_right d)
  · exact crash_right (good_right d) _ _
def StPl (w w4 : World) (gk : Nat) (n : Nat) (i : Value) (wr : World) : Prop :=
  ∃ (k : Nat) (X Y : Dv), k ≤ n ∧ k ≤ 20 ∧ i = .int .i64 k ∧ Cel wr w.heap.size 25 X.cs ∧ Cel wr gk 34 Y.cs ∧ RdD wr.heap.size wr X ∧ RdD wr.heap.size wr Y ∧ X.d = Y.d ∧ Sm X.d ∧ Below w.heap.size w wr ∧ w4.heap.size ≤ wr.heap.size
end Go.Proofs.YtogcmnpnhncjhaaGreat.Dw
