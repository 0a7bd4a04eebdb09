/- What disk.survivor and Crash come to. For all disks whose names fit. -/
import Derived.Test.YtlefpodonkdbeaaGreatDwC
section
set_option maxRecDepth 8000
namespace Go.Proofs.YtlefpodonkdbeaaGreat.Dw
open Go.RowKit By Dk

/-! ### Mathematics -/
theorem left_some (f : F) (o : Option Int) : leftN f (some (o.getD 0)) = leftN f o := by
  cases o with
  | none => rfl
  | some x => rfl
theorem crash_files {d : D} {keep : List Int} (D' : D) : ∀ (m : List E) (i : Nat), (∀ (j : Nat) (e : E), m[j]? = some e → fileAt D' e.2 = crashF (fileAt d e.2) keep[i + j]?) → (filesOf m).map (fileAt D') = crashFs d keep i m
  | [], _, _ => rfl
  | e :: m, i, h => by
    show fileAt D' e.2 :: (filesOf m).map (fileAt D') = _
    rw [crashFs, h 0 e rfl, crash_files D' m (i + 1) fun j e' he => by
      have := h (j + 1) e' (by simpa using he)
      rw [show i + 1 + j = i + (j + 1) by omega]
      exact this]
    rfl
theorem crash_names (c : List Int) : ∀ (m : List E) (i : Nat), (∀ (j : Nat) (e : E), m[j]? = some e → idx c e.2 = ((i + j : Nat) : Int)) → renum m c = crashEs i m
  | [], _, _ => rfl
  | e :: m, i, h => by
    show (e.1, idx c e.2) :: renum m c = _
    rw [crashEs, h 0 e rfl, crash_names c m (i + 1) fun j e' he => by
      have := h (j + 1) e' (by simpa using he)
      rw [show i + 1 + j = i + (j + 1) by omega]
      exact this]
    rfl
theorem files_nodup {l : List E} (ho : Dk.Ord l) : (filesOf l).Nodup := by
  unfold Dk.Ord at ho
  unfold filesOf
  exact List.pairwise_map.2 (ho.imp fun hab => hab.2)
theorem came_twice {l : List E} (ho : Dk.Ord l) (fs : List F) : cameD ⟨fs, l, l⟩ = filesOf l := by
  show firsts (filesOf (l ++ l)) = _
  have e : filesOf (l ++ l) = filesOf l ++ filesOf l := by unfold filesOf; rw [List.map_append]
  rw [e]
  unfold firsts
  rw [from_app, from_new (files_nodup ho) (fun _ _ => List.not_mem_nil), List.nil_append]
  exact from_old fun _ hf => hf
theorem crash_math {d : D} {l : List E} (ho : Dk.Ord l) {keep : List Int} (fs : List F) (h : ∀ (i : Nat) (e : E), l[i]? = some e → fileAt ⟨fs, l, l⟩ e.2 = crashF (fileAt d e.2) keep[i]?) :
    orderedD ⟨fs, l, l⟩ = ⟨crashFs d keep 0 l, crashEs 0 l, crashEs 0 l⟩ := by
  have hn : renum l (filesOf l) = crashEs 0 l := crash_names _ l 0 fun j e he => by
    have hj : j < (filesOf l).length := by have := (List.getElem?_eq_some_iff.1 he).1; unfold filesOf; rwa [List.length_map]
    have hg : (filesOf l)[j] = e.2 := by
      have : (filesOf l)[j]? = some e.2 := by unfold filesOf; rw [List.getElem?_map, he]; rfl
      exact (List.getElem?_eq_some_iff.1 this).2
    have := List.Nodup.idxOf_getElem (files_nodup ho) j hj
    rw [hg] at this
    unfold idx
    rw [this, Nat.zero_add]
  unfold orderedD
  rw [came_twice ho]
  show D.mk _ (renum l (filesOf l)) (renum l (filesOf l)) = _
  rw [hn, crash_files ⟨fs, l, l⟩ l 0 fun j e he => by rw [Nat.zero_add]; exact h j e he]
/-- What the loop has done to the files behind k names. -/
def Crashed (d : D) (l : List E) (keep : List Int) (k : Nat) (fs : List F) : Prop :=
  fs.length = d.fs.length ∧ (∀ i, i < k → ∀ e, l[i]? = some e → fs[e.2.toNat]? = some (crashF (fileAt d e.2) keep[i]?)) ∧ (∀ j : Nat, (∀ i, i < k → ∀ e, l[i]? = some e → e.2.toNat ≠ j) → fs[j]? = d.fs[j]?)
theorem crashed_zero (d : D) (l : List E) (keep : List Int) : Crashed d l keep 0 d.fs := ⟨rfl, fun _ hi => absurd hi (Nat.not_lt_zero _), fun _ _ => rfl⟩
theorem crashed_get {d : D} {l : List E} {keep : List Int} {k : Nat} {fs : List F} (hl : Named l d.fs.length) (h : Crashed d l keep k fs) {s : N} {f : Int} (hk : l[k]? = some (s, f)) : fs[f.toNat]? = d.fs[f.toNat]? := by
  refine h.2.2 _ fun i hi e he hx => ?_
  have h0 := (hl.1 _ (List.mem_of_getElem? he)).2
  have h1 := (hl.1 _ (List.mem_of_getElem? hk)).2
  have h1' : 0 ≤ f ∧ f < (d.fs.length : Int) := h1
  have hfe : e.2 = f := by omega
  have he2 := (List.getElem?_eq_some_iff.1 he).1
  have hk2 := (List.getElem?_eq_some_iff.1 hk).1
  have hp := List.pairwise_iff_getElem.1 hl.2 i k he2 hk2 hi
  rw [(List.getElem?_eq_some_iff.1 he).2, (List.getElem?_eq_some_iff.1 hk).2] at hp
  exact hp.2 hfe
theorem crashed_next {d : D} {l : List E} {keep : List Int} {k : Nat} {fs : List F} (hl : Named l d.fs.length) (h : Crashed d l keep k fs) {s : N} {f : Int} (hk : l[k]? = some (s, f)) : Crashed d l keep (k + 1) (fs.set f.toNat (crashF (fileAt d f) keep[k]?)) := by
  have h1 : 0 ≤ f ∧ f < (d.fs.length : Int) := (hl.1 _ (List.mem_of_getElem? hk)).2
  obtain ⟨a, b, c⟩ := h
  have hk2 := (List.getElem?_eq_some_iff.1 hk).1
  refine ⟨by rw [List.length_set]; exact a, fun i hi e he => ?_, fun j hj => ?_⟩
  · by_cases hik : i = k
    · subst hik
      rw [hk] at he
      injection he with he
      subst he
      rw [List.getElem?_set_self (by rw [a]; omega)]
    · have hi2 : i < k := by omega
      have he2 := (List.getElem?_eq_some_iff.1 he).1
      have hp := List.pairwise_iff_getElem.1 hl.2 i k he2 hk2 hi2
      rw [(List.getElem?_eq_some_iff.1 he).2, (List.getElem?_eq_some_iff.1 hk).2] at hp
      have h0 := (hl.1 _ (List.mem_of_getElem? he)).2
      have hne : f.toNat ≠ e.2.toNat := by
        have := hp.2
        simp only at this
        omega
      rw [List.getElem?_set_ne hne]
      exact b i hi2 e he
  · have hne : f.toNat ≠ j := hj k (by omega) _ hk
    rw [List.getElem?_set_ne hne]
    exact c j fun i hi => hj i (by omega)
theorem crashed_end {d : D} {l : List E} {keep : List Int} {fs : List F} (h : Crashed d l keep l.length fs) (i : Nat) (e : E) (he : l[i]? = some e) : fileAt ⟨fs, l, l⟩ e.2 = crashF (fileAt d e.2) keep[i]? := by
  have := h.2.1 i (List.getElem?_eq_some_iff.1 he).1 e he
  unfold fileAt at *
  rw [List.getD_eq_getElem?_getD]
  show (fs[e.2.toNat]?).getD _ = _
  rw [this]
  rfl

/-! ### survivor -/
theorem bsu_take {U n m c : Nat} {w : World} {A : Option Addr} {l : List UInt8} (h : BsU U w A n c l) (hm : m ≤ n) : BsU U w A m c (l.take m) := by
  have hl := h.len
  refine ⟨⟨by rw [List.length_take]; omega, Nat.le_trans hm h.bs.cap, h.1.2.2.1, fun hn => ?_⟩, fun hn => h.2 (by omega)⟩
  obtain ⟨b, o, e, hc⟩ := h.1.2.2.2 (by omega)
  refine ⟨b, o, e, fun i hi => ?_⟩
  have hi2 := hi
  rw [List.length_take] at hi2
  rw [hc i (by omega)]
  simp
def SuR (U : Nat) (w : World) (c : Nat) (g : F) (e : Ending) (w' : World) : Prop := ∃ A', e = .returned (.agg #[.slice A' g.d.length c, .int .i64 g.s]) ∧ BsU U w' A' g.d.length c g.d ∧ Below w.heap.size w w'
theorem ret_file {fn : Func} {p : Tmp} (hres : fn.results = #[.cell p 63]) (tmps : Array Value) (w : World) (g : Nat) (cs : Array Value) (hp : tmps.getD p undef = .pointer (some ⟨g, 0, none⟩)) (hc : Cel w g 63 cs) (hs : cs.size = 2) :
    (results fn tmps).run Tryz.prog w = .ok (.agg cs) w := results_cell_row hres tmps w g _ cs (0, 0) _ hp hc Tryz.underlying63 rfl (by rw [hs]; kernel_rfl)
set_option maxHeartbeats 1000000 in
theorem survivor_any (U : Nat) (A : Option Addr) (c : Nat) (l : List UInt8) (s more : Int) (w : World) (h : BsU U w A l.length c l) (hU : U ≤ w.heap.size) (hok : FileOk ⟨l, s⟩) :
    Calls Tryz.prog 40 #[.agg #[.slice A l.length c, .int .i64 s], .int .i64 more] w (SuR U w c (crashF ⟨l, s⟩ (some more))) := by
  obtain ⟨h1, h2, h3⟩ := hok
  simp only at h1 h2 h3
  have hcap := h.bs.cap
  have hmax := h.bs.max
  obtain ⟨m, hm⟩ : ∃ m, m = leftN ⟨l, s⟩ (some more) := ⟨_, rfl⟩
  have hle := left_le (f := ⟨l, s⟩) ⟨h1, h2, h3⟩ (some more)
  rw [← hm] at hle
  simp only at hle
  have HG : Hid (crashF ⟨l, s⟩ (some more) = ⟨l.take m, (m : Nat)⟩) := by show crashF _ _ = _; unfold crashF; rw [← hm]
  have HLL : Hid ((l.take m).length = m) := by show (l.take m).length = m; rw [List.length_take]; omega
  have HS := Lib.hid (bsu_take h hle.2)
  have hkey : s + min (max more 0) (((l.length : Nat) : Int) - s) = (m : Int) := by
    rw [hm]
    unfold leftN
    simp only
    split
    · split <;> omega
    · omega
  have HK := Lib.hid hkey
  clear h hm hkey
  go_enter Tryz.func40, Tryz.ntmps40
  go_wp2
  (try simp only [Exit.inBlock, Exit.then])
  rw [HK.out, Int.toNat_natCast]
  have hc := Cel.born (w.alloc (.cells #[.slice A l.length c, .int .i64 s] 63)) 63 #[.slice A m c, .int .i64 (m : Int)]
  rw [show (w.alloc (.cells #[.slice A l.length c, .int .i64 s] 63)).heap.size = w.heap.size + 1 by simp] at hc
  refine bodyPost_ret (ret_file rfl _ _ (w.heap.size + 1) #[.slice A m c, .int .i64 (m : Int)] rfl hc rfl) rfl ?_
  have hb : Below w.heap.size w ((w.alloc (.cells #[.slice A l.length c, .int .i64 s] 63)).alloc (.cells #[.slice A m c, .int .i64 (m : Int)] 63)) := ((Below.refl _ _).alloc (Nat.le_refl _) _).alloc (by simp) _
  rw [HG.out]
  refine ⟨A, ?_, ?_, hb⟩
  · show _ = Ending.returned (.agg #[.slice A (l.take m).length c, .int .i64 (m : Int)])
    rw [HLL.out]
  · show BsU _ _ A (l.take m).length c (l.take m)
    rw [HLL.out]
    exact HS.out.below (hb.mono hU)
end Go.Proofs.YtlefpodonkdbeaaGreat.Dw
end
/- What disk.Crash comes to. For all disks whose names fit, any keeping. -/
section
set_option maxRecDepth 8000
namespace Go.Proofs.YtlefpodonkdbeaaGreat.Dw
open Go.RowKit By Dk

theorem set_f {ys : List Fv} {j : Nat} {q : Fv} {g : F} (h : q.f = g) : fsOf (ys.set j q) = (fsOf ys).set j g := by rw [fs_set, h]
def StCr (d : D) (l : List E) (keep : List Int) (U B fn n : Nat) (A4 : Option Addr) (c4 : Nat) (w4 : World) (i : Value) (wr : World) : Prop :=
  ∃ (k : Nat) (ys : List Fv), k ≤ n ∧ i = .int .i64 k ∧ OwnG layF 63 B wr A4 fn c4 ys ∧ Byt U wr ys ∧ (∀ u ∈ ys, FileOk u.f) ∧ Crashed d l keep k (fsOf ys) ∧ Below B w4 wr
set_option maxHeartbeats 4000000 in
theorem crash_now (x : Dv) (Ak : Option Addr) (nk ck : Nat) (keep : List Int) (w : World) (h : RdD w.heap.size w x) (hsm : Sm x.d) (hk : Rd w Ak nk ck (intV keep)) :
    Calls Tryz.prog 21 #[x.v, .slice Ak nk ck, .bool true] w (DR w (fun v => v) (crashK x.d keep true)) := by
  obtain ⟨w1, hw1⟩ : ∃ w1, w1 = (w.alloc (.cells x.cs 30)).alloc (.cells #[.slice none 0 0, .slice none 0 0, .slice none 0 0] 30) := ⟨_, rfl⟩
  have S1 : St w w1 x.cs := by rw [hw1]; exact St.start x w
  have HV := Lib.hid (valid_any w.heap.size x w1 (h.below S1.b) S1.b.size hsm)
  have HS1 := Lib.hid S1
  have HKP := Lib.hid hk
  clear hk
  clear h S1 hsm
  go_enter Tryz.func21, Tryz.ntmps21
  go_wp2_with fail
  rw [← hw1]
  clear hw1
  refine HV.out.mono ?_
  rintro e w2 ⟨y, rfl, hy, hry, hb2⟩
  have S2 := HS1.out.below hb2 HS1.out.s
  obtain ⟨q0, q1, q2⟩ := cel3 S2.c0
  obtain ⟨f0, f1, f2⟩ := cel_frs S2.c0
  obtain ⟨S3, hr3⟩ := HS1.out.valid hb2 hry
  obtain ⟨w3, hw3⟩ : ∃ w3, w3 = (((w2.setCell ⟨w.heap.size, 0, none⟩ (.slice y.fA y.fn y.fc)).setCell ⟨w.heap.size, 1, none⟩ (.slice y.nA y.nn y.nc)).setCell ⟨w.heap.size, 2, none⟩ (.slice y.kA y.kn y.kc)) := ⟨_, rfl⟩
  rw [← hw3] at S3 hr3
  have HS3 := Lib.hid S3
  have HR3 := Lib.hid hr3
  have HRD : Hid (RightD y.d) := by show RightD _; rw [hy]; exact good_right _
  have HY := Lib.hid hy
  have h20 : y.fn ≤ 20 := by
    have := (loose_facts HRD.out.2.1 hr3 (by have := HRD.out.1; omega)).1
    have := HRD.out.1
    omega
  have hzl := (loose_facts HRD.out.2.1 hr3 (by have := HRD.out.1; omega)).1
  have HL : Hid (Named y.now y.d.fs.length) := HRD.out.2.1.1
  have hnl := hr3.n.len
  have hln : y.nn ≤ y.fn := by have := named_len HL.out; omega
  have HNL := Lib.hid hnl
  have HZL := Lib.hid hzl
  have hlc := hr3.n.cap
  have hlm := hr3.n.max
  have hfc := hr3.f.cap
  have hfm := hr3.f.max
  have HCL := Lib.hid (cloneF_any w.heap.size y.fA y.fn y.fc y.xs w3 hr3.f.1 S3.b.size (by omega))
  have H : Hid (crashK x.d keep true = ⟨crashFs y.d keep 0 y.now, crashEs 0 y.now, crashEs 0 y.now⟩) := by
    show crashG (goodD x.d) keep _ = _
    rw [← hy]
    rfl
  have HOKS0 : Hid (∀ u ∈ y.xs, FileOk u.f) := fun u hu => HRD.out.2.1.2.2 u.f (List.mem_map.2 ⟨u, hu, rfl⟩)
  clear hry hb2 S2 S3 hr3 hy hzl hnl
  go_wp2_with fail
  rw [← hw3]
  clear hw3 q0 q1 q2 f0 f1 f2
  refine HCL.out.mono ?_
  rintro e w4 ⟨A4, c4, rfl, hown4, hb4⟩
  have HS4 := Lib.hid (HS3.out.below hb4 HS3.out.s)
  have HR4 := Lib.hid (HR3.out.below (hb4.mono HS3.out.b.size))
  have HKP4 := Lib.hid (HKP.out.below HS4.out.b)
  obtain ⟨B6, hB6e⟩ : ∃ B6, B6 = w3.heap.size := ⟨_, rfl⟩
  have hs3 := HS3.out.s
  have hs34 := hb4.size
  rw [← hB6e] at hown4 hs3 hs34
  have hB6 : w.heap.size ≤ B6 := by omega
  clear hb4 hB6e
  go_wp2
  go_loopw [24] (fun i wr => StCr y.d y.now keep w.heap.size B6 y.fn y.nn A4 c4 w4 i wr) (fun i _ => y.nn - (intOf i).toNat)
  case atStart => exact ⟨0, y.xs, by omega, rfl, hown4, HR4.out.f.2, HOKS0.out, crashed_zero _ _ _, Below.refl _ _⟩
  case round =>
    obtain ⟨k, ys, hk, rfl, hown, hby, hoks, hcr, hbw⟩ := hrel
    have HBY := Lib.hid hby
    have HOKS := Lib.hid hoks
    have HBW := Lib.hid hbw
    have HOWN := Lib.hid hown
    by_cases hlt : k < y.nn
    · obtain ⟨b, o, s, f, eA, hbb, HE, m1, m2⟩ := atE ((HR4.out.n.below (hbw.mono hB6))) hlt
      rw [eA]
      obtain ⟨f0, f1⟩ : 0 ≤ f ∧ f < (y.d.fs.length : Int) := (HL.out.1 _ (List.mem_of_getElem? HE.out)).2
      obtain ⟨j, rfl⟩ := Int.eq_ofNat_of_zero_le f0
      have hjn : j < y.fn := by have := HZL.out; omega
      obtain ⟨g, rfl, hgB, hgl⟩ := headG hown (by omega)
      obtain ⟨v, hv, d1, d2⟩ := atOF hown hjn
      have HYL : Hid (ys.length = y.fn) := hown.2
      have hvok : FileOk ⟨v.l, v.s⟩ := hoks v (List.mem_of_getElem? hv)
      have hbv : BsU w.heap.size wr v.A v.l.length v.c v.l := hby v (List.mem_of_getElem? hv)
      have HVF : Hid (fileAt y.d (j : Int) = v.f) := by
        have h1 := crashed_get HL.out hcr HE.out
        rw [show ((j : Int)).toNat = j by omega, fs_get hv] at h1
        show y.d.fs.getD ((j : Int)).toNat ⟨[], 0⟩ = _
        rw [show ((j : Int)).toNat = j by omega, List.getD_eq_getElem?_getD, ← h1]
        rfl
      have HNX : Hid (Crashed y.d y.now keep (k + 1) ((fsOf ys).set j (crashF (fileAt y.d (j : Int)) keep[k]?))) := by
        have := crashed_next HL.out hcr HE.out
        rwa [show ((j : Int)).toNat = j by omega] at this
      obtain ⟨w5, hw5⟩ : ∃ w5, w5 = wr.alloc (.cells #[.string (ba s), .int .i64 (j : Int)] 68) := ⟨_, rfl⟩
      have hal : Below wr.heap.size wr w5 := by rw [hw5]; exact alloc_more _ _
      have HAL := Lib.hid hal
      have hc5 : Cel w5 wr.heap.size 68 #[.string (ba s), .int .i64 (j : Int)] := by rw [hw5]; exact Cel.born _ _ _
      have HC5 := Lib.hid hc5
      have c1 : w5.cell? ⟨wr.heap.size, 1, none⟩ = some (.int .i64 (j : Int)) := by rw [hc5.cell]; rfl
      have t1 : w5.cell? ⟨g, j * 2, none⟩ = some (.slice v.A v.l.length v.c) := (hal.cell (p := ⟨g, j * 2, none⟩) hgl).trans d1
      have t2 : w5.cell? ⟨g, j * 2 + 1, none⟩ = some (.int .i64 v.s) := (hal.cell (p := ⟨g, j * 2 + 1, none⟩) hgl).trans d2
      have hswr : w3.heap.size ≤ w3.heap.size := Nat.le_refl _
      have hs4w := hbw.size
      have hs5 := hal.size
      have hownc := hown.rd.cap
      have hownm := hown.rd.max
      have hj0 : (0 : Int) ≤ (j : Int) := by omega
      have HKR := HKP.out.below (HS4.out.b.trans (hbw.mono hB6))
      clear hby hoks hbw hcr hown hc5 hv f0 f1
      by_cases hkk : k < nk
      · obtain ⟨b2, o2, eK, hc⟩ := HKR.at_ hkk
        have hkl : k < keep.length := by have := HKR.len; rw [intV_len] at this; omega
        have hcell := hc k (by rw [intV_len]; exact hkl)
        rw [intV_get hkl] at hcell
        have hcell5 := (hal.cell (World.block_lt_of_cell? wr _ hcell)).trans hcell
        have hb2lt : b2 < wr.heap.size := World.block_lt_of_cell? wr _ hcell
        have hkc := HKR.cap
        have hkm := HKR.max
        rw [eK]
        obtain ⟨mo, hmo⟩ : ∃ mo, mo = keep[k] := ⟨_, rfl⟩
        rw [← hmo] at hcell hcell5
        have HMO : Hid (∀ F, leftN F (some mo) = leftN F keep[k]?) := fun F => by rw [List.getElem?_eq_getElem hkl, hmo]
        clear hal hc hkl hmo
        have HCG : Hid (crashF ⟨v.l, v.s⟩ (some mo) = crashF (fileAt y.d (j : Int)) keep[k]?) := by
          show crashF _ _ = _
          rw [HVF.out]
          show crashF v.f _ = _
          unfold crashF
          rw [HMO.out]
        have HSU := Lib.hid (survivor_any w.heap.size v.A v.c v.l v.s mo w5.drew (hbv.below (HAL.out.drew.mono (show w.heap.size ≤ wr.heap.size by omega))) (by show w.heap.size ≤ w5.heap.size; omega) hvok)
        have HQ := Lib.hid (crashF_ok hvok (some mo))
        clear hvok hbv
        go_wp2_with fail
        rw [← hw5]
        clear hw5
        go_region_with ((go_at_call 40; refine HSU.out.mono ?_; rintro e w6 ⟨A6, rfl, hbs6, hb6⟩; have hb56 : Below w5.heap.size w5 w6 := below_undrew hb6; have hb06 := HAL.out.trans (hb56.mono HAL.out.size); have hown6 := HOWN.out.below hb06; have s1 : w6.cell? ⟨wr.heap.size, 1, none⟩ = some (.int .i64 (j : Int)) := (by rw [(HC5.out.below hb56 HC5.out.lt).cell]; rfl); have e1 : w6.cell? ⟨g, j * 2, none⟩ = some (.slice v.A v.l.length v.c) := (hb06.cell (p := ⟨g, j * 2, none⟩) hgl).trans d1; have e2 : w6.cell? ⟨g, j * 2 + 1, none⟩ = some (.int .i64 v.s) := (hb06.cell (p := ⟨g, j * 2 + 1, none⟩) hgl).trans d2; have f1 : w6.frozen? ⟨g, j * 2, none⟩ = false := World.ownsRow.frozenAt hown6.1 _; have f2 : w6.frozen? ⟨g, j * 2 + 1, none⟩ = false := World.ownsRow.frozenAt hown6.1 _))
        all_goals (
          go_wp2
          go_roundw
          case rel =>
            have hput := putF hown6 (i := j) (by have := HYL.out; omega) ⟨A6, v.c, (crashF ⟨v.l, v.s⟩ (some mo)).d, (crashF ⟨v.l, v.s⟩ (some mo)).s⟩
            have hbp : Below B6 w6 ((w6.setCell ⟨g, j * 2, none⟩ (.slice A6 (crashF ⟨v.l, v.s⟩ (some mo)).d.length v.c)).setCell ⟨g, j * 2 + 1, none⟩ (.int .i64 (crashF ⟨v.l, v.s⟩ (some mo)).s)) := ((Below.refl _ _).setCell (p := ⟨g, j * 2, none⟩) hgB _).setCell (p := ⟨g, j * 2 + 1, none⟩) hgB _
            refine ⟨k + 1, ys.set j ⟨A6, v.c, (crashF ⟨v.l, v.s⟩ (some mo)).d, (crashF ⟨v.l, v.s⟩ (some mo)).s⟩, by omega, by go_num, hput, fun u hu => ?_, fun u hu => ?_, ?_, ?_⟩
            · rcases mem_set hu with hu | rfl
              · exact ((HBY.out u hu).below (hb06.mono (by omega))).below (hbp.mono hB6)
              · exact hbs6.below (hbp.mono hB6)
            · rcases mem_set hu with hu | rfl
              · exact HOKS.out u hu
              · exact HQ.out
            · have := HNX.out
              rw [← HCG.out] at this
              rw [set_f (g := crashF ⟨v.l, v.s⟩ (some mo)) rfl]
              exact this
            · exact (HBW.out.trans (hb06.mono (by omega))).trans hbp
          case measure => simp [intOf]; omega)
      · have HMO : Hid (∀ F, leftN F (some 0) = leftN F keep[k]?) := fun F => by
          have := HKR.len
          rw [intV_len] at this
          rw [List.getElem?_eq_none (by omega)]
          rfl
        clear hal
        have HCG : Hid (crashF ⟨v.l, v.s⟩ (some 0) = crashF (fileAt y.d (j : Int)) keep[k]?) := by
          show crashF _ _ = _
          rw [HVF.out]
          show crashF v.f _ = _
          unfold crashF
          rw [HMO.out]
        have HSU := Lib.hid (survivor_any w.heap.size v.A v.c v.l v.s 0 w5.drew (hbv.below (HAL.out.drew.mono (show w.heap.size ≤ wr.heap.size by omega))) (by show w.heap.size ≤ w5.heap.size; omega) hvok)
        have HQ := Lib.hid (crashF_ok hvok (some 0))
        clear hvok hbv
        go_wp2_with fail
        rw [← hw5]
        clear hw5
        go_region_with ((go_at_call 40; refine HSU.out.mono ?_; rintro e w6 ⟨A6, rfl, hbs6, hb6⟩; have hb56 : Below w5.heap.size w5 w6 := below_undrew hb6; have hb06 := HAL.out.trans (hb56.mono HAL.out.size); have hown6 := HOWN.out.below hb06; have s1 : w6.cell? ⟨wr.heap.size, 1, none⟩ = some (.int .i64 (j : Int)) := (by rw [(HC5.out.below hb56 HC5.out.lt).cell]; rfl); have e1 : w6.cell? ⟨g, j * 2, none⟩ = some (.slice v.A v.l.length v.c) := (hb06.cell (p := ⟨g, j * 2, none⟩) hgl).trans d1; have e2 : w6.cell? ⟨g, j * 2 + 1, none⟩ = some (.int .i64 v.s) := (hb06.cell (p := ⟨g, j * 2 + 1, none⟩) hgl).trans d2; have f1 : w6.frozen? ⟨g, j * 2, none⟩ = false := World.ownsRow.frozenAt hown6.1 _; have f2 : w6.frozen? ⟨g, j * 2 + 1, none⟩ = false := World.ownsRow.frozenAt hown6.1 _))
        all_goals (
          go_wp2
          go_roundw
          case rel =>
            have hput := putF hown6 (i := j) (by have := HYL.out; omega) ⟨A6, v.c, (crashF ⟨v.l, v.s⟩ (some 0)).d, (crashF ⟨v.l, v.s⟩ (some 0)).s⟩
            have hbp : Below B6 w6 ((w6.setCell ⟨g, j * 2, none⟩ (.slice A6 (crashF ⟨v.l, v.s⟩ (some 0)).d.length v.c)).setCell ⟨g, j * 2 + 1, none⟩ (.int .i64 (crashF ⟨v.l, v.s⟩ (some 0)).s)) := ((Below.refl _ _).setCell (p := ⟨g, j * 2, none⟩) hgB _).setCell (p := ⟨g, j * 2 + 1, none⟩) hgB _
            refine ⟨k + 1, ys.set j ⟨A6, v.c, (crashF ⟨v.l, v.s⟩ (some 0)).d, (crashF ⟨v.l, v.s⟩ (some 0)).s⟩, by omega, by go_num, hput, fun u hu => ?_, fun u hu => ?_, ?_, ?_⟩
            · rcases mem_set hu with hu | rfl
              · exact ((HBY.out u hu).below (hb06.mono (by omega))).below (hbp.mono hB6)
              · exact hbs6.below (hbp.mono hB6)
            · rcases mem_set hu with hu | rfl
              · exact HOKS.out u hu
              · exact HQ.out
            · have := HNX.out
              rw [← HCG.out] at this
              rw [set_f (g := crashF ⟨v.l, v.s⟩ (some 0)) rfl]
              exact this
            · exact (HBW.out.trans (hb06.mono (by omega))).trans hbp
          case measure => simp [intOf]; omega)
    · obtain rfl : k = y.nn := by omega
      have hbr := HS4.out.b.trans (hbw.mono hB6)
      have hr : RdD wr.heap.size wr ⟨A4, y.fn, c4, ys, y.nA, y.nn, y.nc, y.now, y.nA, y.nn, y.nc, y.now⟩ := ⟨⟨hown.rd, hby.mono hbr.size⟩, (HR4.out.n.below (hbw.mono hB6)).mono hbr.size, (HR4.out.n.below (hbw.mono hB6)).mono hbr.size⟩
      have hce := crashed_end (by rw [HNL.out]; exact hcr)
      have hcm := crash_math (keep := keep) HL.out.2 (fsOf ys) hce
      have hcall := normalize_any ⟨A4, y.fn, c4, ys, y.nA, y.nn, y.nc, y.now, y.nA, y.nn, y.nc, y.now⟩ wr hr (fun f hf => by
        rw [show (⟨A4, y.fn, c4, ys, y.nA, y.nn, y.nc, y.now, y.nA, y.nn, y.nc, y.now⟩ : Dv).d = ⟨fsOf ys, y.now, y.now⟩ from rfl, came_twice HL.out.2] at hf
        obtain ⟨e, he, rfl⟩ := List.mem_map.1 hf
        have := (HL.out.1 e he).2
        have := HZL.out
        show 0 ≤ e.2 ∧ e.2 < (y.fn : Int)
        omega) (by show List.length y.now + List.length y.now ≤ _; rw [HNL.out]; omega) (fun u hu => by have := (hoks u hu).1; exact Nat.le_trans this (by omega))
      rw [show (⟨A4, y.fn, c4, ys, y.nA, y.nn, y.nc, y.now, y.nA, y.nn, y.nc, y.now⟩ : Dv).d = ⟨fsOf ys, y.now, y.now⟩ from rfl, hcm] at hcall
      have HCALL := Lib.hid hcall
      have HSR := Lib.hid (HS4.out.below hbw (by omega))
      clear hown hby hoks hcr hbw hbr hr hce hcm hcall
      go_wp2_with fail
      refine HCALL.out.mono ?_
      rintro e w9 ⟨z2, rfl, hz2, hoz, hb9⟩
      have S9 := HSR.out.below hb9 HSR.out.s
      obtain ⟨t0, t1, t2⟩ := cel3 S9.c1
      obtain ⟨g0, g1, g2⟩ := cel_frs S9.c1
      have HS9 := Lib.hid S9
      have HOZ := Lib.hid hoz
      have HZ2 := Lib.hid hz2
      clear S9 hoz hz2 hb9
      go_wp2
      (try simp only [Exit.inBlock, Exit.then])
      refine bodyPost_ret (ret_disk rfl _ _ (w.heap.size + 1) z2.cs rfl (cel_put3 HS9.out.c1) rfl) rfl ?_
      exact ⟨z2, rfl, by rw [H.out]; exact HZ2.out, HS9.out.own HOZ.out _ _ _, HS9.out.out _ _ _⟩
end Go.Proofs.YtlefpodonkdbeaaGreat.Dw
end
/- What disk.Crash comes to, with the names that last; and for both. For all disks whose names fit, any keeping. -/
section
set_option maxRecDepth 8000
namespace Go.Proofs.YtlefpodonkdbeaaGreat.Dw
open Go.RowKit By Dk

set_option maxHeartbeats 4000000 in
theorem crash_kept (x : Dv) (Ak : Option Addr) (nk ck : Nat) (keep : List Int) (w : World) (h : RdD w.heap.size w x) (hsm : Sm x.d) (hk : Rd w Ak nk ck (intV keep)) :
    Calls Tryz.prog 21 #[x.v, .slice Ak nk ck, .bool false] w (DR w (fun v => v) (crashK x.d keep false)) := by
  obtain ⟨w1, hw1⟩ : ∃ w1, w1 = (w.alloc (.cells x.cs 30)).alloc (.cells #[.slice none 0 0, .slice none 0 0, .slice none 0 0] 30) := ⟨_, rfl⟩
  have S1 : St w w1 x.cs := by rw [hw1]; exact St.start x w
  have HV := Lib.hid (valid_any w.heap.size x w1 (h.below S1.b) S1.b.size hsm)
  have HS1 := Lib.hid S1
  have HKP := Lib.hid hk
  clear hk
  clear h S1 hsm
  go_enter Tryz.func21, Tryz.ntmps21
  go_wp2_with fail
  rw [← hw1]
  clear hw1
  refine HV.out.mono ?_
  rintro e w2 ⟨y, rfl, hy, hry, hb2⟩
  have S2 := HS1.out.below hb2 HS1.out.s
  obtain ⟨q0, q1, q2⟩ := cel3 S2.c0
  obtain ⟨f0, f1, f2⟩ := cel_frs S2.c0
  obtain ⟨S3, hr3⟩ := HS1.out.valid hb2 hry
  obtain ⟨w3, hw3⟩ : ∃ w3, w3 = (((w2.setCell ⟨w.heap.size, 0, none⟩ (.slice y.fA y.fn y.fc)).setCell ⟨w.heap.size, 1, none⟩ (.slice y.nA y.nn y.nc)).setCell ⟨w.heap.size, 2, none⟩ (.slice y.kA y.kn y.kc)) := ⟨_, rfl⟩
  rw [← hw3] at S3 hr3
  have HS3 := Lib.hid S3
  have HR3 := Lib.hid hr3
  have HRD : Hid (RightD y.d) := by show RightD _; rw [hy]; exact good_right _
  have HY := Lib.hid hy
  have h20 : y.fn ≤ 20 := by
    have := (loose_facts HRD.out.2.1 hr3 (by have := HRD.out.1; omega)).1
    have := HRD.out.1
    omega
  have hzl := (loose_facts HRD.out.2.1 hr3 (by have := HRD.out.1; omega)).1
  have HL : Hid (Named y.kept y.d.fs.length) := HRD.out.2.1.2.1
  have hnl := hr3.k.len
  have hln : y.kn ≤ y.fn := by have := named_len HL.out; omega
  have HNL := Lib.hid hnl
  have HZL := Lib.hid hzl
  have hlc := hr3.k.cap
  have hlm := hr3.k.max
  have hfc := hr3.f.cap
  have hfm := hr3.f.max
  have HCL := Lib.hid (cloneF_any w.heap.size y.fA y.fn y.fc y.xs w3 hr3.f.1 S3.b.size (by omega))
  have H : Hid (crashK x.d keep false = ⟨crashFs y.d keep 0 y.kept, crashEs 0 y.kept, crashEs 0 y.kept⟩) := by
    show crashG (goodD x.d) keep _ = _
    rw [← hy]
    rfl
  have HOKS0 : Hid (∀ u ∈ y.xs, FileOk u.f) := fun u hu => HRD.out.2.1.2.2 u.f (List.mem_map.2 ⟨u, hu, rfl⟩)
  clear hry hb2 S2 S3 hr3 hy hzl hnl
  go_wp2_with fail
  rw [← hw3]
  clear hw3 q0 q1 q2 f0 f1 f2
  refine HCL.out.mono ?_
  rintro e w4 ⟨A4, c4, rfl, hown4, hb4⟩
  have HS4 := Lib.hid (HS3.out.below hb4 HS3.out.s)
  have HR4 := Lib.hid (HR3.out.below (hb4.mono HS3.out.b.size))
  have HKP4 := Lib.hid (HKP.out.below HS4.out.b)
  obtain ⟨B6, hB6e⟩ : ∃ B6, B6 = w3.heap.size := ⟨_, rfl⟩
  have hs3 := HS3.out.s
  have hs34 := hb4.size
  rw [← hB6e] at hown4 hs3 hs34
  have hB6 : w.heap.size ≤ B6 := by omega
  clear hb4 hB6e
  go_wp2
  go_loopw [24] (fun i wr => StCr y.d y.kept keep w.heap.size B6 y.fn y.kn A4 c4 w4 i wr) (fun i _ => y.kn - (intOf i).toNat)
  case atStart => exact ⟨0, y.xs, by omega, rfl, hown4, HR4.out.f.2, HOKS0.out, crashed_zero _ _ _, Below.refl _ _⟩
  case round =>
    obtain ⟨k, ys, hk, rfl, hown, hby, hoks, hcr, hbw⟩ := hrel
    have HBY := Lib.hid hby
    have HOKS := Lib.hid hoks
    have HBW := Lib.hid hbw
    have HOWN := Lib.hid hown
    by_cases hlt : k < y.kn
    · obtain ⟨b, o, s, f, eA, hbb, HE, m1, m2⟩ := atE ((HR4.out.k.below (hbw.mono hB6))) hlt
      rw [eA]
      obtain ⟨f0, f1⟩ : 0 ≤ f ∧ f < (y.d.fs.length : Int) := (HL.out.1 _ (List.mem_of_getElem? HE.out)).2
      obtain ⟨j, rfl⟩ := Int.eq_ofNat_of_zero_le f0
      have hjn : j < y.fn := by have := HZL.out; omega
      obtain ⟨g, rfl, hgB, hgl⟩ := headG hown (by omega)
      obtain ⟨v, hv, d1, d2⟩ := atOF hown hjn
      have HYL : Hid (ys.length = y.fn) := hown.2
      have hvok : FileOk ⟨v.l, v.s⟩ := hoks v (List.mem_of_getElem? hv)
      have hbv : BsU w.heap.size wr v.A v.l.length v.c v.l := hby v (List.mem_of_getElem? hv)
      have HVF : Hid (fileAt y.d (j : Int) = v.f) := by
        have h1 := crashed_get HL.out hcr HE.out
        rw [show ((j : Int)).toNat = j by omega, fs_get hv] at h1
        show y.d.fs.getD ((j : Int)).toNat ⟨[], 0⟩ = _
        rw [show ((j : Int)).toNat = j by omega, List.getD_eq_getElem?_getD, ← h1]
        rfl
      have HNX : Hid (Crashed y.d y.kept keep (k + 1) ((fsOf ys).set j (crashF (fileAt y.d (j : Int)) keep[k]?))) := by
        have := crashed_next HL.out hcr HE.out
        rwa [show ((j : Int)).toNat = j by omega] at this
      obtain ⟨w5, hw5⟩ : ∃ w5, w5 = wr.alloc (.cells #[.string (ba s), .int .i64 (j : Int)] 68) := ⟨_, rfl⟩
      have hal : Below wr.heap.size wr w5 := by rw [hw5]; exact alloc_more _ _
      have HAL := Lib.hid hal
      have hc5 : Cel w5 wr.heap.size 68 #[.string (ba s), .int .i64 (j : Int)] := by rw [hw5]; exact Cel.born _ _ _
      have HC5 := Lib.hid hc5
      have c1 : w5.cell? ⟨wr.heap.size, 1, none⟩ = some (.int .i64 (j : Int)) := by rw [hc5.cell]; rfl
      have t1 : w5.cell? ⟨g, j * 2, none⟩ = some (.slice v.A v.l.length v.c) := (hal.cell (p := ⟨g, j * 2, none⟩) hgl).trans d1
      have t2 : w5.cell? ⟨g, j * 2 + 1, none⟩ = some (.int .i64 v.s) := (hal.cell (p := ⟨g, j * 2 + 1, none⟩) hgl).trans d2
      have hswr : w3.heap.size ≤ w3.heap.size := Nat.le_refl _
      have hs4w := hbw.size
      have hs5 := hal.size
      have hownc := hown.rd.cap
      have hownm := hown.rd.max
      have hj0 : (0 : Int) ≤ (j : Int) := by omega
      have HKR := HKP.out.below (HS4.out.b.trans (hbw.mono hB6))
      clear hby hoks hbw hcr hown hc5 hv f0 f1
      by_cases hkk : k < nk
      · obtain ⟨b2, o2, eK, hc⟩ := HKR.at_ hkk
        have hkl : k < keep.length := by have := HKR.len; rw [intV_len] at this; omega
        have hcell := hc k (by rw [intV_len]; exact hkl)
        rw [intV_get hkl] at hcell
        have hcell5 := (hal.cell (World.block_lt_of_cell? wr _ hcell)).trans hcell
        have hb2lt : b2 < wr.heap.size := World.block_lt_of_cell? wr _ hcell
        have hkc := HKR.cap
        have hkm := HKR.max
        rw [eK]
        obtain ⟨mo, hmo⟩ : ∃ mo, mo = keep[k] := ⟨_, rfl⟩
        rw [← hmo] at hcell hcell5
        have HMO : Hid (∀ F, leftN F (some mo) = leftN F keep[k]?) := fun F => by rw [List.getElem?_eq_getElem hkl, hmo]
        clear hal hc hkl hmo
        have HCG : Hid (crashF ⟨v.l, v.s⟩ (some mo) = crashF (fileAt y.d (j : Int)) keep[k]?) := by
          show crashF _ _ = _
          rw [HVF.out]
          show crashF v.f _ = _
          unfold crashF
          rw [HMO.out]
        have HSU := Lib.hid (survivor_any w.heap.size v.A v.c v.l v.s mo w5.drew (hbv.below (HAL.out.drew.mono (show w.heap.size ≤ wr.heap.size by omega))) (by show w.heap.size ≤ w5.heap.size; omega) hvok)
        have HQ := Lib.hid (crashF_ok hvok (some mo))
        clear hvok hbv
        go_wp2_with fail
        rw [← hw5]
        clear hw5
        go_region_with ((go_at_call 40; refine HSU.out.mono ?_; rintro e w6 ⟨A6, rfl, hbs6, hb6⟩; have hb56 : Below w5.heap.size w5 w6 := below_undrew hb6; have hb06 := HAL.out.trans (hb56.mono HAL.out.size); have hown6 := HOWN.out.below hb06; have s1 : w6.cell? ⟨wr.heap.size, 1, none⟩ = some (.int .i64 (j : Int)) := (by rw [(HC5.out.below hb56 HC5.out.lt).cell]; rfl); have e1 : w6.cell? ⟨g, j * 2, none⟩ = some (.slice v.A v.l.length v.c) := (hb06.cell (p := ⟨g, j * 2, none⟩) hgl).trans d1; have e2 : w6.cell? ⟨g, j * 2 + 1, none⟩ = some (.int .i64 v.s) := (hb06.cell (p := ⟨g, j * 2 + 1, none⟩) hgl).trans d2; have f1 : w6.frozen? ⟨g, j * 2, none⟩ = false := World.ownsRow.frozenAt hown6.1 _; have f2 : w6.frozen? ⟨g, j * 2 + 1, none⟩ = false := World.ownsRow.frozenAt hown6.1 _))
        all_goals (
          go_wp2
          go_roundw
          case rel =>
            have hput := putF hown6 (i := j) (by have := HYL.out; omega) ⟨A6, v.c, (crashF ⟨v.l, v.s⟩ (some mo)).d, (crashF ⟨v.l, v.s⟩ (some mo)).s⟩
            have hbp : Below B6 w6 ((w6.setCell ⟨g, j * 2, none⟩ (.slice A6 (crashF ⟨v.l, v.s⟩ (some mo)).d.length v.c)).setCell ⟨g, j * 2 + 1, none⟩ (.int .i64 (crashF ⟨v.l, v.s⟩ (some mo)).s)) := ((Below.refl _ _).setCell (p := ⟨g, j * 2, none⟩) hgB _).setCell (p := ⟨g, j * 2 + 1, none⟩) hgB _
            refine ⟨k + 1, ys.set j ⟨A6, v.c, (crashF ⟨v.l, v.s⟩ (some mo)).d, (crashF ⟨v.l, v.s⟩ (some mo)).s⟩, by omega, by go_num, hput, fun u hu => ?_, fun u hu => ?_, ?_, ?_⟩
            · rcases mem_set hu with hu | rfl
              · exact ((HBY.out u hu).below (hb06.mono (by omega))).below (hbp.mono hB6)
              · exact hbs6.below (hbp.mono hB6)
            · rcases mem_set hu with hu | rfl
              · exact HOKS.out u hu
              · exact HQ.out
            · have := HNX.out
              rw [← HCG.out] at this
              rw [set_f (g := crashF ⟨v.l, v.s⟩ (some mo)) rfl]
              exact this
            · exact (HBW.out.trans (hb06.mono (by omega))).trans hbp
          case measure => simp [intOf]; omega)
      · have HMO : Hid (∀ F, leftN F (some 0) = leftN F keep[k]?) := fun F => by
          have := HKR.len
          rw [intV_len] at this
          rw [List.getElem?_eq_none (by omega)]
          rfl
        clear hal
        have HCG : Hid (crashF ⟨v.l, v.s⟩ (some 0) = crashF (fileAt y.d (j : Int)) keep[k]?) := by
          show crashF _ _ = _
          rw [HVF.out]
          show crashF v.f _ = _
          unfold crashF
          rw [HMO.out]
        have HSU := Lib.hid (survivor_any w.heap.size v.A v.c v.l v.s 0 w5.drew (hbv.below (HAL.out.drew.mono (show w.heap.size ≤ wr.heap.size by omega))) (by show w.heap.size ≤ w5.heap.size; omega) hvok)
        have HQ := Lib.hid (crashF_ok hvok (some 0))
        clear hvok hbv
        go_wp2_with fail
        rw [← hw5]
        clear hw5
        go_region_with ((go_at_call 40; refine HSU.out.mono ?_; rintro e w6 ⟨A6, rfl, hbs6, hb6⟩; have hb56 : Below w5.heap.size w5 w6 := below_undrew hb6; have hb06 := HAL.out.trans (hb56.mono HAL.out.size); have hown6 := HOWN.out.below hb06; have s1 : w6.cell? ⟨wr.heap.size, 1, none⟩ = some (.int .i64 (j : Int)) := (by rw [(HC5.out.below hb56 HC5.out.lt).cell]; rfl); have e1 : w6.cell? ⟨g, j * 2, none⟩ = some (.slice v.A v.l.length v.c) := (hb06.cell (p := ⟨g, j * 2, none⟩) hgl).trans d1; have e2 : w6.cell? ⟨g, j * 2 + 1, none⟩ = some (.int .i64 v.s) := (hb06.cell (p := ⟨g, j * 2 + 1, none⟩) hgl).trans d2; have f1 : w6.frozen? ⟨g, j * 2, none⟩ = false := World.ownsRow.frozenAt hown6.1 _; have f2 : w6.frozen? ⟨g, j * 2 + 1, none⟩ = false := World.ownsRow.frozenAt hown6.1 _))
        all_goals (
          go_wp2
          go_roundw
          case rel =>
            have hput := putF hown6 (i := j) (by have := HYL.out; omega) ⟨A6, v.c, (crashF ⟨v.l, v.s⟩ (some 0)).d, (crashF ⟨v.l, v.s⟩ (some 0)).s⟩
            have hbp : Below B6 w6 ((w6.setCell ⟨g, j * 2, none⟩ (.slice A6 (crashF ⟨v.l, v.s⟩ (some 0)).d.length v.c)).setCell ⟨g, j * 2 + 1, none⟩ (.int .i64 (crashF ⟨v.l, v.s⟩ (some 0)).s)) := ((Below.refl _ _).setCell (p := ⟨g, j * 2, none⟩) hgB _).setCell (p := ⟨g, j * 2 + 1, none⟩) hgB _
            refine ⟨k + 1, ys.set j ⟨A6, v.c, (crashF ⟨v.l, v.s⟩ (some 0)).d, (crashF ⟨v.l, v.s⟩ (some 0)).s⟩, by omega, by go_num, hput, fun u hu => ?_, fun u hu => ?_, ?_, ?_⟩
            · rcases mem_set hu with hu | rfl
              · exact ((HBY.out u hu).below (hb06.mono (by omega))).below (hbp.mono hB6)
              · exact hbs6.below (hbp.mono hB6)
            · rcases mem_set hu with hu | rfl
              · exact HOKS.out u hu
              · exact HQ.out
            · have := HNX.out
              rw [← HCG.out] at this
              rw [set_f (g := crashF ⟨v.l, v.s⟩ (some 0)) rfl]
              exact this
            · exact (HBW.out.trans (hb06.mono (by omega))).trans hbp
          case measure => simp [intOf]; omega)
    · obtain rfl : k = y.kn := by omega
      have hbr := HS4.out.b.trans (hbw.mono hB6)
      have hr : RdD wr.heap.size wr ⟨A4, y.fn, c4, ys, y.kA, y.kn, y.kc, y.kept, y.kA, y.kn, y.kc, y.kept⟩ := ⟨⟨hown.rd, hby.mono hbr.size⟩, (HR4.out.k.below (hbw.mono hB6)).mono hbr.size, (HR4.out.k.below (hbw.mono hB6)).mono hbr.size⟩
      have hce := crashed_end (by rw [HNL.out]; exact hcr)
      have hcm := crash_math (keep := keep) HL.out.2 (fsOf ys) hce
      have hcall := normalize_any ⟨A4, y.fn, c4, ys, y.kA, y.kn, y.kc, y.kept, y.kA, y.kn, y.kc, y.kept⟩ wr hr (fun f hf => by
        rw [show (⟨A4, y.fn, c4, ys, y.kA, y.kn, y.kc, y.kept, y.kA, y.kn, y.kc, y.kept⟩ : Dv).d = ⟨fsOf ys, y.kept, y.kept⟩ from rfl, came_twice HL.out.2] at hf
        obtain ⟨e, he, rfl⟩ := List.mem_map.1 hf
        have := (HL.out.1 e he).2
        have := HZL.out
        show 0 ≤ e.2 ∧ e.2 < (y.fn : Int)
        omega) (by show List.length y.kept + List.length y.kept ≤ _; rw [HNL.out]; omega) (fun u hu => by have := (hoks u hu).1; exact Nat.le_trans this (by omega))
      rw [show (⟨A4, y.fn, c4, ys, y.kA, y.kn, y.kc, y.kept, y.kA, y.kn, y.kc, y.kept⟩ : Dv).d = ⟨fsOf ys, y.kept, y.kept⟩ from rfl, hcm] at hcall
      have HCALL := Lib.hid hcall
      have HSR := Lib.hid (HS4.out.below hbw (by omega))
      clear hown hby hoks hcr hbw hbr hr hce hcm hcall
      go_wp2_with fail
      refine HCALL.out.mono ?_
      rintro e w9 ⟨z2, rfl, hz2, hoz, hb9⟩
      have S9 := HSR.out.below hb9 HSR.out.s
      obtain ⟨t0, t1, t2⟩ := cel3 S9.c1
      obtain ⟨g0, g1, g2⟩ := cel_frs S9.c1
      have HS9 := Lib.hid S9
      have HOZ := Lib.hid hoz
      have HZ2 := Lib.hid hz2
      clear S9 hoz hz2 hb9
      go_wp2
      (try simp only [Exit.inBlock, Exit.then])
      refine bodyPost_ret (ret_disk rfl _ _ (w.heap.size + 1) z2.cs rfl (cel_put3 HS9.out.c1) rfl) rfl ?_
      exact ⟨z2, rfl, by rw [H.out]; exact HZ2.out, HS9.out.own HOZ.out _ _ _, HS9.out.out _ _ _⟩
theorem crash_any (x : Dv) (Ak : Option Addr) (nk ck : Nat) (keep : List Int) (dir : Bool) (w : World) (h : RdD w.heap.size w x) (hsm : Sm x.d) (hk : Rd w Ak nk ck (intV keep)) :
    Calls Tryz.prog 21 #[x.v, .slice Ak nk ck, .bool dir] w (DR w (fun v => v) (crashK x.d keep dir)) := by
  cases dir with
  | true => exact crash_now x Ak nk ck keep w h hsm hk
  | false => exact crash_kept x Ak nk ck keep w h hsm hk
end Go.Proofs.YtlefpodonkdbeaaGreat.Dw
end
