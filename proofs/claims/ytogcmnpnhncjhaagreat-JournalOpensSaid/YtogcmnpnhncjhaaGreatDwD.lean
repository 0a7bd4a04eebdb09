/- What disk.survivor and Crash come to. For all disks whose names fit. -/
import Derived.Test.YtogcmnpnhncjhaaGreatDwC
section
set_option maxRecDepth 8000
namespace Go.Proofs.YtogcmnpnhncjhaaGreat.Dw
open Go.RowKit By Dk

/-! ### Mathematics -/
theorem left_some (f : F) (o : Option Int) : leftN f (some (o.getD 0)) = leftN f o := by
  cases o with
  | none => rfl
  | some x => rfl
theorem crash_files {d : D} {keep : List Int} (D' : D) : ∀ (m : List E) (i : Nat), (∀ (j : Nat) (e : E), m[j]? = some e → fileAt D' e.2 = crashF (fileAt d e.2) keep[i + j]?) → (filesOf m).map (fileAt D') = crashFs d keep i m
  | [], _, _ => rfl
  | e :: m, i, h => by
    show fileAt D' e.2 :: (filesOf m).map (fileAt D') = _
    rw [crashFs, h 0 e rfl, crash_files D' m (i + 1) fun j e' he => by
      have := h (j + 1) e' (by simpa using he)
      rw [show i + 1 + j = i + (j + 1) by omega]
      exact this]
    rfl
theorem crash_names (c : List Int) : ∀ (m : List E) (i : Nat), (∀ (j : Nat) (e : E), m[j]? = some e → idx c e.2 = ((i + j : Nat) : Int)) → renum m c = crashEs i m
  | [], _, _ => rfl
  | e :: m, i, h => by
    show (e.1, idx c e.2) :: renum m c = _
    rw [crashEs, h 0 e rfl, crash_names c m (i + 1) fun j e' he => by
      have := h (j + 1) e' (by simpa using he)
      rw [show i + 1 + j = i + (j + 1) by omega]
      exact this]
    rfl
theorem files_nodup {l : List E} (ho : Dk.Ord l) : (filesOf l).Nodup := by
  unfold Dk.Ord at ho
  unfold filesOf
  exact List.pairwise_map.2 (ho.imp fun hab => hab.2)
theorem came_twice {l : List E} (ho : Dk.Ord l) (fs : List F) : cameD ⟨fs, l, l⟩ = filesOf l := by
  show firsts (filesOf (l ++ l)) = _
  have e : filesOf (l ++ l) = filesOf l ++ filesOf l := by unfold filesOf; rw [List.map_append]
  rw [e]
  unfold firsts
  rw [from_app, from_new (files_nodup ho) (fun _ _ => List.not_mem_nil), List.nil_append]
  exact from_old fun _ hf => hf
theorem crash_math {d : D} {l : List E} (ho : Dk.Ord l) {keep : List Int} (fs : List F) (h : ∀ (i : Nat) (e : E), l[i]? = some e → fileAt ⟨fs, l, l⟩ e.2 = crashF (fileAt d e.2) keep[i]?) :
    orderedD ⟨fs, l, l⟩ = ⟨crashFs d keep 0 l, crashEs 0 l, crashEs 0 l⟩ := by
  have hn : renum l (filesOf l) = crashEs 0 l := crash_names _ l 0 fun j e he => by
    have hj : j < (filesOf l).length := by have := (List.getElem?_eq_some_iff.1 he).1; unfold filesOf; rwa [List.length_map]
    have hg : (filesOf l)[j] = e.2 := by
      have : (filesOf l)[j]? = some e.2 := by unfold filesOf; rw [List.getElem?_map, he]; rfl
      exact (List.getElem?_eq_some_iff.1 this).2
    have := List.Nodup.idxOf_getElem (files_nodup ho) j hj
    rw [hg] at this
    unfold idx
    rw [this, Nat.zero_add]
  unfold orderedD
  rw [came_twice ho]
  show D.mk _ (renum l (filesOf l)) (renum l (filesOf l)) = _
  rw [hn, crash_files ⟨fs, l, l⟩ l 0 fun j e he => by rw [Nat.zero_add]; exact h j e he]
/-- What the loop has done to the files behind k names. -/
def Crashed (d : D) (l : List E) (keep : List Int) (k : Nat) (fs : List F) : Prop :=
  fs.length = d.fs.length ∧ (∀ i, i < k → ∀ e, l[i]? = some e → fs[e.2.toNat]? = some (crashF (fileAt d e.2) keep[i]?)) ∧ (∀ j : Nat, (∀ i, i < k → ∀ e, l[i]? = some e → e.2.toNat ≠ j) → fs[j]? = d.fs[j]?)
theorem crashed_zero (d : D) (l : List E) (keep : List Int) : Crashed d l keep 0 d.fs := ⟨rfl, fun _ hi => absurd hi (Nat.not_lt_zero _), fun _ _ => rfl⟩
theorem crashed_get {d : D} {l : List E} {keep : List Int} {k : Nat} {fs : List F} (hl : Named l d.fs.length) (h : Crashed d l keep k fs) {s : N} {f : Int} (hk : l[k]? = some (s, f)) : fs[f.toNat]? = d.fs[f.toNat]? := by
  refine h.2.2 _ fun i hi e he hx => ?_
  have h0 := (hl.1 _ (List.mem_of_getElem? he)).2
  have h1 := (hl.1 _ (List.mem_of_getElem? hk)).2
  have h1' : 0 ≤ f ∧ f < (d.fs.length : Int) := h1
  have hfe : e.2 = f := by omega
  have he2 := (List.getElem?_eq_some_iff.1 he).1
  have hk2 := (List.getElem?_eq_some_iff.1 hk).1
  have hp := List.pairwise_iff_getElem.1 hl.2 i k he2 hk2 hi
  rw [(List.getElem?_eq_some_iff.1 he).2, (List.getElem?_eq_some_iff.1 hk).2] at hp
  exact hp.2 hfe
theorem crashed_next {d : D} {l : List E} {keep : List Int} {k : Nat} {fs : List F} (hl : Named l d.fs.length) (h : Crashed d l keep k fs) {s : N} {f : Int} (hk : l[k]? = some (s, f)) : Crashed d l keep (k + 1) (fs.set f.toNat (crashF (fileAt d f) keep[k]?)) := by
  have h1 : 0 ≤ f ∧ f < (d.fs.length : Int) := (hl.1 _ (List.mem_of_getElem? hk)).2
  obtain ⟨a, b, c⟩ := h
  have hk2 := (List.getElem?_eq_some_iff.1 hk).1
  refine ⟨by rw [List.length_set]; exact a, fun i hi e he => ?_, fun j hj => ?_⟩
  · by_cases hik : i = k
    · subst hik
      rw [hk] at he
      injection he with he
      subst he
      rw [List.getElem?_set_self (by rw [a]; omega)]
    · have hi2 : i < k := by omega
      have he2 := (List.getElem?_eq_some_iff.1 he).1
      have hp := List.pairwise_iff_getElem.1 hl.2 i k he2 hk2 hi2
      rw [(List.getElem?_eq_some_iff.1 he).2, (List.getElem?_eq_some_iff.1 hk).2] at hp
      have h0 := (hl.1 _ (List.mem_of_getElem? he)).2
      have hne : f.toNat ≠ e.2.toNat := by
        have := hp.2
        simp only at this
        omega
      rw [List.getElem?_set_ne hne]
      exact b i hi2 e he
  · have hne : f.toNat ≠ j := hj k (by omega) _ hk
    rw [List.getElem?_set_ne hne]
    exact c j fun i hi => hj i (by omega)
theorem crashed_end {d : D} {l : List E} {keep : List Int} {fs : List F} (h : Crashed d l keep l.length fs) (i : Nat) (e : E) (he : l[i]? = some e) : fileAt ⟨fs, l, l⟩ e.2 = crashF (fileAt d e.2) keep[i]? := by
  have := h.2.1 i (List.getElem?_eq_some_iff.1 he).1 e he
  unfold fileAt at *
  rw [List.getD_eq_getElem?_getD]
  show (fs[e.2.toNat]?).getD _ = _
  rw [this]
  rfl

/-! ### survivor -/
theorem bsu_take {U n m c : Nat} {w : World} {A : Option Addr} {l : List UInt8} (h : BsU U w A n c l) (hm : m ≤ n) : BsU U w A m c (l.take m) := by
  have hl := h.len
  refine ⟨⟨by rw [List.length_take]; omega, Nat.le_trans hm h.bs.cap, h.1.2.2.1, fun hn => ?_⟩, fun hn => h.2 (by omega)⟩
  obtain ⟨b, o, e, hc⟩ := h.1.2.2.2 (by omega)
  refine ⟨b, o, e, fun i hi => ?_⟩
  have hi2 := hi
  rw [List.length_take] at hi2
  rw [hc i (by omega)]
  simp
def SuR (U : Nat) (w : World) (c : Nat) (g : F) (e : Ending) (w' : World) : Prop := ∃ A', e = .returned (.agg #[.slice A' g.d.length c, .int .i64 g.s]) ∧ BsU U w' A' g.d.length c g.d ∧ Below w.heap.size w w'
theorem ret_file {fn : Func} {p : Tmp} (hres : fn.results = #[.cell p 41]) (tmps : Array Value) (w : World) (g : Nat) (cs : Array Value) (hp : tmps.getD p undef = .pointer (some ⟨g, 0, none⟩)) (hc : Cel w g 41 cs) (hs : cs.size = 2) :
    (results fn tmps).run Tryz.prog w = .ok (.agg cs) w := results_cell_row hres tmps w g _ cs (0, 0) _ hp hc Tryz.underlying41 rfl (by rw [hs]; kernel_rfl)
end Go.Proofs.YtogcmnpnhncjhaaGreat.Dw
end
/- What disk.Crash comes to. For all disks whose names fit, any keeping. -/
section
set_option maxRecDepth 8000
namespace Go.Proofs.YtogcmnpnhncjhaaGreat.Dw
open Go.RowKit By Dk

theorem set_f {ys : List Fv} {j : Nat} {q : Fv} {g : F} (h : q.f = g) : fsOf (ys.set j q) = (fsOf ys).set j g := by rw [fs_set, h]
def StCr (d : D) (l : List E) (keep : List Int) (U B fn n : Nat) (A4 : Option Addr) (c4 : Nat) (w4 : World) (i : Value) (wr : World) : Prop :=
  ∃ (k : Nat) (ys : List Fv), k ≤ n ∧ i = .int .i64 k ∧ OwnG layF 41 B wr A4 fn c4 ys ∧ Byt U wr ys ∧ (∀ u ∈ ys, FileOk u.f) ∧ Crashed d l keep k (fsOf ys) ∧ Below B w4 wr
end Go.Proofs.YtogcmnpnhncjhaaGreat.Dw
end
/- What disk.Crash comes to, with the names that last; and for both. For all disks whose names fit, any keeping. -/
section
set_option maxRecDepth 8000
namespace Go.Proofs.YtogcmnpnhncjhaaGreat.Dw
open Go.RowKit By Dk

end Go.Proofs.YtogcmnpnhncjhaaGreat.Dw
end
