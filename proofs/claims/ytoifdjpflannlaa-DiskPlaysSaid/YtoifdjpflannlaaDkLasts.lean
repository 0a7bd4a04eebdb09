/- The mathematics of layer 8, the end: what is synced lasts (P8.5), a file renamed over another one (P8.6), what is cut, removed and comes anew (P8.2, P8.3). No program. -/
import Derived.Test.YtoifdjpflannlaaDkDisk
namespace Go.Proofs.Ytoifdjpflannlaa.Dk

def appendK (d : D) (n : N) (b : List UInt8) : D × Int := appendG (goodD d) n b
def syncK (d : D) (n : N) : D × Int := syncG (goodD d) n
def cutK (d : D) (n : N) (k : Int) : D × Int := cutG (goodD d) n k
def renameK (d : D) (n t : N) : D × Int := renameG (goodD d) n t
def removeK (d : D) (n : N) : D × Int := removeG (goodD d) n
def syncDirK (d : D) : D := syncDirG (goodD d)
def crashK (d : D) (keep : List Int) (dir : Bool) : D := crashG (goodD d) keep dir
def namesK (d : D) : List N := (goodD d).now.map (·.1)
theorem get_right {d : D} (h : RightD d) {n : N} {f : Int} (hf : findE d.now n = some f) : getK d n = ((fileAt d f).d, 0) := by unfold getK; rw [good_of h, hf]
theorem get_none {d : D} (h : RightD d) {n : N} (hf : findE d.now n = none) : getK d n = ([], 5) := by unfold getK; rw [good_of h, hf]

/-! ### Files of a disk that was changed -/
theorem fileAt_set {d : D} {f : Int} {x : F} (h0 : 0 ≤ f) (h1 : f < (d.fs.length : Int)) : fileAt (setD d f x) f = x := by
  unfold fileAt setD
  have h : f.toNat < d.fs.length := by omega
  rw [List.getD_eq_getElem?_getD, List.getElem?_set_self h]
  rfl
theorem fileAt_other {d : D} {f g : Int} {x : F} (h0 : 0 ≤ f) (h1 : 0 ≤ g) (hne : f ≠ g) : fileAt (setD d f x) g = fileAt d g := by
  unfold fileAt setD
  have h : f.toNat ≠ g.toNat := by omega
  rw [List.getD_eq_getElem?_getD, List.getD_eq_getElem?_getD, List.getElem?_set_ne h]
theorem fileAt_new {d : D} {n : N} {b : List UInt8} {f : Int} (h0 : 0 ≤ f) (h1 : f < (d.fs.length : Int)) : fileAt (newD d n b) f = fileAt d f := by
  unfold fileAt newD
  have h : f.toNat < d.fs.length := by omega
  rw [List.getD_eq_getElem?_getD, List.getD_eq_getElem?_getD, List.getElem?_append_left h]
theorem fileAt_last (d : D) (n : N) (b : List UInt8) : fileAt (newD d n b) (d.fs.length : Int) = ⟨b, 0⟩ := by
  unfold fileAt newD
  rw [List.getD_eq_getElem?_getD, show ((d.fs.length : Nat) : Int).toNat = d.fs.length by omega, List.getElem?_append_right (Nat.le_refl _), Nat.sub_self]
  rfl

/-! ### What was appended is there -/
theorem append_there {d : D} (h : RightD d) {n : N} {b : List UInt8} (h0 : (appendG d n b).2 = 0) :
    ∃ f, findE (appendG d n b).1.now n = some f ∧ ((findE d.now n = none → (fileAt (appendG d n b).1 f).d = b)) := by
  unfold appendG at *
  split at h0
  · next hn =>
    rw [if_pos hn]
    split at h0
    · next hf =>
      rw [hf]
      split at h0
      · cases h0
      · next k =>
        simp only [if_neg k]
        have hL := new_loose h hn hf (b := b) (by omega)
        have hm : ((n, (d.fs.length : Int)) : E) ∈ (newD d n b).now := mem_with.2 (.inl rfl)
        have hfd : findE (newD d n b).now n = some (d.fs.length : Int) := (find_iff hL.1.2).2 hm
        refine ⟨idx (cameD (newD d n b)) (d.fs.length : Int), ?_, fun _ => ?_⟩
        · show findE (renum (newD d n b).now (cameD (newD d n b))) n = _
          rw [find_renum, hfd]
          rfl
        · rw [fileAt_ordered (now_came hm), fileAt_last]
    · next f hf =>
      rw [hf]
      split at h0
      · cases h0
      · next k =>
        simp only [if_neg k]
        exact ⟨f, hf, fun k => by cases k⟩
  · cases h0

/-! ### What lasts -/
def Lasts (d : D) (n : N) (was : List UInt8) : Prop := RightD d ∧ ∃ f, findE d.now n = some f ∧ findE d.kept n = some f ∧ was <+: (fileAt d f).d ∧ (was.length : Int) ≤ (fileAt d f).s
theorem lasts_append {d : D} {n m : N} {was b : List UInt8} (h : Lasts d n was) : Lasts (appendG d m b).1 n was := by
  obtain ⟨hr, f, h1, h2, h3, h4⟩ := h
  refine ⟨append_right hr m b, ?_⟩
  obtain ⟨r0, r1⟩ := find_range hr h1
  unfold appendG
  split
  · next hn =>
    split
    · next hf =>
      split
      · exact ⟨f, h1, h2, h3, h4⟩
      · next k =>
        have hL := new_loose hr hn hf (b := b) (by omega)
        have hm : ((n, f) : E) ∈ (newD d m b).now := mem_with.2 (.inr (find_mem h1))
        refine ⟨idx (cameD (newD d m b)) f, ?_, ?_, ?_, ?_⟩
        · show findE (renum (newD d m b).now _) n = _
          rw [find_renum, (find_iff hL.1.2).2 hm]
          rfl
        · show findE (renum d.kept _) n = _
          rw [find_renum, h2]
          rfl
        · rw [fileAt_ordered (now_came hm), fileAt_new r0 r1]
          exact h3
        · rw [fileAt_ordered (now_came hm), fileAt_new r0 r1]
          exact h4
    · next g hg =>
      split
      · exact ⟨f, h1, h2, h3, h4⟩
      · obtain ⟨g0, g1⟩ := find_range hr hg
        refine ⟨f, h1, h2, ?_, ?_⟩
        · by_cases e : g = f
          · subst e
            rw [fileAt_set g0 g1]
            exact List.IsPrefix.trans h3 (List.prefix_append _ _)
          · rw [fileAt_other g0 r0 e]
            exact h3
        · by_cases e : g = f
          · subst e
            rw [fileAt_set g0 g1]
            exact h4
          · rw [fileAt_other g0 r0 e]
            exact h4
  · exact ⟨f, h1, h2, h3, h4⟩
/-- What is synced, and its name: told, and lasting. -/
theorem sync_lasts {d : D} (h : RightD d) {n : N} {f : Int} (hf : findE d.now n = some f) :
    (syncG d n).2 = 0 ∧ getK (syncDirG (syncG d n).1) n = ((fileAt d f).d, 0) ∧ Lasts (syncDirG (syncG d n).1) n (fileAt d f).d := by
  have hy := sync_right h n
  have e : syncG d n = (setD d f ⟨(fileAt d f).d, (fileAt d f).d.length⟩, 0) := by unfold syncG; rw [hf]
  rw [e] at hy ⊢
  obtain ⟨r0, r1⟩ := find_range h hf
  have hz := syncDir_right hy
  refine ⟨rfl, ?_⟩
  generalize hs : setD d f ⟨(fileAt d f).d, (fileAt d f).d.length⟩ = y at *
  have hyf : findE y.now n = some f := by rw [← hs]; exact hf
  have hyd : fileAt y f = ⟨(fileAt d f).d, (fileAt d f).d.length⟩ := by rw [← hs]; exact fileAt_set r0 r1
  have hm : f ∈ cameD { y with kept := y.now } := now_came (d := { y with kept := y.now }) (e := (n, f)) (find_mem hyf)
  have h1 : findE (syncDirG y).now n = some (idx (cameD { y with kept := y.now }) f) := by
    show findE (renum y.now _) n = _
    rw [find_renum, hyf]
    rfl
  have h2 : findE (syncDirG y).kept n = some (idx (cameD { y with kept := y.now }) f) := h1
  have h3 : fileAt (syncDirG y) (idx (cameD { y with kept := y.now }) f) = ⟨(fileAt d f).d, (fileAt d f).d.length⟩ := by
    show fileAt (orderedD _) _ = _
    rw [fileAt_ordered hm]
    exact hyd
  refine ⟨by rw [get_right hz h1, h3], hz, _, h1, h2, ?_, ?_⟩
  · rw [h3]
    exact List.prefix_refl _
  · rw [h3]
    exact Int.le_refl _

/-! ### Behind a crash -/
theorem crash_find {d : D} {keep : List Int} {n : N} {f : Int} : ∀ {l : List E} {i : Nat}, findE l n = some f →
    ∃ j, findE (crashEs i l) n = some ((i + j : Nat) : Int) ∧ (crashFs d keep i l)[j]? = some (crashF (fileAt d f) keep[i + j]?)
  | [], _, h => by cases h
  | e :: l, i, h => by
    rw [findE] at h
    rw [crashEs, crashFs, findE]
    split at h
    · next he =>
      injection h with h
      subst h
      exact ⟨0, by rw [if_pos he]; rfl, rfl⟩
    · next he =>
      obtain ⟨j, h1, h2⟩ := crash_find (i := i + 1) h
      exact ⟨j + 1, by rw [if_neg he, h1, show i + 1 + j = i + (j + 1) by omega], by rw [List.getElem?_cons_succ, h2, show i + 1 + j = i + (j + 1) by omega]⟩
theorem crash_get {d : D} (h : RightD d) {keep : List Int} {dir : Bool} {n : N} {f : Int} (hf : findE (dirOf d dir) n = some f) :
    ∃ k, getK (crashG d keep dir) n = ((crashF (fileAt d f) k).d, 0) ∧ ∃ j : Nat, k = keep[j]? := by
  obtain ⟨j, h1, h2⟩ := crash_find (d := d) (keep := keep) (i := 0) hf
  refine ⟨keep[0 + j]?, ?_, _, rfl⟩
  rw [get_right (crash_right h keep dir) h1]
  show (((crashFs d keep 0 (dirOf d dir)).getD ((0 + j : Nat) : Int).toNat ⟨[], 0⟩).d, (0 : Int)) = _
  rw [show ((0 + j : Nat) : Int).toNat = j by omega, List.getD_eq_getElem?_getD, h2]
  rfl
/-- P8.5. -/
theorem lasts_crash {d : D} {n : N} {was : List UInt8} (h : Lasts d n was) (keep : List Int) (dir : Bool) : ∃ l, getK (crashG d keep dir) n = (l, 0) ∧ was <+: l := by
  obtain ⟨hr, f, h1, h2, h3, h4⟩ := h
  have hf : findE (dirOf d dir) n = some f := by
    unfold dirOf
    split
    · exact h1
    · exact h2
  obtain ⟨k, hk, _⟩ := crash_get hr (keep := keep) hf
  refine ⟨_, hk, ?_⟩
  have := left_le (file_ok hr h1) k
  show was <+: List.take _ _
  rw [List.prefix_take_iff]
  exact ⟨h3, by omega⟩

/-! ### What is cut, removed, and comes anew -/
theorem cut_ok {d : D} {n : N} {k : Int} (h0 : (cutG d n k).2 = 0) : ∃ f, findE d.now n = some f ∧ 0 ≤ k ∧ k ≤ ((fileAt d f).d.length : Int) ∧ (cutG d n k).1 = setD d f ⟨(fileAt d f).d.take k.toNat, k⟩ := by
  unfold cutG at *
  split at h0
  · cases h0
  · next f hf =>
    split at h0
    · cases h0
    · next hk => exact ⟨f, hf, by omega, by omega, by simp only [if_neg hk]⟩
theorem left_all {f : F} (h : f.s = (f.d.length : Int)) (k : Option Int) : crashF f k = f := by
  have e : leftN f k = f.d.length := by
    unfold leftN
    split
    · omega
    · split
      · split <;> omega
      · omega
  unfold crashF
  rw [e, List.take_length]
  obtain ⟨fd, fs⟩ := f
  simp only at h
  rw [h]
/-- What is cut off is gone, and what is left lasts. -/
theorem cut_lasts {d : D} (h : RightD d) {n : N} {k : Int} (h0 : (cutG d n k).2 = 0) : 0 ≤ k ∧ k ≤ ((getK d n).1.length : Int) ∧ getK (crashG (cutG d n k).1 [] true) n = ((getK d n).1.take k.toNat, 0) := by
  obtain ⟨f, hf, k0, k1, e⟩ := cut_ok h0
  have hr := cut_right h n k
  rw [e] at hr ⊢
  obtain ⟨r0, r1⟩ := find_range h hf
  rw [get_right h hf]
  refine ⟨k0, k1, ?_⟩
  have hf2 : findE (dirOf (setD d f ⟨(fileAt d f).d.take k.toNat, k⟩) true) n = some f := hf
  obtain ⟨x, hx, _⟩ := crash_get hr (keep := []) hf2
  rw [hx, fileAt_set r0 r1, left_all]
  show k = (((List.take k.toNat (fileAt d f).d).length : Nat) : Int)
  rw [List.length_take]
  omega
theorem remove_none {d : D} {n : N} {f : Int} (hf : findE d.now n = some f) : findE (removeG d n).1.now n = none := by
  have e : (removeG d n).1 = orderedD { d with now := withoutE d.now n } := by unfold removeG; rw [hf]
  rw [e]
  show findE (renum (withoutE d.now n) _) n = none
  rw [find_renum, find_none.2 fun a ha => (mem_without.1 ha).2]
  rfl
/-- What is removed is gone, and comes anew as a file of nothing. -/
theorem remove_anew {d : D} (h : RightD d) {n : N} {b : List UInt8} (h0 : (removeG d n).2 = 0) : getK (removeG d n).1 n = ([], 5) ∧ ((appendG (removeG d n).1 n b).2 = 0 → getK (appendG (removeG d n).1 n b).1 n = (b, 0)) := by
  cases hf : findE d.now n with
  | none => unfold removeG at h0; rw [hf] at h0; cases h0
  | some f =>
    have hr := remove_right h n
    have hn := remove_none hf
    refine ⟨get_none hr hn, fun k => ?_⟩
    obtain ⟨g, g1, g2⟩ := append_there hr k
    rw [get_right (append_right hr n b) g1, g2 hn]
theorem remove_fails {d : D} {n : N} {k : Int} (h0 : (removeG d n).2 ≠ 0) : (removeG d n).2 = 5 ∧ (cutG d n k).2 ≠ 0 := by
  unfold removeG cutG at *
  cases hf : findE d.now n with
  | none => exact ⟨rfl, by show (5 : Int) ≠ 0; decide⟩
  | some f => rw [hf] at h0; exact absurd rfl h0

/-! ### A file renamed over another one -/
def nJ : N := [106]
def nK : N := [107]
def full (b : List UInt8) : F := ⟨b, b.length⟩
theorem j1 (b : List UInt8) (h : b.length ≤ 20000) : appendG zeroD nJ b = (⟨[⟨b, 0⟩], [(nJ, 0)], []⟩, 0) := by
  have e : appendG zeroD nJ b = if 20 ≤ 0 ∨ 20000 < b.length then (zeroD, 3) else (orderedD (newD zeroD nJ b), 0) := rfl
  rw [e, if_neg (by omega)]
  rfl
theorem j2 (b : List UInt8) : syncDirG (syncG ⟨[⟨b, 0⟩], [(nJ, 0)], []⟩ nJ).1 = ⟨[full b], [(nJ, 0)], [(nJ, 0)]⟩ := rfl
theorem j3 (a b : List UInt8) (h : b.length ≤ 20000) : appendG ⟨[full a], [(nJ, 0)], [(nJ, 0)]⟩ nK b = (⟨[full a, ⟨b, 0⟩], [(nJ, 0), (nK, 1)], [(nJ, 0)]⟩, 0) := by
  have e : appendG ⟨[full a], [(nJ, 0)], [(nJ, 0)]⟩ nK b = if 20 ≤ 1 ∨ 20000 < b.length then (⟨[full a], [(nJ, 0)], [(nJ, 0)]⟩, 3) else (orderedD (newD ⟨[full a], [(nJ, 0)], [(nJ, 0)]⟩ nK b), 0) := rfl
  rw [e, if_neg (by omega)]
  rfl
theorem j4 (a b : List UInt8) : (syncG ⟨[full a, ⟨b, 0⟩], [(nJ, 0), (nK, 1)], [(nJ, 0)]⟩ nK).1 = ⟨[full a, full b], [(nJ, 0), (nK, 1)], [(nJ, 0)]⟩ := rfl
theorem j5 (a b : List UInt8) : renameG ⟨[full a, full b], [(nJ, 0), (nK, 1)], [(nJ, 0)]⟩ nK nJ = (⟨[full b, full a], [(nJ, 0)], [(nJ, 1)]⟩, 0) := rfl
theorem j6 (a b : List UInt8) : syncDirG ⟨[full b, full a], [(nJ, 0)], [(nJ, 1)]⟩ = ⟨[full b], [(nJ, 0)], [(nJ, 0)]⟩ := rfl
theorem renamed_right (a b : List UInt8) (ha : a.length ≤ 20000) (hb : b.length ≤ 20000) : RightD ⟨[full a], [(nJ, 0)], [(nJ, 0)]⟩ ∧ RightD ⟨[full a, full b], [(nJ, 0), (nK, 1)], [(nJ, 0)]⟩ ∧ RightD ⟨[full b, full a], [(nJ, 0)], [(nJ, 1)]⟩ ∧ RightD ⟨[full b], [(nJ, 0)], [(nJ, 0)]⟩ := by
  have r1 := append_right zero_right nJ a
  rw [j1 a ha] at r1
  have r2 := syncDir_right (sync_right r1 nJ)
  rw [j2] at r2
  have r3 := append_right r2 nK b
  rw [j3 a b hb] at r3
  have r4 := sync_right r3 nK
  rw [j4] at r4
  have r5 := rename_right r4 nK nJ
  rw [j5] at r5
  have r6 := syncDir_right r5
  rw [j6] at r6
  exact ⟨r2, r4, r5, r6⟩
theorem renamed_crash (a b : List UInt8) (ha : a.length ≤ 20000) (hb : b.length ≤ 20000) (keep : List Int) (dir : Bool) :
    getK (crashG ⟨[full b, full a], [(nJ, 0)], [(nJ, 1)]⟩ keep dir) nJ = (if dir then b else a, 0) ∧ getK (crashG ⟨[full b], [(nJ, 0)], [(nJ, 0)]⟩ keep dir) nJ = (b, 0) := by
  obtain ⟨_, _, r5, r6⟩ := renamed_right a b ha hb
  constructor
  · cases dir with
    | true =>
      obtain ⟨k, hk, _⟩ := crash_get r5 (keep := keep) (dir := true) (n := nJ) (f := 0) rfl
      rw [hk, left_all rfl]
      rfl
    | false =>
      obtain ⟨k, hk, _⟩ := crash_get r5 (keep := keep) (dir := false) (n := nJ) (f := 1) rfl
      rw [hk, left_all rfl]
      rfl
  · obtain ⟨k, hk, _⟩ := crash_get r6 (keep := keep) (dir := dir) (n := nJ) (f := 0) (by cases dir <;> rfl)
    rw [hk, left_all rfl]
    rfl
end Go.Proofs.Ytoifdjpflannlaa.Dk
