/- The mathematics of layer 8, continued: which disks are right, a disk put in order, what is done to a disk, and that each disk that is told is right. No program. -/
import Derived.Test.YtoifdjpflannlaaDkMath
namespace Go.Proofs.Ytoifdjpflannlaa.Dk

def FileOk (f : F) : Prop := f.d.length ≤ 20000 ∧ 0 ≤ f.s ∧ f.s ≤ (f.d.length : Int)
instance (f : F) : Decidable (FileOk f) := by unfold FileOk; infer_instance
def filesOf (l : List E) : List Int := l.map (·.2)
def cameD (d : D) : List Int := firsts (filesOf (d.now ++ d.kept))
/-- Right but for the order of its files. -/
def Loose (d : D) : Prop := Named d.now d.fs.length ∧ Named d.kept d.fs.length ∧ ∀ f ∈ d.fs, FileOk f
def RightD (d : D) : Prop := d.fs.length ≤ 20 ∧ Loose d ∧ cameD d = rangeZ d.fs.length
instance (d : D) : Decidable (Loose d) := by unfold Loose; infer_instance
instance (d : D) : Decidable (RightD d) := by unfold RightD; infer_instance
def goodD (d : D) : D := if RightD d then d else zeroD
theorem zero_right : RightD zeroD := by decide
theorem good_right (d : D) : RightD (goodD d) := by
  unfold goodD
  split
  · assumption
  · exact zero_right
theorem good_of {d : D} (h : RightD d) : goodD d = d := if_pos h
def fileAt (d : D) (f : Int) : F := d.fs.getD f.toNat ⟨[], 0⟩
theorem fileAt_mem {d : D} {f : Int} (h0 : 0 ≤ f) (h1 : f < (d.fs.length : Int)) : fileAt d f ∈ d.fs := by
  unfold fileAt
  have h : f.toNat < d.fs.length := by omega
  rw [List.getD_eq_getElem?_getD, List.getElem?_eq_getElem h]
  exact List.getElem_mem h

/-! ### A disk put in order -/
def renum (l : List E) (c : List Int) : List E := l.map fun e => (e.1, idx c e.2)
def orderedD (d : D) : D := ⟨(cameD d).map (fileAt d), renum d.now (cameD d), renum d.kept (cameD d)⟩
theorem files_renum (l : List E) (c : List Int) : filesOf (renum l c) = (filesOf l).map (idx c) := by simp [filesOf, renum]
theorem mem_came {d : D} {f : Int} : f ∈ cameD d ↔ f ∈ filesOf d.now ∨ f ∈ filesOf d.kept := by
  unfold cameD
  rw [mem_firsts, filesOf, List.map_append, List.mem_append]
  rfl
theorem now_came {d : D} {e : E} (h : e ∈ d.now) : e.2 ∈ cameD d := mem_came.2 (.inl (List.mem_map.2 ⟨e, h, rfl⟩))
theorem kept_came {d : D} {e : E} (h : e ∈ d.kept) : e.2 ∈ cameD d := mem_came.2 (.inr (List.mem_map.2 ⟨e, h, rfl⟩))
theorem came_range {d : D} (h : Loose d) {f : Int} (hf : f ∈ cameD d) : 0 ≤ f ∧ f < (d.fs.length : Int) := by
  rcases mem_came.1 hf with k | k
  · obtain ⟨e, he, rfl⟩ := List.mem_map.1 k
    exact (h.1.1 e he).2
  · obtain ⟨e, he, rfl⟩ := List.mem_map.1 k
    exact (h.2.1.1 e he).2
theorem named_renum {l : List E} {m : Nat} {c : List Int} (h : Named l m) (hc : ∀ e ∈ l, e.2 ∈ c) : Named (renum l c) c.length := by
  refine ⟨fun e he => ?_, ?_⟩
  · obtain ⟨a, ha, rfl⟩ := List.mem_map.1 he
    exact ⟨(h.1 a ha).1, idx_lt (hc a ha)⟩
  · have ho := h.2
    unfold Ord renum at *
    rw [List.pairwise_map]
    refine List.Pairwise.imp_of_mem (fun {a b} ha hb hab => ⟨hab.1, fun k => hab.2 (idx_inj (hc a ha) (hc b hb) k)⟩) ho
theorem came_ordered (d : D) : cameD (orderedD d) = rangeZ (cameD d).length := by
  have hn : (cameD d).Nodup := nodup_firsts _
  show firsts (filesOf (renum d.now (cameD d) ++ renum d.kept (cameD d))) = _
  rw [show filesOf (renum d.now (cameD d) ++ renum d.kept (cameD d)) = (filesOf (d.now ++ d.kept)).map (idx (cameD d)) by simp [filesOf, renum]; rfl]
  rw [firsts_map]
  · exact map_idx hn
  · intro a ha b hb
    exact idx_inj (mem_firsts.2 ha) (mem_firsts.2 hb)
theorem ordered_right {d : D} (h : Loose d) (hl : (cameD d).length ≤ 20) : RightD (orderedD d) := by
  have e : (orderedD d).fs.length = (cameD d).length := List.length_map ..
  refine ⟨by rw [e]; exact hl, ⟨?_, ?_, ?_⟩, by rw [e]; exact came_ordered d⟩
  · rw [e]; exact named_renum h.1 fun a ha => now_came ha
  · rw [e]; exact named_renum h.2.1 fun a ha => kept_came ha
  · intro f hf
    obtain ⟨g, hg, rfl⟩ := List.mem_map.1 hf
    obtain ⟨h0, h1⟩ := came_range h hg
    exact h.2.2 _ (fileAt_mem h0 h1)
theorem nodup_sub : ∀ {n : Nat} {l : List Int}, l.Nodup → (∀ f ∈ l, 0 ≤ f ∧ f < (n : Int)) → l.length ≤ n
  | 0, [], _, _ => Nat.le_refl _
  | 0, f :: _, _, h => by have := h f (.head _); omega
  | n + 1, l, hd, h => by
    by_cases hm : (n : Int) ∈ l
    · have h1 := nodup_sub (n := n) (hd.erase (n : Int)) fun f hf => by
        obtain ⟨k1, k2⟩ := (List.Nodup.mem_erase_iff hd).1 hf
        have := h f k2
        omega
      rw [List.length_erase_of_mem hm] at h1
      omega
    · have h1 := nodup_sub (n := n) hd fun f hf => by
        have h2 := h f hf
        have h3 : f ≠ (n : Int) := fun k => hm (k ▸ hf)
        omega
      omega
theorem came_few {d : D} (h : Loose d) : (cameD d).length ≤ d.fs.length := nodup_sub (nodup_firsts _) fun _ hf => came_range h hf
theorem renum_range {l : List E} {m : Nat} (h : Named l m) : renum l (rangeZ m) = l := by
  unfold renum
  conv => rhs; rw [← List.map_id l]
  apply List.map_congr_left
  intro e he
  obtain ⟨_, h0, h1⟩ := h.1 e he
  rw [idx_range h0 h1]
  rfl
/-- A right disk is in order. -/
theorem ordered_id {d : D} (h : RightD d) : orderedD d = d := by
  obtain ⟨_, ⟨h1, h2, _⟩, hc⟩ := h
  obtain ⟨fs, now, kept⟩ := d
  unfold orderedD
  rw [hc]
  have e1 : (rangeZ fs.length).map (fileAt ⟨fs, now, kept⟩) = fs := by
    apply List.ext_getElem
    · simp [rangeZ]
    · intro i k1 k2
      simp only [rangeZ, List.getElem_map, List.getElem_range, fileAt, List.getD_eq_getElem?_getD, Int.toNat_natCast, List.getElem?_eq_getElem k2, Option.getD_some]
  show D.mk ((rangeZ fs.length).map (fileAt ⟨fs, now, kept⟩)) (renum now (rangeZ fs.length)) (renum kept (rangeZ fs.length)) = _
  rw [e1, renum_range h1, renum_range h2]
theorem find_renum {c : List Int} : ∀ {l : List E} {n : N}, findE (renum l c) n = (findE l n).map (idx c)
  | [], _ => rfl
  | e :: l, n => by
    show findE ((e.1, idx c e.2) :: renum l c) n = _
    rw [findE, findE]
    by_cases h : e.1 = n
    · rw [if_pos h, if_pos h]; rfl
    · rw [if_neg h, if_neg h]; exact find_renum
theorem fileAt_ordered {d : D} {f : Int} (h : f ∈ cameD d) : fileAt (orderedD d) (idx (cameD d) f) = fileAt d f := by
  have hl := List.idxOf_lt_length_of_mem h
  show ((cameD d).map (fileAt d)).getD (idx (cameD d) f).toNat ⟨[], 0⟩ = _
  rw [show (idx (cameD d) f).toNat = (cameD d).idxOf f by unfold idx; omega, List.getD_eq_getElem?_getD, List.getElem?_eq_getElem (by rw [List.length_map]; exact hl), List.getElem_map, get_idx h]
  rfl

/-! ### What is done to a disk -/
def getK (d : D) (n : N) : List UInt8 × Int := match findE (goodD d).now n with
  | none => ([], 5)
  | some f => ((fileAt (goodD d) f).d, 0)
def setD (d : D) (f : Int) (x : F) : D := { d with fs := d.fs.set f.toNat x }
def newD (d : D) (n : N) (b : List UInt8) : D := ⟨d.fs ++ [⟨b, 0⟩], withE d.now n d.fs.length, d.kept⟩
def appendG (d : D) (n : N) (b : List UInt8) : D × Int :=
  if FairN n then match findE d.now n with
    | none => if 20 ≤ d.fs.length ∨ 20000 < b.length then (d, 3) else (orderedD (newD d n b), 0)
    | some f => if 20000 < (fileAt d f).d.length + b.length then (d, 3) else (setD d f ⟨(fileAt d f).d ++ b, (fileAt d f).s⟩, 0)
  else (d, 1)
def syncG (d : D) (n : N) : D × Int := match findE d.now n with
  | none => (d, 5)
  | some f => (setD d f ⟨(fileAt d f).d, (fileAt d f).d.length⟩, 0)
def cutG (d : D) (n : N) (k : Int) : D × Int := match findE d.now n with
  | none => (d, 5)
  | some f => if k < 0 ∨ (fileAt d f).d.length < k then (d, 1) else (setD d f ⟨(fileAt d f).d.take k.toNat, k⟩, 0)
def moved (d : D) (n t : N) (f : Int) : D := { d with now := withE (withoutE (withoutE d.now n) t) t f }
def renameG (d : D) (n t : N) : D × Int := match findE d.now n with
  | none => (d, 5)
  | some f => if FairN t then (orderedD (moved d n t f), 0) else (d, 1)
def removeG (d : D) (n : N) : D × Int := match findE d.now n with
  | none => (d, 5)
  | some _ => (orderedD { d with now := withoutE d.now n }, 0)
def syncDirG (d : D) : D := orderedD { d with kept := d.now }
/-- How many bytes are there behind a crash. -/
def leftN (f : F) (k : Option Int) : Nat := match k with
  | none => f.s.toNat
  | some x => if 0 < x then (if (f.d.length : Int) - f.s < x then f.d.length else (f.s + x).toNat) else f.s.toNat
def crashF (f : F) (k : Option Int) : F := ⟨f.d.take (leftN f k), leftN f k⟩
def dirOf (d : D) (dir : Bool) : List E := if dir then d.now else d.kept
def crashFs (d : D) (keep : List Int) : Nat → List E → List F
  | _, [] => []
  | i, e :: l => crashF (fileAt d e.2) keep[i]? :: crashFs d keep (i + 1) l
def crashEs : Nat → List E → List E
  | _, [] => []
  | i, e :: l => (e.1, (i : Int)) :: crashEs (i + 1) l
def crashG (d : D) (keep : List Int) (dir : Bool) : D := ⟨crashFs d keep 0 (dirOf d dir), crashEs 0 (dirOf d dir), crashEs 0 (dirOf d dir)⟩

/-! ### Each disk that is told is right -/
theorem find_range {d : D} (h : RightD d) {n : N} {f : Int} (hf : findE d.now n = some f) : 0 ≤ f ∧ f < (d.fs.length : Int) := (h.2.1.1.1 _ (find_mem hf)).2
theorem set_right {d : D} (h : RightD d) {f : Int} {x : F} (hx : FileOk x) : RightD (setD d f x) := by
  obtain ⟨h1, ⟨h2, h3, h4⟩, h5⟩ := h
  have e : (setD d f x).fs.length = d.fs.length := List.length_set ..
  refine ⟨by rw [e]; exact h1, ⟨by rw [e]; exact h2, by rw [e]; exact h3, fun g hg => ?_⟩, by rw [e]; exact h5⟩
  rcases List.mem_or_eq_of_mem_set hg with k | k
  · exact h4 g k
  · exact k ▸ hx
theorem file_ok {d : D} (h : RightD d) {n : N} {f : Int} (hf : findE d.now n = some f) : FileOk (fileAt d f) := by
  obtain ⟨a, b⟩ := find_range h hf
  exact h.2.1.2.2 _ (fileAt_mem a b)
theorem new_loose {d : D} (h : RightD d) {n : N} {b : List UInt8} (hn : FairN n) (hno : findE d.now n = none) (hb : b.length ≤ 20000) : Loose (newD d n b) := by
  obtain ⟨_, ⟨h2, h3, h4⟩, _⟩ := h
  have e : (newD d n b).fs.length = d.fs.length + 1 := by simp [newD]
  refine ⟨?_, ?_, ?_⟩
  · rw [e]
    refine named_with (named_more h2 (Nat.le_succ _)) hn (find_none.1 hno) (fun a ha k => ?_) (by omega) (by omega)
    have := (h2.1 a ha).2.2
    omega
  · rw [e]; exact named_more h3 (Nat.le_succ _)
  · intro f hf
    rcases List.mem_append.1 hf with k | k
    · exact h4 f k
    · simp at k
      subst k
      exact ⟨hb, Int.le_refl _, by show (0 : Int) ≤ _; omega⟩
theorem new_right {d : D} (h : RightD d) {n : N} {b : List UInt8} (hn : FairN n) (hno : findE d.now n = none) (hl : d.fs.length < 20) (hb : b.length ≤ 20000) : RightD (orderedD (newD d n b)) := by
  have hL := new_loose h hn hno hb
  refine ordered_right hL ?_
  have := came_few hL
  have e : (newD d n b).fs.length = d.fs.length + 1 := by simp [newD]
  omega
theorem append_right {d : D} (h : RightD d) (n : N) (b : List UInt8) : RightD (appendG d n b).1 := by
  unfold appendG
  split
  · next hn =>
    split
    · next hf =>
      split
      · exact h
      · next k => exact new_right h hn hf (by omega) (by omega)
    · next f hf =>
      split
      · exact h
      · next k =>
        obtain ⟨k1, k2, k3⟩ := file_ok h hf
        exact set_right h ⟨by show ((fileAt d f).d ++ b).length ≤ 20000; rw [List.length_append]; omega, k2, by show (fileAt d f).s ≤ ((((fileAt d f).d ++ b).length : Nat) : Int); rw [List.length_append]; omega⟩
  · exact h
theorem sync_right {d : D} (h : RightD d) (n : N) : RightD (syncG d n).1 := by
  unfold syncG
  split
  · exact h
  · next f hf =>
    obtain ⟨k1, _, _⟩ := file_ok h hf
    exact set_right h ⟨k1, by show (0 : Int) ≤ ((_ : Nat) : Int); omega, Int.le_refl _⟩
theorem cut_right {d : D} (h : RightD d) (n : N) (k : Int) : RightD (cutG d n k).1 := by
  unfold cutG
  split
  · exact h
  · next f hf =>
    split
    · exact h
    · next hk =>
      obtain ⟨k1, _, _⟩ := file_ok h hf
      refine set_right h ⟨?_, by show 0 ≤ k; omega, ?_⟩
      · show (List.take _ _).length ≤ _
        rw [List.length_take]
        omega
      · show k ≤ (((List.take _ _).length : Nat) : Int)
        rw [List.length_take]
        omega
theorem sub_right {d : D} (h : RightD d) {l : List E} (hl : Named l d.fs.length) : RightD (orderedD { d with now := l }) := by
  have hL : Loose { d with now := l } := ⟨hl, h.2.1.2.1, h.2.1.2.2⟩
  exact ordered_right hL (Nat.le_trans (came_few hL) h.1)
theorem moved_named {d : D} (h : RightD d) {n t : N} {f : Int} (hf : findE d.now n = some f) (ht : FairN t) : Named (moved d n t f).now d.fs.length := by
  have hN := h.2.1.1
  obtain ⟨a, b⟩ := find_range h hf
  refine named_with (named_without (named_without hN)) ht (fun e he => (mem_without.1 he).2) (fun e he k => ?_) a b
  obtain ⟨he1, _⟩ := mem_without.1 he
  obtain ⟨he2, he3⟩ := mem_without.1 he1
  have := ord_file hN.2 he2 (find_mem hf) k
  exact he3 (by rw [this])
theorem rename_right {d : D} (h : RightD d) (n t : N) : RightD (renameG d n t).1 := by
  unfold renameG
  split
  · exact h
  · next f hf =>
    split
    · next ht => exact sub_right h (moved_named h hf ht)
    · exact h
theorem remove_right {d : D} (h : RightD d) (n : N) : RightD (removeG d n).1 := by
  unfold removeG
  split
  · exact h
  · exact sub_right h (named_without h.2.1.1)
theorem syncDir_right {d : D} (h : RightD d) : RightD (syncDirG d) := by
  have hL : Loose { d with kept := d.now } := ⟨h.2.1.1, h.2.1.1, h.2.1.2.2⟩
  exact ordered_right hL (Nat.le_trans (came_few hL) h.1)
theorem left_le {f : F} (h : FileOk f) (k : Option Int) : f.s.toNat ≤ leftN f k ∧ leftN f k ≤ f.d.length := by
  obtain ⟨_, h1, h2⟩ := h
  unfold leftN
  split
  · omega
  · split
    · split <;> omega
    · omega
theorem crashF_ok {f : F} (h : FileOk f) (k : Option Int) : FileOk (crashF f k) := by
  have := left_le h k
  obtain ⟨h0, h1, h2⟩ := h
  refine ⟨?_, by show (0 : Int) ≤ ((_ : Nat) : Int); omega, ?_⟩
  · show (List.take _ _).length ≤ _
    rw [List.length_take]
    omega
  · show ((leftN f k : Nat) : Int) ≤ (((List.take _ _).length : Nat) : Int)
    rw [List.length_take]
    omega
theorem crashFs_len (d : D) (keep : List Int) : ∀ (l : List E) (i : Nat), (crashFs d keep i l).length = l.length
  | [], _ => rfl
  | _ :: l, i => by rw [crashFs, List.length_cons, List.length_cons, crashFs_len d keep l]
theorem crashEs_files : ∀ (l : List E) (i : Nat), filesOf (crashEs i l) = (List.range' i l.length).map fun j : Nat => (j : Int)
  | [], _ => rfl
  | _ :: l, i => by
    rw [crashEs, List.length_cons, List.range'_succ, List.map_cons]
    show (i : Int) :: filesOf (crashEs (i + 1) l) = _
    rw [crashEs_files l]
theorem crashEs_mem : ∀ {l : List E} {i : Nat} {e : E}, e ∈ crashEs i l → (∃ a ∈ l, a.1 = e.1) ∧ (i : Int) ≤ e.2 ∧ e.2 < ((i + l.length : Nat) : Int)
  | [], _, _, h => by cases h
  | a :: l, i, e, h => by
    rw [crashEs] at h
    rcases List.mem_cons.1 h with rfl | h
    · exact ⟨⟨a, .head _, rfl⟩, Int.le_refl _, by show (i : Int) < _; rw [List.length_cons]; omega⟩
    · obtain ⟨⟨b, hb, e1⟩, h1, h2⟩ := crashEs_mem h
      exact ⟨⟨b, .tail _ hb, e1⟩, by omega, by rw [List.length_cons]; omega⟩
theorem crashEs_ord : ∀ {l : List E} {i : Nat}, Ord l → Ord (crashEs i l)
  | [], _, h => h
  | a :: l, i, h => by
    obtain ⟨h1, h2⟩ := List.pairwise_cons.1 h
    rw [crashEs]
    refine List.pairwise_cons.2 ⟨fun e he => ?_, crashEs_ord h2⟩
    obtain ⟨⟨b, hb, e1⟩, h3, _⟩ := crashEs_mem he
    exact ⟨by show a.1 < e.1; rw [← e1]; exact (h1 b hb).1, by show (i : Int) ≠ e.2; omega⟩
theorem dir_named {d : D} (h : RightD d) (dir : Bool) : Named (dirOf d dir) d.fs.length := by
  unfold dirOf
  split
  · exact h.2.1.1
  · exact h.2.1.2.1
theorem crash_right {d : D} (h : RightD d) (keep : List Int) (dir : Bool) : RightD (crashG d keep dir) := by
  have hN := dir_named h dir
  generalize hl : dirOf d dir = l at hN
  have hfl : (filesOf l).length ≤ d.fs.length := by
    refine nodup_sub ?_ fun f hf => ?_
    · have ho := hN.2
      unfold Ord at ho
      unfold filesOf
      exact List.pairwise_map.2 (ho.imp fun hab => hab.2)
    · obtain ⟨e, he, rfl⟩ := List.mem_map.1 hf
      exact (hN.1 e he).2
  have hll : l.length ≤ 20 := by
    have e : (filesOf l).length = l.length := List.length_map ..
    have := h.1
    omega
  have hes : Named (crashEs 0 l) l.length := ⟨fun e he => by
    obtain ⟨⟨b, hb, e1⟩, h1, h2⟩ := crashEs_mem he
    exact ⟨e1 ▸ (hN.1 b hb).1, by omega, by omega⟩, crashEs_ord hN.2⟩
  have hfs : ∀ (m : List E) (i : Nat), (∀ e ∈ m, e ∈ l) → ∀ f ∈ crashFs d keep i m, FileOk f := by
    intro m
    induction m with
    | nil => intro i _ f hf; cases hf
    | cons e m ih =>
      intro i hm f hf
      rw [crashFs] at hf
      rcases List.mem_cons.1 hf with rfl | hf
      · obtain ⟨_, a, b⟩ := hN.1 e (hm e (.head _))
        exact crashF_ok (h.2.1.2.2 _ (fileAt_mem a b)) _
      · exact ih (i + 1) (fun e he => hm e (.tail _ he)) f hf
  unfold crashG
  rw [hl]
  have e0 : (crashFs d keep 0 l).length = l.length := crashFs_len d keep l 0
  refine ⟨by show (crashFs d keep 0 l).length ≤ 20; rw [e0]; exact hll, ⟨by show Named (crashEs 0 l) (crashFs d keep 0 l).length; rw [e0]; exact hes, by show Named (crashEs 0 l) (crashFs d keep 0 l).length; rw [e0]; exact hes, hfs l 0 fun _ he => he⟩, ?_⟩
  show firsts (filesOf (crashEs 0 l ++ crashEs 0 l)) = rangeZ (crashFs d keep 0 l).length
  rw [e0]
  have e1 : filesOf (crashEs 0 l) = rangeZ l.length := by rw [crashEs_files, ← List.range_eq_range']; rfl
  rw [show filesOf (crashEs 0 l ++ crashEs 0 l) = rangeZ l.length ++ rangeZ l.length by rw [filesOf, List.map_append]; show filesOf _ ++ filesOf _ = _; rw [e1]]
  unfold firsts
  rw [from_app, from_new (nodup_range _) (fun _ _ => List.not_mem_nil), List.nil_append]
  exact from_old fun _ hf => hf
end Go.Proofs.Ytoifdjpflannlaa.Dk
