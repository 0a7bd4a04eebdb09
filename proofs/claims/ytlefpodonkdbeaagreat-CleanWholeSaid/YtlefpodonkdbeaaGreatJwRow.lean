/- A row of leases that a call appends to, beside a disk: no cell of the row, those beyond its end among them, is one that a disk with a journal alone is read from. -/
import Derived.Test.YtlefpodonkdbeaaGreatJwKit
import Derived.Test.YtlefpodonkdbeaaGreatDwE
set_option maxRecDepth 8000
namespace Go.Proofs.YtlefpodonkdbeaaGreat.Jw
open Go.RowKit Co By Ky Rc Dk Jn Ew
open Dw (ba ba_size ba_data ba_list ba_inj Dv RdD Sm Byt)

/-- A cell of a lease whose key is not the journal's name. -/
def QL (v : Value) : Prop := (∃ n, v = .int .i64 n) ∨ (∃ s, v = .string s ∧ s ≠ ba nJ)
/-- All cells of the row's block are such. -/
def Spare (w : World) (A : Option Addr) : Prop := ∀ g cur, A = some ⟨g, 0, none⟩ → w.heap[g]? = some (.cells cur 56 (0, 0)) → ∀ u ∈ cur.toList, QL u
theorem Spare.none (w : World) : Spare w none := fun _ _ h => by cases h
theorem ql_lease {a : L} (h : a.key ≠ nJ) : ∀ u ∈ layL.cells [a], QL u := by
  intro u hu
  rw [layL.cells_one] at hu
  simp only [layL, List.mem_cons, List.not_mem_nil, or_false] at hu
  rcases hu with rfl | rfl | rfl | rfl
  · exact .inl ⟨_, rfl⟩
  · exact .inl ⟨_, rfl⟩
  · exact .inl ⟨_, rfl⟩
  · exact .inr ⟨_, rfl, fun k => h (ba_inj k)⟩
theorem ql_zero : ∀ u ∈ (Value.agg #[.int .i64 0, .int .i64 0, .int .i64 0, .string ⟨#[]⟩]).cells.toList, QL u := by
  intro u hu
  simp only [Value.cells, List.mem_cons, List.not_mem_nil, or_false] at hu
  rcases hu with rfl | rfl | rfl | rfl
  · exact .inl ⟨_, rfl⟩
  · exact .inl ⟨_, rfl⟩
  · exact .inl ⟨_, rfl⟩
  · exact .inr ⟨_, rfl, fun k => by have := ba_inj (a := []) (b := nJ) k; cases this⟩
theorem ql_zeros (k : Nat) : ∀ u ∈ (Builtin.zeroCells (Value.agg #[.int .i64 0, .int .i64 0, .int .i64 0, .string ⟨#[]⟩]).cells k).toList, QL u := by
  intro u hu
  refine ql_zero u ?_
  unfold Builtin.zeroCells at hu
  rw [Array.toList_map, List.mem_map] at hu
  obtain ⟨i, _, rfl⟩ := hu
  have h4 : i % 4 = 0 ∨ i % 4 = 1 ∨ i % 4 = 2 ∨ i % 4 = 3 := by omega
  show (#[Value.int .i64 0, .int .i64 0, .int .i64 0, .string ⟨#[]⟩] : Array Value)[i % 4]! ∈ _
  rcases h4 with e | e | e | e <;> rw [e] <;> simp [Value.cells]
theorem spare_new (w : World) (cs : Array Value) (h : ∀ u ∈ cs.toList, QL u) : Spare (w.drew.alloc (.cells cs 56)) (some ⟨w.heap.size, 0, none⟩) := by
  intro g cur hA hh u hu
  injection hA with hA
  injection hA with hA _
  subst hA
  have h2 : some (Obj.cells cs 56) = some (Obj.cells cur 56 (0, 0)) := (heap_alloc_new w.drew _).symm.trans hh
  injection h2 with h2
  injection h2 with h2 _ _
  subst h2
  exact h u hu
/-- The row that a lease was appended to is such a row again. -/
theorem spare_app {U B n c c2 c' : Nat} {w w' : World} {A A' : Option Addr} {l : List L} {a : L} {ad : Addr} {ty : TypeId} (hown : OwnLs B w A n c l) (hs : Spare w A) (hlit : RdLs U w (some ad) 1 c2 [a]) (hq : a.key ≠ nJ) (hn : n ≤ 1000)
    (hrun : (Builtin.append_ #[22, 22] ty #[.slice A n c, .slice (some ad) 1 c2]).run Tryz.prog w = .ok (.slice A' (n + 1) c') w') : Spare w' A' := by
  obtain ⟨i, hi, hz, hs1, hby⟩ := info_parts lesP.hi
  obtain ⟨b, o, had, _, hc⟩ := hlit.2.2.2 (by omega)
  injection had with had
  subst had
  have hnews : ∀ j u, (layL.cells [a])[j]? = some u → w.cell? ((⟨b, o, none⟩ : Addr).add j) = some u := fun j u hu => by
    obtain ⟨hj, e⟩ := List.getElem?_eq_some_iff.1 hu
    rw [add_none, hc j hj, e]
  have hl4 : (layL.cells [a]).length = 1 * i.size := by rw [layL.cells_len, hs1]; rfl
  rcases hown.1.2 with ⟨h', h0⟩ | ⟨g, cap, cur, h', _, hg, hnc, hcm, hcs, htake⟩
  · simp only [Value.slice.injEq] at h'
    obtain ⟨rfl, rfl, rfl⟩ := h'
    have hr := run_append_nil (P := Tryz.prog) w _ ty _ i _ lesP.hT hi hz ⟨b, o, none⟩ 1 c2 (layL.cells [a]) hl4 hnews (by omega) (by omega) (by rw [hby]; omega)
    rw [hr] at hrun
    injection hrun with h1 h2
    injection h1 with h1
    subst h1 h2
    refine spare_new w _ fun u hu => ?_
    rw [Array.toList_append] at hu
    rcases List.mem_append.1 hu with hu | hu
    · exact ql_lease hq u hu
    · exact ql_zeros _ u hu
  · simp only [Value.slice.injEq, true_and] at h'
    obtain ⟨rfl, rfl⟩ := h'
    have hcur := hs g cur rfl hg
    by_cases hroom : n + 1 ≤ c
    · have hfit : n * i.size + (layL.cells [a]).length ≤ cur.size := by rw [hl4, hs1, hcs, ← Nat.add_mul]; exact Nat.mul_le_mul_right _ hroom
      have hr := run_append_room (P := Tryz.prog) w _ ty _ i lesP.hT hi g n c cur hg ⟨b, o, none⟩ 1 c2 (layL.cells [a]) hl4 hnews (layL.cells_oneCell [a]) hroom hfit
      rw [hr] at hrun
      injection hrun with h1 h2
      injection h1 with h1
      subst h1 h2
      intro g' cur' hA hh u hu
      injection hA with hA
      injection hA with hA _
      subst hA
      rw [setRow_heap w g cur _ _ _ hg] at hh
      injection hh with hh
      injection hh with hh _ _
      subst hh
      simp only [List.append_assoc] at hu
      rcases List.mem_append.1 hu with hu | hu
      · exact hcur u (List.mem_of_mem_take hu)
      · rcases List.mem_append.1 hu with hu | hu
        · exact ql_lease hq u hu
        · exact hcur u (List.mem_of_mem_drop hu)
    · have holds : ∀ j u, (layL.cells l)[j]? = some u → w.cell? ((⟨g, 0, none⟩ : Addr).add j) = some u := hown.1.cells (g := g) rfl
      have hr := run_append_grow (P := Tryz.prog) w _ ty _ i _ lesP.hT hi hz ⟨g, 0, none⟩ n c (layL.cells l) (by rw [layL.cells_len, hs1, hown.2]) holds ⟨b, o, none⟩ 1 c2 (layL.cells [a]) hl4 hnews (by omega) (by omega) (growslice_fits (by omega) (by rw [hby]; omega))
      rw [hr] at hrun
      injection hrun with h1 h2
      injection h1 with h1
      subst h1 h2
      refine spare_new w _ fun u hu => ?_
      rw [Array.toList_append, Array.toList_append, List.append_assoc] at hu
      rcases List.mem_append.1 hu with hu | hu
      · rw [← htake] at hu
        exact hcur u (List.mem_of_mem_take hu)
      · rcases List.mem_append.1 hu with hu | hu
        · exact ql_lease hq u hu
        · exact ql_zeros _ u hu
/-- 'append(l, a)' at the operation: the row is such a row again. -/
theorem wpList_appL {U B n c c2 : Nat} {w : World} {A : Option Addr} {l : List L} {a : L} {ad : Addr} {ops : Array Oper} {rest : List Oper} {o : Oper} {x : Act} {Q : Exit → Act → World → Prop} (hgd : o.guard = none) (s y : Operand)
    (ho : o.op = .call { callee := .builtin .append, args := #[s, y], argTypes := #[22, 22] }) (hs : x.eval s = .slice A n c) (hown : OwnLs B w A n c l) (hsp : Spare w A)
    (hx : x.eval y = .slice (some ad) 1 c2) (h2 : RdLs U w (some ad) 1 c2 [a]) (hq : a.key ≠ nJ) (hn : n ≤ 1000) (hB : B ≤ w.heap.size)
    (h : ∀ A' c' w', AppG layL 56 B w A n c 1 (l ++ [a]) A' c' w' → Spare w' A' → wpList Tryz.prog ops Q rest (x.put o.dst (.slice A' (n + 1) c')) w') : wpList Tryz.prog ops Q (o :: rest) x w :=
  wpList_plain hgd fun _ hK => by
    obtain ⟨A', c', w', hrun, h3⟩ := run_appG lesP (by decide) (by decide) (by kernel_rfl) o.type hown h2 (by omega) hB
    have h4 := spare_app hown hsp h2 hq hn hrun
    unfold Oper.wp execOp
    simp only [ho, resolve, invoke, builtin, Sem.run_bind, Sem.run_pure, Result.andThen_ok, List.map_toArray, List.map_cons, List.map_nil, hs, hx, hrun]
    exact hK _ _ (h A' c' w' h3 h4)
theorem Spare.below {B n c : Nat} {w w' : World} {A : Option Addr} {l : List L} (h : Spare w A) (ho : OwnLs B w A n c l) (hb : ∀ k, k < w.heap.size → B ≤ k → w'.heap[k]? = w.heap[k]?) : Spare w' A := by
  intro g cur hA hh
  rcases ho.1.2 with ⟨h', _⟩ | ⟨g', cap, cur', h', hB, hg, _⟩
  · simp only [Value.slice.injEq] at h'
    rw [h'.1] at hA
    cases hA
  · simp only [Value.slice.injEq] at h'
    have hA2 := h'.1.symm.trans hA
    injection hA2 with hA2
    injection hA2 with hA2 _
    subst hA2
    have hlt : g' < w.heap.size := by
      rcases Nat.lt_or_ge g' w.heap.size with k | k
      · exact k
      · rw [Array.getElem?_eq_none k] at hg; cases hg
    rw [hb g' hlt hB] at hh
    exact h g' cur hA hh

/-! ### What is read elsewhere stays -/
theorem rdg_row {α : Type} {Y : Lay α} {U : Nat} {w w' : World} {A : Option Addr} {n c g : Nat} {l : List α} {t : TypeId} {cs : Array Value} (hY : ∀ a ∈ l, ∃ (j : Nat) (v : Value), (Y.cs a)[j]? = some v ∧ ¬ QL v)
    (h : RdG Y U w A n c l) (hc : Cel w g t cs) (hs : ∀ u ∈ cs.toList, QL u) (hUw : U ≤ w.heap.size) (hw : ∀ p : Addr, p.block < w.heap.size → p.block ≠ g → w'.cell? p = w.cell? p) : RdG Y U w' A n c l :=
  ⟨h.1, h.2.1, h.2.2.1, fun hn => by
    obtain ⟨b, o, e, hU, hcl⟩ := h.2.2.2 hn
    refine ⟨b, o, e, hU, fun i hi => ?_⟩
    have hne : b ≠ g := by
      intro hbg
      subst hbg
      obtain ⟨b', o', e', _, a, ha, hca⟩ := h.at_ (k := 0) hn
      rw [e] at e'
      injection e' with e'
      injection e' with e1 e2 _
      subst e1
      obtain ⟨j, v, hv, hsv⟩ := hY a (List.mem_of_getElem? ha.out)
      have h1 := hca j v hv
      rw [hc.cell] at h1
      exact hsv (hs v (by have := Array.mem_of_getElem? h1; simpa using this))
    rw [hw ⟨b, o + i, none⟩ (Nat.lt_of_lt_of_le hU hUw) hne, hcl i hi]⟩
theorem bs_row {U : Nat} {w w' : World} {A : Option Addr} {n c g : Nat} {l : List UInt8} {t : TypeId} {cs : Array Value}
    (h : BsU U w A n c l) (hc : Cel w g t cs) (hs : ∀ u ∈ cs.toList, QL u) (hUw : U ≤ w.heap.size) (hw : ∀ p : Addr, p.block < w.heap.size → p.block ≠ g → w'.cell? p = w.cell? p) : BsU U w' A n c l :=
  ⟨⟨h.1.1, h.1.2.1, h.1.2.2.1, fun hn => by
    obtain ⟨b, o, e, hcl⟩ := h.1.2.2.2 hn
    refine ⟨b, o, e, fun i hi => ?_⟩
    have hne : b ≠ g := by
      intro hbg
      subst hbg
      have h1 := hcl i hi
      rw [hc.cell] at h1
      have h2 := hs _ (by have := Array.mem_of_getElem? h1; simpa using this)
      rcases h2 with ⟨_, h2⟩ | ⟨_, h2, _⟩
      · injection h2 with h2 _
        cases h2
      · cases h2
    have hbU : b < U := h.2 hn ⟨b, o, none⟩ e
    rw [hw ⟨b, o + i, none⟩ (Nat.lt_of_lt_of_le hbU hUw) hne, hcl i hi]⟩, h.2⟩
theorem rdd_row {U B n c : Nat} {w w' : World} {z : Dv} {A : Option Addr} {l : List L} (hz : RdD U w z) (hn : ∀ e ∈ z.now ++ z.kept, e.1 = nJ) (ho : OwnLs B w A n c l) (hs : Spare w A) (hU : U ≤ w.heap.size) (hg : w.grownBy w' (Value.slice A n c).ownBlock) : RdD U w' z := by
  rcases ho.1.2 with ⟨h', _⟩ | ⟨g, cap, cur, h', _, hh, _⟩
  · simp only [Value.slice.injEq] at h'
    obtain ⟨rfl, rfl, rfl⟩ := h'
    have hb : Below w.heap.size w w' := (Below.refl _ _).grown hg (Nat.le_refl _) (fun k hk => by cases hk)
    exact hz.below (hb.mono hU)
  · simp only [Value.slice.injEq, true_and] at h'
    obtain ⟨rfl, rfl⟩ := h'
    have hcel : Cel w g 56 cur := hh
    have hq := hs g cur rfl hh
    have hw : ∀ p : Addr, p.block < w.heap.size → p.block ≠ g → w'.cell? p = w.cell? p := fun p hp hne => World.cell?_of_block (w := w) (hg.block p.block hp (fun k => hne (by injection k)))
    have hE : ∀ l : List E, (∀ e ∈ l, e.1 = nJ) → ∀ e ∈ l, ∃ (j : Nat) (v : Value), (Dw.layE.cs e)[j]? = some v ∧ ¬ QL v := fun l hl e he => ⟨0, .string (ba e.1), rfl, fun k => by
      rcases k with ⟨_, k⟩ | ⟨s, k, ks⟩
      · cases k
      · injection k with k
        exact ks (by rw [← k, hl e he])⟩
    refine ⟨⟨rdg_row (fun a _ => ⟨0, _, rfl, fun k => ?_⟩) hz.f.1 hcel hq hU hw, fun u hu => bs_row (hz.f.2 u hu) hcel hq hU hw⟩, rdg_row (hE _ fun e he => hn e (List.mem_append_left _ he)) hz.n hcel hq hU hw, rdg_row (hE _ fun e he => hn e (List.mem_append_right _ he)) hz.k hcel hq hU hw⟩
    rcases k with ⟨_, k⟩ | ⟨_, k, _⟩ <;> cases k
theorem names_disk (ls : List L) : ∀ e ∈ (diskJ ls).now ++ (diskJ ls).kept, e.1 = nJ := by
  intro e he
  unfold diskJ at he
  split at he
  · cases he
  · simp only [oneJ, if_true, List.mem_append, List.mem_singleton, or_self] at he
    rw [he]
theorem key_notJ {l : L} (h : RightR l) : l.key ≠ nJ := by
  intro k
  have := h.2.2.2
  rw [k] at this
  exact absurd this (by decide)
end Go.Proofs.YtlefpodonkdbeaaGreat.Jw
