/- 'append(s, make([]byte, k)...)' at a byte slice that the call owns: k noughts more. Over whatever program. -/
import Derived.Test.YtoldppbakapohaaGreatDoorKitA
import Derived.Lib.AppendZerosOnto
namespace Go.Proofs.YtoldppbakapohaaGreatDoor.By
open Go.RowKit

theorem zero_cells (k : Nat) : (Builtin.zeroCells (Value.int .u8 0).cells k).toList = cellsU (List.replicate k 0) := by
  have e2 : (Value.int .u8 0).cells = #[Value.int .u8 0] := rfl
  rw [e2]
  unfold Builtin.zeroCells cellsU
  simp only [Array.toList_map, List.map_replicate]
  apply List.ext_getElem
  · simp
  · intro i h1 h2
    simp [Nat.mod_one]
section
variable {P : Program} {T e S : TypeId} {w : World} {A : Option Addr} {n c : Nat} {l : List UInt8}
theorem run_app_zeros (hp : ByP P T e S) (tn ty : TypeId) (htn : P.underlying tn = some (.int .i64)) {B : Nat} (hown : Own e B w A n c l) (h0 : 0 < n) (k : Nat) (hb : n + k ≤ 1000000) (hB : B ≤ w.heap.size) :
    ∃ A' c' w', (Builtin.append_ #[T, tn] ty #[.slice A n c, .int .i64 (k : Int)]).run P w = .ok (.slice A' (n + k) c') w' ∧ Own e B w' A' (n + k) c' (l ++ List.replicate k 0) ∧ Below B w w' := by
  have hlow : ∀ j, (Value.slice A n c).ownBlock = some j → B ≤ j := fun j hj => (World.ownsRow.lt hown j hj).1
  obtain ⟨i, hi, hz, hs1, hby⟩ := info_parts hp.hi
  rcases hown.2 with ⟨h', h0'⟩ | ⟨g, cap, cur, h', hbg, hg, hnc, hcm, hcs, htake⟩
  · omega
  simp only [Value.slice.injEq, true_and] at h'
  obtain ⟨rfl, rfl⟩ := h'
  have hw : IntKind.i64.wrap (k : Int) = k := by rw [IntKind.wrap_i64]; omega
  have hneg : ¬ ((k : Int) < 0) := by omega
  have h48i : ¬ (281474976710656 < (k : Int)) := by omega
  by_cases hroom : n + k ≤ c
  · by_cases hk : k = 0
    · subst hk
      have hw0 : IntKind.i64.wrap 0 = 0 := by rw [IntKind.wrap_i64]; decide
      refine ⟨_, c, w, ?_, by simpa using hown, Below.refl _ _⟩
      simp [Builtin.append_, run_underlying hp.hT, run_underlying htn, sizeOf, typeInfo, hi, hby, asInt, asIntOf, hw0, hnc, storeCells]
    · have hns : ¬ (k * i.size = 0) := by rw [hs1]; omega
      have hst := run_storeCells_at P g (n * i.size) e (cellsU (List.replicate k 0)) 0 cur w hg (by rw [hs1, cellsU_length, List.length_replicate, hcs]; omega) (cellsU_one _)
      simp only [Nat.add_zero] at hst
      have hzc := zero_cells k
      refine ⟨some ⟨g, 0, none⟩, c, w.setRow g (cur.toList.take (n * i.size) ++ cellsU (List.replicate k 0) ++ cur.toList.drop (n * i.size + (cellsU (List.replicate k 0)).length)).toArray, ?_, ?_, ?_⟩
      · simp [Builtin.append_, run_underlying hp.hT, run_underlying htn, sizeOf, typeInfo, zeroValue, hi, hz, hby, asInt, asIntOf, hw, hneg, h48i, hns, hroom, hzc, Addr.add_lit, hst]
      · have hlen : (cellsU l ++ cellsU (List.replicate k 0)).length = (n + k) * 1 := by rw [List.length_append, hown.1, cellsU_length, List.length_replicate]; omega
        refine ⟨by rw [cellsU_append]; exact hlen, .inr ⟨g, c, _, rfl, hbg, setRow_heap w g cur _ e _ hg, hroom, hcm, ?_, ?_⟩⟩
        · simp only [List.size_toArray, List.length_append, List.length_take, List.length_drop, Array.length_toList, cellsU_length, List.length_replicate, hs1]
          omega
        · rw [hs1, htake, cellsU_append, ← hlen]
          exact List.take_left
      · exact (Below.refl _ _).grown (row := some g) ⟨rfl, rfl, rfl, by simp, fun j _ hj => setRow_other w g j _ (fun e => hj (by rw [e]))⟩ hB (fun j hj => by cases hj; exact hbg)
  · have hk : 0 < k := by omega
    have holds : ∀ j u, (cellsU l)[j]? = some u → w.drew.cell? ((⟨g, 0, none⟩ : Addr).add j) = some u := hown.cells (g := g) rfl
    have hold := run_firstCells_some (P := P) w.drew i.size n ⟨g, 0, none⟩ n c (cellsU l) (by rw [hs1]; exact hown.1) holds
    have hr := Lib.run_append_grow_zeros (P := P) w T tn ty e i _ .i64 .i64 hp.hT htn hi hz (some ⟨g, 0, none⟩) n c (cellsU l) hold k hk (by omega) (by omega) (by omega) (by rw [hby]; omega) (growslice_fits (by omega) (by rw [hby]; omega))
    have hge := grownCap_ge w (n + k) c e
    have hcm2 : grownCap w (n + k) c e ≤ maxLen := grownCap_le_maxLen w (n + k) c e (by unfold maxLen; omega)
    refine ⟨_, _, _, hr, ?_, ((Below.refl _ _).drew.alloc hB _)⟩
    have hlen : (cellsU l ++ cellsU (List.replicate k 0)).length = (n + k) * 1 := by rw [List.length_append, hown.1, cellsU_length, List.length_replicate]; omega
    refine ⟨by rw [cellsU_append]; exact hlen, .inr ⟨w.heap.size, _, _, rfl, hB, heap_alloc_new w.drew _, hge, hcm2, ?_, ?_⟩⟩
    · have e1 : (Value.int .u8 0).cells.size = 1 := rfl
      simp only [Array.size_append, List.size_toArray, size_zeroCells, e1, hown.1]
      omega
    · simp only [Array.toList_append, List.append_assoc, zero_cells]
      rw [← List.append_assoc, cellsU_append, ← hlen]
      exact List.take_left
end
end Go.Proofs.YtoldppbakapohaaGreatDoor.By
