/- make([]byte, n), over whatever program. No conditions. -/
import Derived.Test.YtoldppbakapohaaGreatDoorKitA
import Derived.Lib.SlBytesConst
namespace Go.Proofs.YtoldppbakapohaaGreatDoor.By
open Go.RowKit Tl
theorem Own.made (e : Nat) (w : World) (n : Nat) (hn : n ≤ 9223372036854775807) : Own e w.heap.size (w.alloc (.cells (madeCells (Value.int .u8 0).cells n) e)) (some ⟨w.heap.size, 0, none⟩) n n (List.replicate n 0) := by
  have h := World.ownsRow_lit (e := e) (size := 1) w (madeCells (Value.int .u8 0).cells n) n (Nat.le_refl _) (by unfold maxLen; omega) (by rw [size_madeCells]; omega)
  have e1 : (madeCells (Value.int .u8 0).cells n).toList = cellsU (List.replicate n 0) := by
    have e2 : (Value.int .u8 0).cells = #[Value.int .u8 0] := rfl
    rw [e2, toList_madeCells_one]
    simp [cellsU]
  rw [e1] at h
  exact h
theorem ByP.make {P : Program} {T e S : TypeId} (hp : ByP P T e S) (n : Nat) (hn : n ≤ 1000000) (W : World) : (Instr.makeSlice T (.int .i64 (n : Int)) (.int .i64 (n : Int))).run P W = .ok (.slice (some ⟨W.heap.size, 0, none⟩) n n) (W.alloc (.cells (madeCells (Value.int .u8 0).cells n) e)) := by
  obtain ⟨i, hi, hz, hs1, hby⟩ := info_parts hp.hi
  have := run_make (P := P) W T e i _ hp.hT hi hz .i64 .i64 (n : Int) (n : Int) (by omega) (by omega) (by rw [hby]; omega) (by omega)
  rw [hs1] at this
  simpa using this
end Go.Proofs.YtoldppbakapohaaGreatDoor.By
