/- The rows of the document's examples answer yes. -/
import Derived.Test.YtabjcgchcnnjjaaGreatDoorTlJoin
import Derived.Test.YtabjcgchcnnjjaaGreatDoorByMake
import Derived.Lib.SlBytesConst
namespace Go.Proofs.YtabjcgchcnnjjaaGreatDoor.By
open Go.RowKit Tl
theorem OwnC.lits (e : Nat) (w : World) (ps : List Po) (n : Nat) (cs : Array Value) (hcs : cs.toList = cellsP ps) (hn : ps.length = n) (hm : n ≤ 9223372036854775807) : OwnC e w.heap.size (w.alloc (.cells cs e)) (some ⟨w.heap.size, 0, none⟩) n n ps := by
  have h := World.ownsRow_lit (e := e) (size := 2) w cs n (Nat.le_refl _) (by unfold maxLen; omega) (by rw [← Array.length_toList, hcs, cellsP_len, hn])
  rw [hcs] at h
  exact h
end Go.Proofs.YtabjcgchcnnjjaaGreatDoor.By
namespace Go.Proofs.YtabjcgchcnnjjaaGreatDoor.Tw
open Go.RowKit Tl By

end Go.Proofs.YtabjcgchcnnjjaaGreatDoor.Tw
