/- Words for strings by value, and for memory that has grown by one block. No conditions but those that each theorem names. -/
import Derived.Test.YtoilljilndmmfaaRgKit
import Derived.Test.YtoilljilndmmfaaByU
import Derived.Test.YtoilljilndmmfaaElKit
import Derived.Test.YtoilljilndmmfaaBase
import Derived.Sort.Walk0
import Derived.WalkSpells
import Derived.WalkLawsBesides
import Derived.IntWalk
set_option maxRecDepth 8000
namespace Go.Proofs.Ytoilljilndmmfaa.Dw
open Go.RowKit By

/-! ### Strings -/
/-- A name as a string. -/
def ba (l : List UInt8) : ByteArray := ⟨l.toArray⟩
theorem ba_data (l : List UInt8) : (ba l).data.toList = l := rfl
theorem ba_list (l : List UInt8) : (ba l).toList = l := by rw [ByteArray.toList_eq]; rfl
theorem ba_size (l : List UInt8) : (ba l).size = l.length := rfl
theorem ba_of (s : ByteArray) : s = ba s.data.toList := rfl
theorem ba_inj {a b : List UInt8} (h : ba a = ba b) : a = b := by have := congrArg (fun s => s.data.toList) h; exact this
theorem nil_of {α : Type} {Y : Lay α} {U n c : Nat} {w : World} {l : List α} (h : RdG Y U w none n c l) : n = 0 ∧ l = [] := by
  have h0 : n = 0 := by
    rcases Nat.eq_zero_or_pos n with h0 | h0
    · exact h0
    · obtain ⟨_, _, e, _⟩ := h.2.2.2 h0
      cases e
  refine ⟨h0, List.length_eq_zero_iff.1 ?_⟩
  rw [h.len, h0]
theorem alloc_more (w : World) (o : Obj) : Below w.heap.size w (w.alloc o) := (Below.refl _ _).alloc (Nat.le_refl _) _
end Go.Proofs.Ytoilljilndmmfaa.Dw
