/-
  No cell of these rows narrows 'for every input' (looked for: loops, veiled, ifaces, maps, wideKeys, modest, calm, conditions, laid).
  DERIVED. THE GIVEN ROWS OF THIS SEAT. 4 by the template 'for every input the law returns true; each argument reads behind the call as it read before'; 0 by the template 'total and deterministic' (their statements: YtehanbmnkoebcaaTotals.lean).
  GIVEN WITH THE SEED: the statements are not yours to turn. If you find one false, say at which input.
  Laid BY PROGRAM, IN A SANDBOX (cutbox-rows.mjs): the forced cells as the released guide's own fill.sh prints them over the translation e84f3297025bb32e… (all of the seat's roots in one cut). By AI agents, Wed Nov 11 2026. No macro, syntax, notation, axiom, sorry.
-/
import Derived.Test.YtehanbmnkoebcaaChecked
import GoSem.Claim
import GoSem.ClaimJoined
import GoSem.ClaimMapViews
import Derived.JoinedTies
import Derived.KernelRfl
namespace Go.Proofs.Ytehanbmnkoebcaa
/- THE CELL 'sum', in the pinned program and in every row, IS THE sha256 OF THE DUMP (.gsa) THAT YtehanbmnkoebcaaProg.lean LOADS. Nothing in Lean hashes anything: it is a label: what it is worth is what the hold of that sum in a sandbox is worth. -/
noncomputable def Try.pinned : Pinned := { name := "ytehanbmnkoebcaa", sum := "e84f3297025bb32e6db264a51fa7bf157a38a9f1e1d7d6e441fecad7c31a5461", checked := Try.checked }
namespace Rows
def none {H : Type} : Left H := { results := [], args := [] }

/-- 'boarderlaw14.PickPlaces': WHATEVER THE INPUT: true; the input reads as it did. -/
def pickPlacesSpec : ChangeSpec := { name := "pickPlaces", fn := fun _ => fun
  | [d] => { results := [.lit (.bool true)], args := [d] }
  | _ => none }
def pickPlacesRow : OpenClaim := { program := "ytehanbmnkoebcaa", sum := "e84f3297025bb32e6db264a51fa7bf157a38a9f1e1d7d6e441fecad7c31a5461", func := "boarder/boarderlaw14.PickPlaces", spec := "pickPlaces", unfollowed := true, recurses := true, apart := false }
def PickPlacesSaid : Prop := pickPlacesRow.holds Try.pinned (OpenSpec.ofChange pickPlacesSpec)

/-- ITS FALSE NEIGHBOUR: 'it returns false'. Refute it at one input. -/
def pickPlacesWrong : ChangeSpec := { name := "pickPlaces", fn := fun _ => fun
  | [d] => { results := [.lit (.bool false)], args := [d] }
  | _ => none }
def PickPlacesWrongFalsely : Prop := pickPlacesRow.holds Try.pinned (OpenSpec.ofChange pickPlacesWrong)

/-- 'boarderlaw14.PickRelay': WHATEVER THE INPUT: true; the input reads as it did. -/
def pickRelaySpec : ChangeSpec := { name := "pickRelay", fn := fun _ => fun
  | [d1, d2, d3, d4] => { results := [.lit (.bool true)], args := [d1, d2, d3, d4] }
  | _ => none }
def pickRelayRow : OpenClaim := { program := "ytehanbmnkoebcaa", sum := "e84f3297025bb32e6db264a51fa7bf157a38a9f1e1d7d6e441fecad7c31a5461", func := "boarder/boarderlaw14.PickRelay", spec := "pickRelay", unfollowed := true, recurses := true, apart := false }
def PickRelaySaid : Prop := pickRelayRow.holds Try.pinned (OpenSpec.ofChange pickRelaySpec)

/-- ITS FALSE NEIGHBOUR: 'it returns false'. Refute it at one input. -/
def pickRelayWrong : ChangeSpec := { name := "pickRelay", fn := fun _ => fun
  | [d1, d2, d3, d4] => { results := [.lit (.bool false)], args := [d1, d2, d3, d4] }
  | _ => none }
def PickRelayWrongFalsely : Prop := pickRelayRow.holds Try.pinned (OpenSpec.ofChange pickRelayWrong)

/-- 'boarderlaw14.PickWire': WHATEVER THE INPUT: true; the input reads as it did. -/
def pickWireSpec : ChangeSpec := { name := "pickWire", fn := fun _ => fun
  | [d1, d2, d3] => { results := [.lit (.bool true)], args := [d1, d2, d3] }
  | _ => none }
def pickWireRow : OpenClaim := { program := "ytehanbmnkoebcaa", sum := "e84f3297025bb32e6db264a51fa7bf157a38a9f1e1d7d6e441fecad7c31a5461", func := "boarder/boarderlaw14.PickWire", spec := "pickWire", unfollowed := true, recurses := true, apart := false }
def PickWireSaid : Prop := pickWireRow.holds Try.pinned (OpenSpec.ofChange pickWireSpec)

/-- ITS FALSE NEIGHBOUR: 'it returns false'. Refute it at one input. -/
def pickWireWrong : ChangeSpec := { name := "pickWire", fn := fun _ => fun
  | [d1, d2, d3] => { results := [.lit (.bool false)], args := [d1, d2, d3] }
  | _ => none }
def PickWireWrongFalsely : Prop := pickWireRow.holds Try.pinned (OpenSpec.ofChange pickWireWrong)

/-- 'boarderlaw14.PickHas': WHATEVER THE INPUT: true; the input reads as it did. -/
def pickHasSpec : ChangeSpec := { name := "pickHas", fn := fun _ => fun
  | [d1, d2, d3] => { results := [.lit (.bool true)], args := [d1, d2, d3] }
  | _ => none }
def pickHasRow : OpenClaim := { program := "ytehanbmnkoebcaa", sum := "e84f3297025bb32e6db264a51fa7bf157a38a9f1e1d7d6e441fecad7c31a5461", func := "boarder/boarderlaw14.PickHas", spec := "pickHas", unfollowed := true, recurses := true, apart := false }
def PickHasSaid : Prop := pickHasRow.holds Try.pinned (OpenSpec.ofChange pickHasSpec)

/-- ITS FALSE NEIGHBOUR: 'it returns false'. Refute it at one input. -/
def pickHasWrong : ChangeSpec := { name := "pickHas", fn := fun _ => fun
  | [d1, d2, d3] => { results := [.lit (.bool false)], args := [d1, d2, d3] }
  | _ => none }
def PickHasWrongFalsely : Prop := pickHasRow.holds Try.pinned (OpenSpec.ofChange pickHasWrong)

/- THE SECOND FORM. 'bulk': how many values and letters a reading holds, each counted each time it is reached (what is shared counts as often as it is met; a slice's spare places count too). A statement '..UptoSaid' is the law's where the arguments, and the package variables that the reading takes, are together of bulk at most 1048576: NARROWER than '..Said'. Prove '..Said' where nothing that the law and all that it calls make is longer than what came in: it says more and counts as full. Else prove '..UptoSaid'. A law counts once. -/
mutual
def uptoBulk {H : Type} : DataW H → Nat
  | .lit (.string bytes) => bytes.length + 1
  | .lit _ => 1
  | .nil => 1
  | .ptr d => uptoBulk d + 1
  | .slice elems spare => uptoBulkAll elems + uptoBulkAll spare + 1
  | .agg parts => uptoBulkAll parts + 1
  | .iface _ d => uptoBulk d + 1
  | .map entries => uptoBulkEntries entries + 1
  | .held _ => 1
def uptoBulkAll {H : Type} : List (DataW H) → Nat
  | [] => 0
  | d :: r => uptoBulk d + uptoBulkAll r
def uptoBulkEntries {H : Type} : List (Lit × DataW H) → Nat
  | [] => 0
  | x :: r => uptoBulkEntry x + uptoBulkEntries r
def uptoBulkEntry {H : Type} : Lit × DataW H → Nat
  | (.string bytes, d) => bytes.length + uptoBulk d + 1
  | (_, d) => uptoBulk d + 1
 end
def uptoSmall : (H : Type) → List (DataW H) → Bool := fun _ ds => decide (uptoBulkAll ds ≤ 1048576)
def OpenSpec.upto (s : _root_.Go.ChangeSpec) : _root_.Go.OpenSpec := { _root_.Go.OpenSpec.ofChange s with cond := some uptoSmall }

/-- 'boarderlaw14.PickPlaces', WHERE WHAT IT READS IS OF BULK AT MOST 1048576: true; the input reads as it did. -/
def pickPlacesUptoRow : OpenClaim := { program := "ytehanbmnkoebcaa", sum := "e84f3297025bb32e6db264a51fa7bf157a38a9f1e1d7d6e441fecad7c31a5461", func := "boarder/boarderlaw14.PickPlaces", spec := "pickPlaces", unfollowed := true, recurses := true, apart := false, narrowed := true }
def PickPlacesUptoSaid : Prop := pickPlacesUptoRow.holds Try.pinned (OpenSpec.upto pickPlacesSpec)

/-- 'boarderlaw14.PickRelay', WHERE WHAT IT READS IS OF BULK AT MOST 1048576: true; the input reads as it did. -/
def pickRelayUptoRow : OpenClaim := { program := "ytehanbmnkoebcaa", sum := "e84f3297025bb32e6db264a51fa7bf157a38a9f1e1d7d6e441fecad7c31a5461", func := "boarder/boarderlaw14.PickRelay", spec := "pickRelay", unfollowed := true, recurses := true, apart := false, narrowed := true }
def PickRelayUptoSaid : Prop := pickRelayUptoRow.holds Try.pinned (OpenSpec.upto pickRelaySpec)

/-- 'boarderlaw14.PickWire', WHERE WHAT IT READS IS OF BULK AT MOST 1048576: true; the input reads as it did. -/
def pickWireUptoRow : OpenClaim := { program := "ytehanbmnkoebcaa", sum := "e84f3297025bb32e6db264a51fa7bf157a38a9f1e1d7d6e441fecad7c31a5461", func := "boarder/boarderlaw14.PickWire", spec := "pickWire", unfollowed := true, recurses := true, apart := false, narrowed := true }
def PickWireUptoSaid : Prop := pickWireUptoRow.holds Try.pinned (OpenSpec.upto pickWireSpec)

/-- 'boarderlaw14.PickHas', WHERE WHAT IT READS IS OF BULK AT MOST 1048576: true; the input reads as it did. -/
def pickHasUptoRow : OpenClaim := { program := "ytehanbmnkoebcaa", sum := "e84f3297025bb32e6db264a51fa7bf157a38a9f1e1d7d6e441fecad7c31a5461", func := "boarder/boarderlaw14.PickHas", spec := "pickHas", unfollowed := true, recurses := true, apart := false, narrowed := true }
def PickHasUptoSaid : Prop := pickHasUptoRow.holds Try.pinned (OpenSpec.upto pickHasSpec)

end Rows
end Go.Proofs.Ytehanbmnkoebcaa
