/-
  No cell of these rows narrows 'for every input' (looked for: loops, veiled, ifaces, maps, wideKeys, modest, calm, conditions, laid).
  DERIVED. THE GIVEN ROWS OF THIS SEAT. 4 by the template 'for every input the law returns true; each argument reads behind the call as it read before'; 0 by the template 'total and deterministic' (their statements: YtmefnlgoejbgfaaTotals.lean).
  GIVEN WITH THE SEED: the statements are not yours to turn. If you find one false, say at which input.
  Laid BY PROGRAM, IN A SANDBOX (cutbox-rows.mjs): the forced cells as the released guide's own fill.sh prints them over the translation 5811879065d7b1cc… (all of the seat's roots in one cut). By AI agents, Wed Nov 11 2026. No macro, syntax, notation, axiom, sorry.
-/
import Derived.Test.YtmefnlgoejbgfaaChecked
import GoSem.Claim
import GoSem.ClaimJoined
import GoSem.ClaimMapViews
import Derived.JoinedTies
import Derived.KernelRfl
namespace Go.Proofs.Ytmefnlgoejbgfaa
/- THE CELL 'sum', in the pinned program and in every row, IS THE sha256 OF THE DUMP (.gsa) THAT YtmefnlgoejbgfaaProg.lean LOADS. Nothing in Lean hashes anything: it is a label: what it is worth is what the hold of that sum in a sandbox is worth. -/
noncomputable def Try.pinned : Pinned := { name := "ytmefnlgoejbgfaa", sum := "5811879065d7b1ccfac00461fbc35859e1465b39abc12491f7aa73d79745e6b7", checked := Try.checked }
namespace Rows
def none {H : Type} : Left H := { results := [], args := [] }

/-- 'boarderlaw16.ClassOf': WHATEVER THE INPUT: true; the input reads as it did. -/
def classOfSpec : ChangeSpec := { name := "classOf", fn := fun _ => fun
  | [d1, d2] => { results := [.lit (.bool true)], args := [d1, d2] }
  | _ => none }
def classOfRow : OpenClaim := { program := "ytmefnlgoejbgfaa", sum := "5811879065d7b1ccfac00461fbc35859e1465b39abc12491f7aa73d79745e6b7", func := "boarder/boarderlaw16.ClassOf", spec := "classOf", unfollowed := true, recurses := true, apart := false }
def ClassOfSaid : Prop := classOfRow.holds Try.pinned (OpenSpec.ofChange classOfSpec)

/-- ITS FALSE NEIGHBOUR: 'it returns false'. Refute it at one input. -/
def classOfWrong : ChangeSpec := { name := "classOf", fn := fun _ => fun
  | [d1, d2] => { results := [.lit (.bool false)], args := [d1, d2] }
  | _ => none }
def ClassOfWrongFalsely : Prop := classOfRow.holds Try.pinned (OpenSpec.ofChange classOfWrong)

/-- 'boarderlaw16.ClassSays': WHATEVER THE INPUT: true; the input reads as it did. -/
def classSaysSpec : ChangeSpec := { name := "classSays", fn := fun _ => fun
  | [d1, d2] => { results := [.lit (.bool true)], args := [d1, d2] }
  | _ => none }
def classSaysRow : OpenClaim := { program := "ytmefnlgoejbgfaa", sum := "5811879065d7b1ccfac00461fbc35859e1465b39abc12491f7aa73d79745e6b7", func := "boarder/boarderlaw16.ClassSays", spec := "classSays", unfollowed := true, recurses := true, apart := false }
def ClassSaysSaid : Prop := classSaysRow.holds Try.pinned (OpenSpec.ofChange classSaysSpec)

/-- ITS FALSE NEIGHBOUR: 'it returns false'. Refute it at one input. -/
def classSaysWrong : ChangeSpec := { name := "classSays", fn := fun _ => fun
  | [d1, d2] => { results := [.lit (.bool false)], args := [d1, d2] }
  | _ => none }
def ClassSaysWrongFalsely : Prop := classSaysRow.holds Try.pinned (OpenSpec.ofChange classSaysWrong)

/-- 'boarderlaw16.ClassMade': WHATEVER THE INPUT: true; the input reads as it did. -/
def classMadeSpec : ChangeSpec := { name := "classMade", fn := fun _ => fun
  | [d1, d2] => { results := [.lit (.bool true)], args := [d1, d2] }
  | _ => none }
def classMadeRow : OpenClaim := { program := "ytmefnlgoejbgfaa", sum := "5811879065d7b1ccfac00461fbc35859e1465b39abc12491f7aa73d79745e6b7", func := "boarder/boarderlaw16.ClassMade", spec := "classMade", unfollowed := true, recurses := true, apart := false }
def ClassMadeSaid : Prop := classMadeRow.holds Try.pinned (OpenSpec.ofChange classMadeSpec)

/-- ITS FALSE NEIGHBOUR: 'it returns false'. Refute it at one input. -/
def classMadeWrong : ChangeSpec := { name := "classMade", fn := fun _ => fun
  | [d1, d2] => { results := [.lit (.bool false)], args := [d1, d2] }
  | _ => none }
def ClassMadeWrongFalsely : Prop := classMadeRow.holds Try.pinned (OpenSpec.ofChange classMadeWrong)

/-- 'boarderlaw16.ClassOthers': WHATEVER THE INPUT: true; the input reads as it did. -/
def classOthersSpec : ChangeSpec := { name := "classOthers", fn := fun _ => fun
  | [d1, d2] => { results := [.lit (.bool true)], args := [d1, d2] }
  | _ => none }
def classOthersRow : OpenClaim := { program := "ytmefnlgoejbgfaa", sum := "5811879065d7b1ccfac00461fbc35859e1465b39abc12491f7aa73d79745e6b7", func := "boarder/boarderlaw16.ClassOthers", spec := "classOthers", unfollowed := true, recurses := true, apart := false }
def ClassOthersSaid : Prop := classOthersRow.holds Try.pinned (OpenSpec.ofChange classOthersSpec)

/-- ITS FALSE NEIGHBOUR: 'it returns false'. Refute it at one input. -/
def classOthersWrong : ChangeSpec := { name := "classOthers", fn := fun _ => fun
  | [d1, d2] => { results := [.lit (.bool false)], args := [d1, d2] }
  | _ => none }
def ClassOthersWrongFalsely : Prop := classOthersRow.holds Try.pinned (OpenSpec.ofChange classOthersWrong)

/- THE SECOND FORM. 'bulk': how many values and letters a reading holds, each counted each time it is reached (what is shared counts as often as it is met; a slice's spare places count too). A statement '..UptoSaid' is the law's where the arguments, and the package variables that the reading takes, are together of bulk at most 1048576: NARROWER than '..Said'. Prove '..Said' where nothing that the law and all that it calls make is longer than what came in: it says more and counts as full. Else prove '..UptoSaid'. A law counts once. -/
mutual
def uptoBulk {H : Type} : DataW H → Nat
  | .lit (.string bytes) => bytes.length + 1
  | .lit _ => 1
  | .nil => 1
  | .ptr d => uptoBulk d + 1
  | .slice elems spare => uptoBulkAll elems + uptoBulkAll spare + 1
  | .agg parts => uptoBulkAll parts + 1
  | .iface _ d => uptoBulk d + 1
  | .map entries => uptoBulkEntries entries + 1
  | .held _ => 1
def uptoBulkAll {H : Type} : List (DataW H) → Nat
  | [] => 0
  | d :: r => uptoBulk d + uptoBulkAll r
def uptoBulkEntries {H : Type} : List (Lit × DataW H) → Nat
  | [] => 0
  | x :: r => uptoBulkEntry x + uptoBulkEntries r
def uptoBulkEntry {H : Type} : Lit × DataW H → Nat
  | (.string bytes, d) => bytes.length + uptoBulk d + 1
  | (_, d) => uptoBulk d + 1
 end
def uptoSmall : (H : Type) → List (DataW H) → Bool := fun _ ds => decide (uptoBulkAll ds ≤ 1048576)
def OpenSpec.upto (s : _root_.Go.ChangeSpec) : _root_.Go.OpenSpec := { _root_.Go.OpenSpec.ofChange s with cond := some uptoSmall }

/-- 'boarderlaw16.ClassOf', WHERE WHAT IT READS IS OF BULK AT MOST 1048576: true; the input reads as it did. -/
def classOfUptoRow : OpenClaim := { program := "ytmefnlgoejbgfaa", sum := "5811879065d7b1ccfac00461fbc35859e1465b39abc12491f7aa73d79745e6b7", func := "boarder/boarderlaw16.ClassOf", spec := "classOf", unfollowed := true, recurses := true, apart := false, narrowed := true }
def ClassOfUptoSaid : Prop := classOfUptoRow.holds Try.pinned (OpenSpec.upto classOfSpec)

/-- 'boarderlaw16.ClassSays', WHERE WHAT IT READS IS OF BULK AT MOST 1048576: true; the input reads as it did. -/
def classSaysUptoRow : OpenClaim := { program := "ytmefnlgoejbgfaa", sum := "5811879065d7b1ccfac00461fbc35859e1465b39abc12491f7aa73d79745e6b7", func := "boarder/boarderlaw16.ClassSays", spec := "classSays", unfollowed := true, recurses := true, apart := false, narrowed := true }
def ClassSaysUptoSaid : Prop := classSaysUptoRow.holds Try.pinned (OpenSpec.upto classSaysSpec)

/-- 'boarderlaw16.ClassMade', WHERE WHAT IT READS IS OF BULK AT MOST 1048576: true; the input reads as it did. -/
def classMadeUptoRow : OpenClaim := { program := "ytmefnlgoejbgfaa", sum := "5811879065d7b1ccfac00461fbc35859e1465b39abc12491f7aa73d79745e6b7", func := "boarder/boarderlaw16.ClassMade", spec := "classMade", unfollowed := true, recurses := true, apart := false, narrowed := true }
def ClassMadeUptoSaid : Prop := classMadeUptoRow.holds Try.pinned (OpenSpec.upto classMadeSpec)

/-- 'boarderlaw16.ClassOthers', WHERE WHAT IT READS IS OF BULK AT MOST 1048576: true; the input reads as it did. -/
def classOthersUptoRow : OpenClaim := { program := "ytmefnlgoejbgfaa", sum := "5811879065d7b1ccfac00461fbc35859e1465b39abc12491f7aa73d79745e6b7", func := "boarder/boarderlaw16.ClassOthers", spec := "classOthers", unfollowed := true, recurses := true, apart := false, narrowed := true }
def ClassOthersUptoSaid : Prop := classOthersUptoRow.holds Try.pinned (OpenSpec.upto classOthersSpec)

end Rows
end Go.Proofs.Ytmefnlgoejbgfaa
