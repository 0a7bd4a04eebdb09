/-
  No cell of these rows narrows 'for every input' (looked for: loops, veiled, ifaces, maps, wideKeys, modest, calm, conditions, laid).
  DERIVED. THE GIVEN ROWS OF THIS SEAT. 5 by the template 'for every input the law returns true; each argument reads behind the call as it read before'; 0 by the template 'total and deterministic' (their statements: YtibcpdimdjipjaaTotals.lean).
  GIVEN WITH THE SEED: the statements are not yours to turn. If you find one false, say at which input.
  Laid BY PROGRAM, IN A SANDBOX (cutbox-rows.mjs): the forced cells as the released guide's own fill.sh prints them over the translation 1e550a24d2a786ef… (all of the seat's roots in one cut). By AI agents, Wed Nov 11 2026. No macro, syntax, notation, axiom, sorry.
-/
import Derived.Test.YtibcpdimdjipjaaChecked
import GoSem.Claim
import GoSem.ClaimJoined
import GoSem.ClaimMapViews
import Derived.JoinedTies
import Derived.KernelRfl
namespace Go.Proofs.Ytibcpdimdjipjaa
/- THE CELL 'sum', in the pinned program and in every row, IS THE sha256 OF THE DUMP (.gsa) THAT YtibcpdimdjipjaaProg.lean LOADS. Nothing in Lean hashes anything: it is a label: what it is worth is what the hold of that sum in a sandbox is worth. -/
noncomputable def Try.pinned : Pinned := { name := "ytibcpdimdjipjaa", sum := "1e550a24d2a786efef9367784f5595e7e00124ea176a3bfb28eaff29579e159a", checked := Try.checked }
namespace Rows
def none {H : Type} : Left H := { results := [], args := [] }

/-- 'boarderlaw05.OptsSays': WHATEVER THE INPUT: true; the input reads as it did. -/
def optsSaysSpec : ChangeSpec := { name := "optsSays", fn := fun _ => fun
  | [d1, d2] => { results := [.lit (.bool true)], args := [d1, d2] }
  | _ => none }
def optsSaysRow : OpenClaim := { program := "ytibcpdimdjipjaa", sum := "1e550a24d2a786efef9367784f5595e7e00124ea176a3bfb28eaff29579e159a", func := "boarder/boarderlaw05.OptsSays", spec := "optsSays", unfollowed := true, recurses := true, apart := false }
def OptsSaysSaid : Prop := optsSaysRow.holds Try.pinned (OpenSpec.ofChange optsSaysSpec)

/-- ITS FALSE NEIGHBOUR: 'it returns false'. Refute it at one input. -/
def optsSaysWrong : ChangeSpec := { name := "optsSays", fn := fun _ => fun
  | [d1, d2] => { results := [.lit (.bool false)], args := [d1, d2] }
  | _ => none }
def OptsSaysWrongFalsely : Prop := optsSaysRow.holds Try.pinned (OpenSpec.ofChange optsSaysWrong)

/-- 'boarderlaw05.OptsKeeps': WHATEVER THE INPUT: true; the input reads as it did. -/
def optsKeepsSpec : ChangeSpec := { name := "optsKeeps", fn := fun _ => fun
  | [d1, d2, d3] => { results := [.lit (.bool true)], args := [d1, d2, d3] }
  | _ => none }
def optsKeepsRow : OpenClaim := { program := "ytibcpdimdjipjaa", sum := "1e550a24d2a786efef9367784f5595e7e00124ea176a3bfb28eaff29579e159a", func := "boarder/boarderlaw05.OptsKeeps", spec := "optsKeeps", unfollowed := true, recurses := true, apart := false }
def OptsKeepsSaid : Prop := optsKeepsRow.holds Try.pinned (OpenSpec.ofChange optsKeepsSpec)

/-- ITS FALSE NEIGHBOUR: 'it returns false'. Refute it at one input. -/
def optsKeepsWrong : ChangeSpec := { name := "optsKeeps", fn := fun _ => fun
  | [d1, d2, d3] => { results := [.lit (.bool false)], args := [d1, d2, d3] }
  | _ => none }
def OptsKeepsWrongFalsely : Prop := optsKeepsRow.holds Try.pinned (OpenSpec.ofChange optsKeepsWrong)

/-- 'boarderlaw05.OptsSets': WHATEVER THE INPUT: true; the input reads as it did. -/
def optsSetsSpec : ChangeSpec := { name := "optsSets", fn := fun _ => fun
  | [d1, d2, d3, d4] => { results := [.lit (.bool true)], args := [d1, d2, d3, d4] }
  | _ => none }
def optsSetsRow : OpenClaim := { program := "ytibcpdimdjipjaa", sum := "1e550a24d2a786efef9367784f5595e7e00124ea176a3bfb28eaff29579e159a", func := "boarder/boarderlaw05.OptsSets", spec := "optsSets", unfollowed := true, recurses := true, apart := false }
def OptsSetsSaid : Prop := optsSetsRow.holds Try.pinned (OpenSpec.ofChange optsSetsSpec)

/-- ITS FALSE NEIGHBOUR: 'it returns false'. Refute it at one input. -/
def optsSetsWrong : ChangeSpec := { name := "optsSets", fn := fun _ => fun
  | [d1, d2, d3, d4] => { results := [.lit (.bool false)], args := [d1, d2, d3, d4] }
  | _ => none }
def OptsSetsWrongFalsely : Prop := optsSetsRow.holds Try.pinned (OpenSpec.ofChange optsSetsWrong)

/-- 'boarderlaw05.OptsFinds': WHATEVER THE INPUT: true; the input reads as it did. -/
def optsFindsSpec : ChangeSpec := { name := "optsFinds", fn := fun _ => fun
  | [d1, d2, d3] => { results := [.lit (.bool true)], args := [d1, d2, d3] }
  | _ => none }
def optsFindsRow : OpenClaim := { program := "ytibcpdimdjipjaa", sum := "1e550a24d2a786efef9367784f5595e7e00124ea176a3bfb28eaff29579e159a", func := "boarder/boarderlaw05.OptsFinds", spec := "optsFinds", unfollowed := true, recurses := true, apart := false }
def OptsFindsSaid : Prop := optsFindsRow.holds Try.pinned (OpenSpec.ofChange optsFindsSpec)

/-- ITS FALSE NEIGHBOUR: 'it returns false'. Refute it at one input. -/
def optsFindsWrong : ChangeSpec := { name := "optsFinds", fn := fun _ => fun
  | [d1, d2, d3] => { results := [.lit (.bool false)], args := [d1, d2, d3] }
  | _ => none }
def OptsFindsWrongFalsely : Prop := optsFindsRow.holds Try.pinned (OpenSpec.ofChange optsFindsWrong)

/-- 'boarderlaw05.OptsOthers': WHATEVER THE INPUT: true; the input reads as it did. -/
def optsOthersSpec : ChangeSpec := { name := "optsOthers", fn := fun _ => fun
  | [d1, d2, d3, d4] => { results := [.lit (.bool true)], args := [d1, d2, d3, d4] }
  | _ => none }
def optsOthersRow : OpenClaim := { program := "ytibcpdimdjipjaa", sum := "1e550a24d2a786efef9367784f5595e7e00124ea176a3bfb28eaff29579e159a", func := "boarder/boarderlaw05.OptsOthers", spec := "optsOthers", unfollowed := true, recurses := true, apart := false }
def OptsOthersSaid : Prop := optsOthersRow.holds Try.pinned (OpenSpec.ofChange optsOthersSpec)

/-- ITS FALSE NEIGHBOUR: 'it returns false'. Refute it at one input. -/
def optsOthersWrong : ChangeSpec := { name := "optsOthers", fn := fun _ => fun
  | [d1, d2, d3, d4] => { results := [.lit (.bool false)], args := [d1, d2, d3, d4] }
  | _ => none }
def OptsOthersWrongFalsely : Prop := optsOthersRow.holds Try.pinned (OpenSpec.ofChange optsOthersWrong)

/- THE SECOND FORM. 'bulk': how many values and letters a reading holds, each counted each time it is reached (what is shared counts as often as it is met; a slice's spare places count too). A statement '..UptoSaid' is the law's where the arguments, and the package variables that the reading takes, are together of bulk at most 1048576: NARROWER than '..Said'. Prove '..Said' where nothing that the law and all that it calls make is longer than what came in: it says more and counts as full. Else prove '..UptoSaid'. A law counts once. -/
mutual
def uptoBulk {H : Type} : DataW H → Nat
  | .lit (.string bytes) => bytes.length + 1
  | .lit _ => 1
  | .nil => 1
  | .ptr d => uptoBulk d + 1
  | .slice elems spare => uptoBulkAll elems + uptoBulkAll spare + 1
  | .agg parts => uptoBulkAll parts + 1
  | .iface _ d => uptoBulk d + 1
  | .map entries => uptoBulkEntries entries + 1
  | .held _ => 1
def uptoBulkAll {H : Type} : List (DataW H) → Nat
  | [] => 0
  | d :: r => uptoBulk d + uptoBulkAll r
def uptoBulkEntries {H : Type} : List (Lit × DataW H) → Nat
  | [] => 0
  | x :: r => uptoBulkEntry x + uptoBulkEntries r
def uptoBulkEntry {H : Type} : Lit × DataW H → Nat
  | (.string bytes, d) => bytes.length + uptoBulk d + 1
  | (_, d) => uptoBulk d + 1
 end
def uptoSmall : (H : Type) → List (DataW H) → Bool := fun _ ds => decide (uptoBulkAll ds ≤ 1048576)
def OpenSpec.upto (s : _root_.Go.ChangeSpec) : _root_.Go.OpenSpec := { _root_.Go.OpenSpec.ofChange s with cond := some uptoSmall }

/-- 'boarderlaw05.OptsSays', WHERE WHAT IT READS IS OF BULK AT MOST 1048576: true; the input reads as it did. -/
def optsSaysUptoRow : OpenClaim := { program := "ytibcpdimdjipjaa", sum := "1e550a24d2a786efef9367784f5595e7e00124ea176a3bfb28eaff29579e159a", func := "boarder/boarderlaw05.OptsSays", spec := "optsSays", unfollowed := true, recurses := true, apart := false, narrowed := true }
def OptsSaysUptoSaid : Prop := optsSaysUptoRow.holds Try.pinned (OpenSpec.upto optsSaysSpec)

/-- 'boarderlaw05.OptsKeeps', WHERE WHAT IT READS IS OF BULK AT MOST 1048576: true; the input reads as it did. -/
def optsKeepsUptoRow : OpenClaim := { program := "ytibcpdimdjipjaa", sum := "1e550a24d2a786efef9367784f5595e7e00124ea176a3bfb28eaff29579e159a", func := "boarder/boarderlaw05.OptsKeeps", spec := "optsKeeps", unfollowed := true, recurses := true, apart := false, narrowed := true }
def OptsKeepsUptoSaid : Prop := optsKeepsUptoRow.holds Try.pinned (OpenSpec.upto optsKeepsSpec)

/-- 'boarderlaw05.OptsSets', WHERE WHAT IT READS IS OF BULK AT MOST 1048576: true; the input reads as it did. -/
def optsSetsUptoRow : OpenClaim := { program := "ytibcpdimdjipjaa", sum := "1e550a24d2a786efef9367784f5595e7e00124ea176a3bfb28eaff29579e159a", func := "boarder/boarderlaw05.OptsSets", spec := "optsSets", unfollowed := true, recurses := true, apart := false, narrowed := true }
def OptsSetsUptoSaid : Prop := optsSetsUptoRow.holds Try.pinned (OpenSpec.upto optsSetsSpec)

/-- 'boarderlaw05.OptsFinds', WHERE WHAT IT READS IS OF BULK AT MOST 1048576: true; the input reads as it did. -/
def optsFindsUptoRow : OpenClaim := { program := "ytibcpdimdjipjaa", sum := "1e550a24d2a786efef9367784f5595e7e00124ea176a3bfb28eaff29579e159a", func := "boarder/boarderlaw05.OptsFinds", spec := "optsFinds", unfollowed := true, recurses := true, apart := false, narrowed := true }
def OptsFindsUptoSaid : Prop := optsFindsUptoRow.holds Try.pinned (OpenSpec.upto optsFindsSpec)

/-- 'boarderlaw05.OptsOthers', WHERE WHAT IT READS IS OF BULK AT MOST 1048576: true; the input reads as it did. -/
def optsOthersUptoRow : OpenClaim := { program := "ytibcpdimdjipjaa", sum := "1e550a24d2a786efef9367784f5595e7e00124ea176a3bfb28eaff29579e159a", func := "boarder/boarderlaw05.OptsOthers", spec := "optsOthers", unfollowed := true, recurses := true, apart := false, narrowed := true }
def OptsOthersUptoSaid : Prop := optsOthersUptoRow.holds Try.pinned (OpenSpec.upto optsOthersSpec)

end Rows
end Go.Proofs.Ytibcpdimdjipjaa
