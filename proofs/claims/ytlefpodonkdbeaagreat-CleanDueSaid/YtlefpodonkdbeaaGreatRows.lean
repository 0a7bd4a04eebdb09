/-
  No cell of these rows narrows 'for every input' (looked for: loops, veiled, ifaces, maps, wideKeys, modest, calm, conditions, laid).
  DERIVED. THE GIVEN ROWS OF THIS SEAT. 5 by the template 'for every input the law returns true; each argument reads behind the call as it read before'; 0 by the template 'total and deterministic' (their statements: YtlefpodonkdbeaaGreatTotals.lean).
  GIVEN WITH THE SEED: the statements are not yours to turn. If you find one false, say at which input.
  Laid BY PROGRAM, IN A SANDBOX (cutbox-rows.mjs): the forced cells as the released guide's own fill.sh prints them over the translation b7102e39f480c456… (all of the seat's roots in one cut). By AI agents, Wed Nov 11 2026. No macro, syntax, notation, axiom, sorry.
-/
import Derived.Test.YtlefpodonkdbeaaGreatChecked
import GoSem.Claim
import GoSem.ClaimJoined
import GoSem.ClaimMapViews
import Derived.JoinedTies
import Derived.KernelRfl
namespace Go.Proofs.YtlefpodonkdbeaaGreat
/- THE CELL 'sum', in the pinned program and in every row, IS THE sha256 OF THE DUMP (.gsa) THAT YtlefpodonkdbeaaGreatProg.lean LOADS. Nothing in Lean hashes anything: it is a label: what it is worth is what the hold of that sum in a sandbox is worth. -/
noncomputable def Tryz.pinned : Pinned := { name := "ytlefpodonkdbeaagreat", sum := "b7102e39f480c456c38c907bd72dbad78c5fac0832b0fc45f7c359a913a343b8", checked := Tryz.checked }
namespace Rows
def none {H : Type} : Left H := { results := [], args := [] }

/-- 'boarderlaw11.CleanLasts': WHATEVER THE INPUT: true; the input reads as it did. -/
def cleanLastsSpec : ChangeSpec := { name := "cleanLasts", fn := fun _ => fun
  | [d] => { results := [.lit (.bool true)], args := [d] }
  | _ => none }
def cleanLastsRow : OpenClaim := { program := "ytlefpodonkdbeaagreat", sum := "b7102e39f480c456c38c907bd72dbad78c5fac0832b0fc45f7c359a913a343b8", func := "boarder/boarderlaw11.CleanLasts", spec := "cleanLasts", unfollowed := true, recurses := true, apart := false }
def CleanLastsSaid : Prop := cleanLastsRow.holds Tryz.pinned (OpenSpec.ofChange cleanLastsSpec)

/-- ITS FALSE NEIGHBOUR: 'it returns false'. Refute it at one input. -/
def cleanLastsWrong : ChangeSpec := { name := "cleanLasts", fn := fun _ => fun
  | [d] => { results := [.lit (.bool false)], args := [d] }
  | _ => none }
def CleanLastsWrongFalsely : Prop := cleanLastsRow.holds Tryz.pinned (OpenSpec.ofChange cleanLastsWrong)

/-- 'boarderlaw11.CleanDue': WHATEVER THE INPUT: true; the input reads as it did. -/
def cleanDueSpec : ChangeSpec := { name := "cleanDue", fn := fun _ => fun
  | [d1, d2] => { results := [.lit (.bool true)], args := [d1, d2] }
  | _ => none }
def cleanDueRow : OpenClaim := { program := "ytlefpodonkdbeaagreat", sum := "b7102e39f480c456c38c907bd72dbad78c5fac0832b0fc45f7c359a913a343b8", func := "boarder/boarderlaw11.CleanDue", spec := "cleanDue", unfollowed := true, recurses := true, apart := false }
def CleanDueSaid : Prop := cleanDueRow.holds Tryz.pinned (OpenSpec.ofChange cleanDueSpec)

/-- ITS FALSE NEIGHBOUR: 'it returns false'. Refute it at one input. -/
def cleanDueWrong : ChangeSpec := { name := "cleanDue", fn := fun _ => fun
  | [d1, d2] => { results := [.lit (.bool false)], args := [d1, d2] }
  | _ => none }
def CleanDueWrongFalsely : Prop := cleanDueRow.holds Tryz.pinned (OpenSpec.ofChange cleanDueWrong)

/-- 'boarderlaw11.CleanCuts': WHATEVER THE INPUT: true; the input reads as it did. -/
def cleanCutsSpec : ChangeSpec := { name := "cleanCuts", fn := fun _ => fun
  | [d1, d2, d3, d4, d5] => { results := [.lit (.bool true)], args := [d1, d2, d3, d4, d5] }
  | _ => none }
def cleanCutsRow : OpenClaim := { program := "ytlefpodonkdbeaagreat", sum := "b7102e39f480c456c38c907bd72dbad78c5fac0832b0fc45f7c359a913a343b8", func := "boarder/boarderlaw11.CleanCuts", spec := "cleanCuts", unfollowed := true, recurses := true, apart := false }
def CleanCutsSaid : Prop := cleanCutsRow.holds Tryz.pinned (OpenSpec.ofChange cleanCutsSpec)

/-- ITS FALSE NEIGHBOUR: 'it returns false'. Refute it at one input. -/
def cleanCutsWrong : ChangeSpec := { name := "cleanCuts", fn := fun _ => fun
  | [d1, d2, d3, d4, d5] => { results := [.lit (.bool false)], args := [d1, d2, d3, d4, d5] }
  | _ => none }
def CleanCutsWrongFalsely : Prop := cleanCutsRow.holds Tryz.pinned (OpenSpec.ofChange cleanCutsWrong)

/-- 'boarderlaw11.CleanAgain': WHATEVER THE INPUT: true; the input reads as it did. -/
def cleanAgainSpec : ChangeSpec := { name := "cleanAgain", fn := fun _ => fun
  | [d] => { results := [.lit (.bool true)], args := [d] }
  | _ => none }
def cleanAgainRow : OpenClaim := { program := "ytlefpodonkdbeaagreat", sum := "b7102e39f480c456c38c907bd72dbad78c5fac0832b0fc45f7c359a913a343b8", func := "boarder/boarderlaw11.CleanAgain", spec := "cleanAgain", unfollowed := true, recurses := true, apart := false }
def CleanAgainSaid : Prop := cleanAgainRow.holds Tryz.pinned (OpenSpec.ofChange cleanAgainSpec)

/-- ITS FALSE NEIGHBOUR: 'it returns false'. Refute it at one input. -/
def cleanAgainWrong : ChangeSpec := { name := "cleanAgain", fn := fun _ => fun
  | [d] => { results := [.lit (.bool false)], args := [d] }
  | _ => none }
def CleanAgainWrongFalsely : Prop := cleanAgainRow.holds Tryz.pinned (OpenSpec.ofChange cleanAgainWrong)

/-- 'boarderlaw11.CleanWhole': WHATEVER THE INPUT: true; the input reads as it did. -/
def cleanWholeSpec : ChangeSpec := { name := "cleanWhole", fn := fun _ => fun
  | [d] => { results := [.lit (.bool true)], args := [d] }
  | _ => none }
def cleanWholeRow : OpenClaim := { program := "ytlefpodonkdbeaagreat", sum := "b7102e39f480c456c38c907bd72dbad78c5fac0832b0fc45f7c359a913a343b8", func := "boarder/boarderlaw11.CleanWhole", spec := "cleanWhole", unfollowed := true, recurses := true, apart := false }
def CleanWholeSaid : Prop := cleanWholeRow.holds Tryz.pinned (OpenSpec.ofChange cleanWholeSpec)

/-- ITS FALSE NEIGHBOUR: 'it returns false'. Refute it at one input. -/
def cleanWholeWrong : ChangeSpec := { name := "cleanWhole", fn := fun _ => fun
  | [d] => { results := [.lit (.bool false)], args := [d] }
  | _ => none }
def CleanWholeWrongFalsely : Prop := cleanWholeRow.holds Tryz.pinned (OpenSpec.ofChange cleanWholeWrong)

/- THE SECOND FORM. 'bulk': how many values and letters a reading holds, each counted each time it is reached (what is shared counts as often as it is met; a slice's spare places count too). A statement '..UptoSaid' is the law's where the arguments, and the package variables that the reading takes, are together of bulk at most 1048576: NARROWER than '..Said'. Prove '..Said' where nothing that the law and all that it calls make is longer than what came in: it says more and counts as full. Else prove '..UptoSaid'. A law counts once. -/
mutual
def uptoBulk {H : Type} : DataW H → Nat
  | .lit (.string bytes) => bytes.length + 1
  | .lit _ => 1
  | .nil => 1
  | .ptr d => uptoBulk d + 1
  | .slice elems spare => uptoBulkAll elems + uptoBulkAll spare + 1
  | .agg parts => uptoBulkAll parts + 1
  | .iface _ d => uptoBulk d + 1
  | .map entries => uptoBulkEntries entries + 1
  | .held _ => 1
def uptoBulkAll {H : Type} : List (DataW H) → Nat
  | [] => 0
  | d :: r => uptoBulk d + uptoBulkAll r
def uptoBulkEntries {H : Type} : List (Lit × DataW H) → Nat
  | [] => 0
  | x :: r => uptoBulkEntry x + uptoBulkEntries r
def uptoBulkEntry {H : Type} : Lit × DataW H → Nat
  | (.string bytes, d) => bytes.length + uptoBulk d + 1
  | (_, d) => uptoBulk d + 1
 end
def uptoSmall : (H : Type) → List (DataW H) → Bool := fun _ ds => decide (uptoBulkAll ds ≤ 1048576)
def OpenSpec.upto (s : _root_.Go.ChangeSpec) : _root_.Go.OpenSpec := { _root_.Go.OpenSpec.ofChange s with cond := some uptoSmall }

/-- 'boarderlaw11.CleanLasts', WHERE WHAT IT READS IS OF BULK AT MOST 1048576: true; the input reads as it did. -/
def cleanLastsUptoRow : OpenClaim := { program := "ytlefpodonkdbeaagreat", sum := "b7102e39f480c456c38c907bd72dbad78c5fac0832b0fc45f7c359a913a343b8", func := "boarder/boarderlaw11.CleanLasts", spec := "cleanLasts", unfollowed := true, recurses := true, apart := false, narrowed := true }
def CleanLastsUptoSaid : Prop := cleanLastsUptoRow.holds Tryz.pinned (OpenSpec.upto cleanLastsSpec)

/-- 'boarderlaw11.CleanDue', WHERE WHAT IT READS IS OF BULK AT MOST 1048576: true; the input reads as it did. -/
def cleanDueUptoRow : OpenClaim := { program := "ytlefpodonkdbeaagreat", sum := "b7102e39f480c456c38c907bd72dbad78c5fac0832b0fc45f7c359a913a343b8", func := "boarder/boarderlaw11.CleanDue", spec := "cleanDue", unfollowed := true, recurses := true, apart := false, narrowed := true }
def CleanDueUptoSaid : Prop := cleanDueUptoRow.holds Tryz.pinned (OpenSpec.upto cleanDueSpec)

/-- 'boarderlaw11.CleanCuts', WHERE WHAT IT READS IS OF BULK AT MOST 1048576: true; the input reads as it did. -/
def cleanCutsUptoRow : OpenClaim := { program := "ytlefpodonkdbeaagreat", sum := "b7102e39f480c456c38c907bd72dbad78c5fac0832b0fc45f7c359a913a343b8", func := "boarder/boarderlaw11.CleanCuts", spec := "cleanCuts", unfollowed := true, recurses := true, apart := false, narrowed := true }
def CleanCutsUptoSaid : Prop := cleanCutsUptoRow.holds Tryz.pinned (OpenSpec.upto cleanCutsSpec)

/-- 'boarderlaw11.CleanAgain', WHERE WHAT IT READS IS OF BULK AT MOST 1048576: true; the input reads as it did. -/
def cleanAgainUptoRow : OpenClaim := { program := "ytlefpodonkdbeaagreat", sum := "b7102e39f480c456c38c907bd72dbad78c5fac0832b0fc45f7c359a913a343b8", func := "boarder/boarderlaw11.CleanAgain", spec := "cleanAgain", unfollowed := true, recurses := true, apart := false, narrowed := true }
def CleanAgainUptoSaid : Prop := cleanAgainUptoRow.holds Tryz.pinned (OpenSpec.upto cleanAgainSpec)

/-- 'boarderlaw11.CleanWhole', WHERE WHAT IT READS IS OF BULK AT MOST 1048576: true; the input reads as it did. -/
def cleanWholeUptoRow : OpenClaim := { program := "ytlefpodonkdbeaagreat", sum := "b7102e39f480c456c38c907bd72dbad78c5fac0832b0fc45f7c359a913a343b8", func := "boarder/boarderlaw11.CleanWhole", spec := "cleanWhole", unfollowed := true, recurses := true, apart := false, narrowed := true }
def CleanWholeUptoSaid : Prop := cleanWholeUptoRow.holds Tryz.pinned (OpenSpec.upto cleanWholeSpec)

end Rows
end Go.Proofs.YtlefpodonkdbeaaGreat
