/-
  No cell of these rows narrows 'for every input' (looked for: loops, veiled, ifaces, maps, wideKeys, modest, calm, conditions, laid).
  DERIVED. THE GIVEN ROWS OF THIS SEAT. 5 by the template 'for every input the law returns true; each argument reads behind the call as it read before'; 0 by the template 'total and deterministic' (their statements: YtoilljilndmmfaaTotals.lean).
  GIVEN WITH THE SEED: the statements are not yours to turn. If you find one false, say at which input.
  Laid BY PROGRAM, IN A SANDBOX (cutbox-rows.mjs): the forced cells as the released guide's own fill.sh prints them over the translation 2a1d8337d0a4b27c… (all of the seat's roots in one cut). By AI agents, Wed Nov 11 2026. No macro, syntax, notation, axiom, sorry.
-/
import Derived.Test.YtoilljilndmmfaaChecked
import GoSem.Claim
import GoSem.ClaimJoined
import GoSem.ClaimMapViews
import Derived.JoinedTies
import Derived.KernelRfl
namespace Go.Proofs.Ytoilljilndmmfaa
/- THE CELL 'sum', in the pinned program and in every row, IS THE sha256 OF THE DUMP (.gsa) THAT YtoilljilndmmfaaProg.lean LOADS. Nothing in Lean hashes anything: it is a label: what it is worth is what the hold of that sum in a sandbox is worth. -/
noncomputable def Try.pinned : Pinned := { name := "ytoilljilndmmfaa", sum := "2a1d8337d0a4b27c07b708aca3c6a494d059340997990cdb76fb03320f9b1220", checked := Try.checked }
namespace Rows
def none {H : Type} : Left H := { results := [], args := [] }

/-- 'boarderlaw13.ConfChecks': WHATEVER THE INPUT: true; the input reads as it did. -/
def confChecksSpec : ChangeSpec := { name := "confChecks", fn := fun _ => fun
  | [d] => { results := [.lit (.bool true)], args := [d] }
  | _ => none }
def confChecksRow : OpenClaim := { program := "ytoilljilndmmfaa", sum := "2a1d8337d0a4b27c07b708aca3c6a494d059340997990cdb76fb03320f9b1220", func := "boarder/boarderlaw13.ConfChecks", spec := "confChecks", unfollowed := true, recurses := true, apart := false }
def ConfChecksSaid : Prop := confChecksRow.holds Try.pinned (OpenSpec.ofChange confChecksSpec)

/-- ITS FALSE NEIGHBOUR: 'it returns false'. Refute it at one input. -/
def confChecksWrong : ChangeSpec := { name := "confChecks", fn := fun _ => fun
  | [d] => { results := [.lit (.bool false)], args := [d] }
  | _ => none }
def ConfChecksWrongFalsely : Prop := confChecksRow.holds Try.pinned (OpenSpec.ofChange confChecksWrong)

/-- 'boarderlaw13.ConfFinds': WHATEVER THE INPUT: true; the input reads as it did. -/
def confFindsSpec : ChangeSpec := { name := "confFinds", fn := fun _ => fun
  | [d1, d2, d3] => { results := [.lit (.bool true)], args := [d1, d2, d3] }
  | _ => none }
def confFindsRow : OpenClaim := { program := "ytoilljilndmmfaa", sum := "2a1d8337d0a4b27c07b708aca3c6a494d059340997990cdb76fb03320f9b1220", func := "boarder/boarderlaw13.ConfFinds", spec := "confFinds", unfollowed := true, recurses := true, apart := false }
def ConfFindsSaid : Prop := confFindsRow.holds Try.pinned (OpenSpec.ofChange confFindsSpec)

/-- ITS FALSE NEIGHBOUR: 'it returns false'. Refute it at one input. -/
def confFindsWrong : ChangeSpec := { name := "confFinds", fn := fun _ => fun
  | [d1, d2, d3] => { results := [.lit (.bool false)], args := [d1, d2, d3] }
  | _ => none }
def ConfFindsWrongFalsely : Prop := confFindsRow.holds Try.pinned (OpenSpec.ofChange confFindsWrong)

/-- 'boarderlaw13.ConfKeeps': WHATEVER THE INPUT: true; the input reads as it did. -/
def confKeepsSpec : ChangeSpec := { name := "confKeeps", fn := fun _ => fun
  | [d1, d2, d3, d4] => { results := [.lit (.bool true)], args := [d1, d2, d3, d4] }
  | _ => none }
def confKeepsRow : OpenClaim := { program := "ytoilljilndmmfaa", sum := "2a1d8337d0a4b27c07b708aca3c6a494d059340997990cdb76fb03320f9b1220", func := "boarder/boarderlaw13.ConfKeeps", spec := "confKeeps", unfollowed := true, recurses := true, apart := false }
def ConfKeepsSaid : Prop := confKeepsRow.holds Try.pinned (OpenSpec.ofChange confKeepsSpec)

/-- ITS FALSE NEIGHBOUR: 'it returns false'. Refute it at one input. -/
def confKeepsWrong : ChangeSpec := { name := "confKeeps", fn := fun _ => fun
  | [d1, d2, d3, d4] => { results := [.lit (.bool false)], args := [d1, d2, d3, d4] }
  | _ => none }
def ConfKeepsWrongFalsely : Prop := confKeepsRow.holds Try.pinned (OpenSpec.ofChange confKeepsWrong)

/-- 'boarderlaw13.ConfOne': WHATEVER THE INPUT: true; the input reads as it did. -/
def confOneSpec : ChangeSpec := { name := "confOne", fn := fun _ => fun
  | [d1, d2, d3, d4, d5] => { results := [.lit (.bool true)], args := [d1, d2, d3, d4, d5] }
  | _ => none }
def confOneRow : OpenClaim := { program := "ytoilljilndmmfaa", sum := "2a1d8337d0a4b27c07b708aca3c6a494d059340997990cdb76fb03320f9b1220", func := "boarder/boarderlaw13.ConfOne", spec := "confOne", unfollowed := true, recurses := true, apart := false }
def ConfOneSaid : Prop := confOneRow.holds Try.pinned (OpenSpec.ofChange confOneSpec)

/-- ITS FALSE NEIGHBOUR: 'it returns false'. Refute it at one input. -/
def confOneWrong : ChangeSpec := { name := "confOne", fn := fun _ => fun
  | [d1, d2, d3, d4, d5] => { results := [.lit (.bool false)], args := [d1, d2, d3, d4, d5] }
  | _ => none }
def ConfOneWrongFalsely : Prop := confOneRow.holds Try.pinned (OpenSpec.ofChange confOneWrong)

/-- 'boarderlaw13.ConfOrder': WHATEVER THE INPUT: true; the input reads as it did. -/
def confOrderSpec : ChangeSpec := { name := "confOrder", fn := fun _ => fun
  | [d1, d2, d3] => { results := [.lit (.bool true)], args := [d1, d2, d3] }
  | _ => none }
def confOrderRow : OpenClaim := { program := "ytoilljilndmmfaa", sum := "2a1d8337d0a4b27c07b708aca3c6a494d059340997990cdb76fb03320f9b1220", func := "boarder/boarderlaw13.ConfOrder", spec := "confOrder", unfollowed := true, recurses := true, apart := false }
def ConfOrderSaid : Prop := confOrderRow.holds Try.pinned (OpenSpec.ofChange confOrderSpec)

/-- ITS FALSE NEIGHBOUR: 'it returns false'. Refute it at one input. -/
def confOrderWrong : ChangeSpec := { name := "confOrder", fn := fun _ => fun
  | [d1, d2, d3] => { results := [.lit (.bool false)], args := [d1, d2, d3] }
  | _ => none }
def ConfOrderWrongFalsely : Prop := confOrderRow.holds Try.pinned (OpenSpec.ofChange confOrderWrong)

/- THE SECOND FORM. 'bulk': how many values and letters a reading holds, each counted each time it is reached (what is shared counts as often as it is met; a slice's spare places count too). A statement '..UptoSaid' is the law's where the arguments, and the package variables that the reading takes, are together of bulk at most 1048576: NARROWER than '..Said'. Prove '..Said' where nothing that the law and all that it calls make is longer than what came in: it says more and counts as full. Else prove '..UptoSaid'. A law counts once. -/
mutual
def uptoBulk {H : Type} : DataW H → Nat
  | .lit (.string bytes) => bytes.length + 1
  | .lit _ => 1
  | .nil => 1
  | .ptr d => uptoBulk d + 1
  | .slice elems spare => uptoBulkAll elems + uptoBulkAll spare + 1
  | .agg parts => uptoBulkAll parts + 1
  | .iface _ d => uptoBulk d + 1
  | .map entries => uptoBulkEntries entries + 1
  | .held _ => 1
def uptoBulkAll {H : Type} : List (DataW H) → Nat
  | [] => 0
  | d :: r => uptoBulk d + uptoBulkAll r
def uptoBulkEntries {H : Type} : List (Lit × DataW H) → Nat
  | [] => 0
  | x :: r => uptoBulkEntry x + uptoBulkEntries r
def uptoBulkEntry {H : Type} : Lit × DataW H → Nat
  | (.string bytes, d) => bytes.length + uptoBulk d + 1
  | (_, d) => uptoBulk d + 1
 end
def uptoSmall : (H : Type) → List (DataW H) → Bool := fun _ ds => decide (uptoBulkAll ds ≤ 1048576)
def OpenSpec.upto (s : _root_.Go.ChangeSpec) : _root_.Go.OpenSpec := { _root_.Go.OpenSpec.ofChange s with cond := some uptoSmall }

/-- 'boarderlaw13.ConfChecks', WHERE WHAT IT READS IS OF BULK AT MOST 1048576: true; the input reads as it did. -/
def confChecksUptoRow : OpenClaim := { program := "ytoilljilndmmfaa", sum := "2a1d8337d0a4b27c07b708aca3c6a494d059340997990cdb76fb03320f9b1220", func := "boarder/boarderlaw13.ConfChecks", spec := "confChecks", unfollowed := true, recurses := true, apart := false, narrowed := true }
def ConfChecksUptoSaid : Prop := confChecksUptoRow.holds Try.pinned (OpenSpec.upto confChecksSpec)

/-- 'boarderlaw13.ConfFinds', WHERE WHAT IT READS IS OF BULK AT MOST 1048576: true; the input reads as it did. -/
def confFindsUptoRow : OpenClaim := { program := "ytoilljilndmmfaa", sum := "2a1d8337d0a4b27c07b708aca3c6a494d059340997990cdb76fb03320f9b1220", func := "boarder/boarderlaw13.ConfFinds", spec := "confFinds", unfollowed := true, recurses := true, apart := false, narrowed := true }
def ConfFindsUptoSaid : Prop := confFindsUptoRow.holds Try.pinned (OpenSpec.upto confFindsSpec)

/-- 'boarderlaw13.ConfKeeps', WHERE WHAT IT READS IS OF BULK AT MOST 1048576: true; the input reads as it did. -/
def confKeepsUptoRow : OpenClaim := { program := "ytoilljilndmmfaa", sum := "2a1d8337d0a4b27c07b708aca3c6a494d059340997990cdb76fb03320f9b1220", func := "boarder/boarderlaw13.ConfKeeps", spec := "confKeeps", unfollowed := true, recurses := true, apart := false, narrowed := true }
def ConfKeepsUptoSaid : Prop := confKeepsUptoRow.holds Try.pinned (OpenSpec.upto confKeepsSpec)

/-- 'boarderlaw13.ConfOne', WHERE WHAT IT READS IS OF BULK AT MOST 1048576: true; the input reads as it did. -/
def confOneUptoRow : OpenClaim := { program := "ytoilljilndmmfaa", sum := "2a1d8337d0a4b27c07b708aca3c6a494d059340997990cdb76fb03320f9b1220", func := "boarder/boarderlaw13.ConfOne", spec := "confOne", unfollowed := true, recurses := true, apart := false, narrowed := true }
def ConfOneUptoSaid : Prop := confOneUptoRow.holds Try.pinned (OpenSpec.upto confOneSpec)

/-- 'boarderlaw13.ConfOrder', WHERE WHAT IT READS IS OF BULK AT MOST 1048576: true; the input reads as it did. -/
def confOrderUptoRow : OpenClaim := { program := "ytoilljilndmmfaa", sum := "2a1d8337d0a4b27c07b708aca3c6a494d059340997990cdb76fb03320f9b1220", func := "boarder/boarderlaw13.ConfOrder", spec := "confOrder", unfollowed := true, recurses := true, apart := false, narrowed := true }
def ConfOrderUptoSaid : Prop := confOrderUptoRow.holds Try.pinned (OpenSpec.upto confOrderSpec)

end Rows
end Go.Proofs.Ytoilljilndmmfaa
