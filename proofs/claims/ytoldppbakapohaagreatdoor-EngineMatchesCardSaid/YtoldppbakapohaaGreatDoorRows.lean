/-
  NARROWER THAN 'FOR EVERY INPUT', by the rows' own cells (each row's printed sentence says how): EngineHandles: laid · EngineGives: laid · EngineKeeps: laid · EngineNaks: laid · EngineMatches: laid · EngineFits: laid.
  DERIVED. THE GIVEN ROWS OF THIS SEAT. 6 by the template 'for every input the law returns true; each argument reads behind the call as it read before'; 0 by the template 'total and deterministic' (their statements: YtoldppbakapohaaGreatDoorTotals.lean).
  GIVEN WITH THE SEED: the statements are not yours to turn. If you find one false, say at which input.
  Laid BY PROGRAM, IN A SANDBOX (cutbox-rows.mjs): the forced cells as the released guide's own fill.sh prints them over the translation 93289312cff13c31… (all of the seat's roots in one cut). By AI agents, Wed Nov 11 2026. No macro, syntax, notation, axiom, sorry.
-/
import Derived.Test.YtoldppbakapohaaGreatDoorChecked
import GoSem.Claim
import GoSem.ClaimJoined
import GoSem.ClaimMapViews
import Derived.JoinedTies
import Derived.KernelRfl
namespace Go.Proofs.YtoldppbakapohaaGreatDoor
/- THE CELL 'sum', in the pinned program and in every row, IS THE sha256 OF THE DUMP (.gsa) THAT YtoldppbakapohaaGreatDoorProg.lean LOADS. Nothing in Lean hashes anything: it is a label: what it is worth is what the hold of that sum in a sandbox is worth. -/
noncomputable def Tryz.pinned : Pinned := { name := "ytoldppbakapohaagreatdoor", sum := "93289312cff13c314f253d37e28a21cbc6a7d9870ae38f06bb0f03ef912b9241", checked := Tryz.checked }
namespace Rows
def none {H : Type} : Left H := { results := [], args := [] }

/- WHAT THE LISTED PACKAGE-LEVEL VARIABLES READ AS WHEN THE CALL BEGINS. Each datum BY PROGRAM (the guide's laid-datum.mjs) off the statement by which the dump's own 'gosem.cut.vars' lays the variable. In a bare row this is a premise. The card (YtoldppbakapohaaGreatDoorCards.lean) ties it to the program's text. -/
def laid_errors_errorType {H : Type} : DataW H := .iface "internal/reflectlite.rtype" (.agg [.ptr (.lit (.string [101, 114, 114, 111, 114]))])
def laid_boarder_msg_errInvalid {H : Type} : DataW H := .iface "*errors.errorString" (.ptr (.agg [.lit (.string [116, 104, 101, 32, 109, 101, 115, 115, 97, 103, 101, 32, 105, 115, 32, 110, 111, 116, 32, 118, 97, 108, 105, 100])]))
def laid_boarder_msg_errShort {H : Type} : DataW H := .iface "*errors.errorString" (.ptr (.agg [.lit (.string [116, 111, 111, 32, 102, 101, 119, 32, 98, 121, 116, 101, 115])]))
def laid_boarder_msg_errLong {H : Type} : DataW H := .iface "*errors.errorString" (.ptr (.agg [.lit (.string [116, 111, 111, 32, 109, 97, 110, 121, 32, 98, 121, 116, 101, 115])]))
def laid_boarder_msg_widths {H : Type} : DataW H := .agg [.lit (.int .i64 1), .lit (.int .i64 1), .lit (.int .i64 1), .lit (.int .i64 1), .lit (.int .i64 4), .lit (.int .i64 2), .lit (.int .i64 2), .lit (.int .i64 4), .lit (.int .i64 4), .lit (.int .i64 4), .lit (.int .i64 4)]

/-- 'boarderlaw19.EngineHandles': WHATEVER THE INPUT: true; the input reads as it did. -/
def engineHandlesSpec : ChangeSpec := { name := "engineHandles", fn := fun _ => fun
  | [d1, d2, d3, d4, d5] => { results := [.lit (.bool true)], args := [d1, d2, d3, d4, d5] }
  | _ => none }
def engineHandlesRow : OpenClaim := { program := "ytoldppbakapohaagreatdoor", sum := "93289312cff13c314f253d37e28a21cbc6a7d9870ae38f06bb0f03ef912b9241", func := "boarder/boarderlaw19.EngineHandles", spec := "engineHandles", inPlace := ["internal/reflectlite.ValueOf", "(internal/reflectlite.Value).Type", "(internal/reflectlite.Value).IsNil", "internal/reflectlite.TypeOf", "(internal/reflectlite.Value).Elem", "(internal/reflectlite.Value).Set"], unfollowed := true, recurses := true, named := ["boarder/msg.errInvalid", "boarder/msg.errLong", "boarder/msg.widths", "boarder/msg.errShort", "errors.errorType"], apart := false, laid := [("errors.errorType", laid_errors_errorType), ("boarder/msg.errInvalid", laid_boarder_msg_errInvalid), ("boarder/msg.errShort", laid_boarder_msg_errShort), ("boarder/msg.errLong", laid_boarder_msg_errLong), ("boarder/msg.widths", laid_boarder_msg_widths)] }
def EngineHandlesSaid : Prop := engineHandlesRow.holds Tryz.pinned (OpenSpec.ofChange engineHandlesSpec)

/-- ITS FALSE NEIGHBOUR: 'it returns false'. Refute it at one input. -/
def engineHandlesWrong : ChangeSpec := { name := "engineHandles", fn := fun _ => fun
  | [d1, d2, d3, d4, d5] => { results := [.lit (.bool false)], args := [d1, d2, d3, d4, d5] }
  | _ => none }
def EngineHandlesWrongFalsely : Prop := engineHandlesRow.holds Tryz.pinned (OpenSpec.ofChange engineHandlesWrong)

/-- 'boarderlaw19.EngineGives': WHATEVER THE INPUT: true; the input reads as it did. -/
def engineGivesSpec : ChangeSpec := { name := "engineGives", fn := fun _ => fun
  | [d1, d2, d3, d4, d5] => { results := [.lit (.bool true)], args := [d1, d2, d3, d4, d5] }
  | _ => none }
def engineGivesRow : OpenClaim := { program := "ytoldppbakapohaagreatdoor", sum := "93289312cff13c314f253d37e28a21cbc6a7d9870ae38f06bb0f03ef912b9241", func := "boarder/boarderlaw19.EngineGives", spec := "engineGives", inPlace := ["internal/reflectlite.ValueOf", "(internal/reflectlite.Value).Type", "(internal/reflectlite.Value).IsNil", "internal/reflectlite.TypeOf", "(internal/reflectlite.Value).Elem", "(internal/reflectlite.Value).Set"], unfollowed := true, recurses := true, named := ["boarder/msg.errInvalid", "boarder/msg.errLong", "boarder/msg.widths", "boarder/msg.errShort", "errors.errorType"], apart := false, laid := [("errors.errorType", laid_errors_errorType), ("boarder/msg.errInvalid", laid_boarder_msg_errInvalid), ("boarder/msg.errShort", laid_boarder_msg_errShort), ("boarder/msg.errLong", laid_boarder_msg_errLong), ("boarder/msg.widths", laid_boarder_msg_widths)] }
def EngineGivesSaid : Prop := engineGivesRow.holds Tryz.pinned (OpenSpec.ofChange engineGivesSpec)

/-- ITS FALSE NEIGHBOUR: 'it returns false'. Refute it at one input. -/
def engineGivesWrong : ChangeSpec := { name := "engineGives", fn := fun _ => fun
  | [d1, d2, d3, d4, d5] => { results := [.lit (.bool false)], args := [d1, d2, d3, d4, d5] }
  | _ => none }
def EngineGivesWrongFalsely : Prop := engineGivesRow.holds Tryz.pinned (OpenSpec.ofChange engineGivesWrong)

/-- 'boarderlaw19.EngineKeeps': WHATEVER THE INPUT: true; the input reads as it did. -/
def engineKeepsSpec : ChangeSpec := { name := "engineKeeps", fn := fun _ => fun
  | [d1, d2, d3, d4, d5] => { results := [.lit (.bool true)], args := [d1, d2, d3, d4, d5] }
  | _ => none }
def engineKeepsRow : OpenClaim := { program := "ytoldppbakapohaagreatdoor", sum := "93289312cff13c314f253d37e28a21cbc6a7d9870ae38f06bb0f03ef912b9241", func := "boarder/boarderlaw19.EngineKeeps", spec := "engineKeeps", inPlace := ["internal/reflectlite.ValueOf", "(internal/reflectlite.Value).Type", "(internal/reflectlite.Value).IsNil", "internal/reflectlite.TypeOf", "(internal/reflectlite.Value).Elem", "(internal/reflectlite.Value).Set"], unfollowed := true, recurses := true, named := ["boarder/msg.errInvalid", "boarder/msg.errLong", "boarder/msg.widths", "boarder/msg.errShort", "errors.errorType"], apart := false, laid := [("errors.errorType", laid_errors_errorType), ("boarder/msg.errInvalid", laid_boarder_msg_errInvalid), ("boarder/msg.errShort", laid_boarder_msg_errShort), ("boarder/msg.errLong", laid_boarder_msg_errLong), ("boarder/msg.widths", laid_boarder_msg_widths)] }
def EngineKeepsSaid : Prop := engineKeepsRow.holds Tryz.pinned (OpenSpec.ofChange engineKeepsSpec)

/-- ITS FALSE NEIGHBOUR: 'it returns false'. Refute it at one input. -/
def engineKeepsWrong : ChangeSpec := { name := "engineKeeps", fn := fun _ => fun
  | [d1, d2, d3, d4, d5] => { results := [.lit (.bool false)], args := [d1, d2, d3, d4, d5] }
  | _ => none }
def EngineKeepsWrongFalsely : Prop := engineKeepsRow.holds Tryz.pinned (OpenSpec.ofChange engineKeepsWrong)

/-- 'boarderlaw19.EngineNaks': WHATEVER THE INPUT: true; the input reads as it did. -/
def engineNaksSpec : ChangeSpec := { name := "engineNaks", fn := fun _ => fun
  | [d1, d2, d3, d4, d5] => { results := [.lit (.bool true)], args := [d1, d2, d3, d4, d5] }
  | _ => none }
def engineNaksRow : OpenClaim := { program := "ytoldppbakapohaagreatdoor", sum := "93289312cff13c314f253d37e28a21cbc6a7d9870ae38f06bb0f03ef912b9241", func := "boarder/boarderlaw19.EngineNaks", spec := "engineNaks", inPlace := ["internal/reflectlite.ValueOf", "(internal/reflectlite.Value).Type", "(internal/reflectlite.Value).IsNil", "internal/reflectlite.TypeOf", "(internal/reflectlite.Value).Elem", "(internal/reflectlite.Value).Set"], unfollowed := true, recurses := true, named := ["boarder/msg.errInvalid", "boarder/msg.errLong", "boarder/msg.widths", "boarder/msg.errShort", "errors.errorType"], apart := false, laid := [("errors.errorType", laid_errors_errorType), ("boarder/msg.errInvalid", laid_boarder_msg_errInvalid), ("boarder/msg.errShort", laid_boarder_msg_errShort), ("boarder/msg.errLong", laid_boarder_msg_errLong), ("boarder/msg.widths", laid_boarder_msg_widths)] }
def EngineNaksSaid : Prop := engineNaksRow.holds Tryz.pinned (OpenSpec.ofChange engineNaksSpec)

/-- ITS FALSE NEIGHBOUR: 'it returns false'. Refute it at one input. -/
def engineNaksWrong : ChangeSpec := { name := "engineNaks", fn := fun _ => fun
  | [d1, d2, d3, d4, d5] => { results := [.lit (.bool false)], args := [d1, d2, d3, d4, d5] }
  | _ => none }
def EngineNaksWrongFalsely : Prop := engineNaksRow.holds Tryz.pinned (OpenSpec.ofChange engineNaksWrong)

/-- 'boarderlaw19.EngineMatches': WHATEVER THE INPUT: true; the input reads as it did. -/
def engineMatchesSpec : ChangeSpec := { name := "engineMatches", fn := fun _ => fun
  | [d1, d2, d3, d4, d5] => { results := [.lit (.bool true)], args := [d1, d2, d3, d4, d5] }
  | _ => none }
def engineMatchesRow : OpenClaim := { program := "ytoldppbakapohaagreatdoor", sum := "93289312cff13c314f253d37e28a21cbc6a7d9870ae38f06bb0f03ef912b9241", func := "boarder/boarderlaw19.EngineMatches", spec := "engineMatches", inPlace := ["internal/reflectlite.ValueOf", "(internal/reflectlite.Value).Type", "(internal/reflectlite.Value).IsNil", "internal/reflectlite.TypeOf", "(internal/reflectlite.Value).Elem", "(internal/reflectlite.Value).Set"], unfollowed := true, recurses := true, named := ["boarder/msg.errInvalid", "boarder/msg.errLong", "boarder/msg.widths", "boarder/msg.errShort", "errors.errorType"], apart := false, laid := [("errors.errorType", laid_errors_errorType), ("boarder/msg.errInvalid", laid_boarder_msg_errInvalid), ("boarder/msg.errShort", laid_boarder_msg_errShort), ("boarder/msg.errLong", laid_boarder_msg_errLong), ("boarder/msg.widths", laid_boarder_msg_widths)] }
def EngineMatchesSaid : Prop := engineMatchesRow.holds Tryz.pinned (OpenSpec.ofChange engineMatchesSpec)

/-- ITS FALSE NEIGHBOUR: 'it returns false'. Refute it at one input. -/
def engineMatchesWrong : ChangeSpec := { name := "engineMatches", fn := fun _ => fun
  | [d1, d2, d3, d4, d5] => { results := [.lit (.bool false)], args := [d1, d2, d3, d4, d5] }
  | _ => none }
def EngineMatchesWrongFalsely : Prop := engineMatchesRow.holds Tryz.pinned (OpenSpec.ofChange engineMatchesWrong)

/-- 'boarderlaw19.EngineFits': WHATEVER THE INPUT: true; the input reads as it did. -/
def engineFitsSpec : ChangeSpec := { name := "engineFits", fn := fun _ => fun
  | [d1, d2, d3, d4, d5] => { results := [.lit (.bool true)], args := [d1, d2, d3, d4, d5] }
  | _ => none }
def engineFitsRow : OpenClaim := { program := "ytoldppbakapohaagreatdoor", sum := "93289312cff13c314f253d37e28a21cbc6a7d9870ae38f06bb0f03ef912b9241", func := "boarder/boarderlaw19.EngineFits", spec := "engineFits", inPlace := ["internal/reflectlite.ValueOf", "(internal/reflectlite.Value).Type", "(internal/reflectlite.Value).IsNil", "internal/reflectlite.TypeOf", "(internal/reflectlite.Value).Elem", "(internal/reflectlite.Value).Set"], unfollowed := true, recurses := true, named := ["boarder/msg.errInvalid", "boarder/msg.errLong", "boarder/msg.widths", "boarder/msg.errShort", "errors.errorType"], apart := false, laid := [("errors.errorType", laid_errors_errorType), ("boarder/msg.errInvalid", laid_boarder_msg_errInvalid), ("boarder/msg.errShort", laid_boarder_msg_errShort), ("boarder/msg.errLong", laid_boarder_msg_errLong), ("boarder/msg.widths", laid_boarder_msg_widths)] }
def EngineFitsSaid : Prop := engineFitsRow.holds Tryz.pinned (OpenSpec.ofChange engineFitsSpec)

/-- ITS FALSE NEIGHBOUR: 'it returns false'. Refute it at one input. -/
def engineFitsWrong : ChangeSpec := { name := "engineFits", fn := fun _ => fun
  | [d1, d2, d3, d4, d5] => { results := [.lit (.bool false)], args := [d1, d2, d3, d4, d5] }
  | _ => none }
def EngineFitsWrongFalsely : Prop := engineFitsRow.holds Tryz.pinned (OpenSpec.ofChange engineFitsWrong)

/- THE SECOND FORM. 'bulk': how many values and letters a reading holds, each counted each time it is reached (what is shared counts as often as it is met; a slice's spare places count too). A statement '..UptoSaid' is the law's where the arguments, and the package variables that the reading takes, are together of bulk at most 1048576: NARROWER than '..Said'. Prove '..Said' where nothing that the law and all that it calls make is longer than what came in: it says more and counts as full. Else prove '..UptoSaid'. A law counts once. -/
mutual
def uptoBulk {H : Type} : DataW H → Nat
  | .lit (.string bytes) => bytes.length + 1
  | .lit _ => 1
  | .nil => 1
  | .ptr d => uptoBulk d + 1
  | .slice elems spare => uptoBulkAll elems + uptoBulkAll spare + 1
  | .agg parts => uptoBulkAll parts + 1
  | .iface _ d => uptoBulk d + 1
  | .map entries => uptoBulkEntries entries + 1
  | .held _ => 1
def uptoBulkAll {H : Type} : List (DataW H) → Nat
  | [] => 0
  | d :: r => uptoBulk d + uptoBulkAll r
def uptoBulkEntries {H : Type} : List (Lit × DataW H) → Nat
  | [] => 0
  | x :: r => uptoBulkEntry x + uptoBulkEntries r
def uptoBulkEntry {H : Type} : Lit × DataW H → Nat
  | (.string bytes, d) => bytes.length + uptoBulk d + 1
  | (_, d) => uptoBulk d + 1
 end
def uptoSmall : (H : Type) → List (DataW H) → Bool := fun _ ds => decide (uptoBulkAll ds ≤ 1048576)
def OpenSpec.upto (s : _root_.Go.ChangeSpec) : _root_.Go.OpenSpec := { _root_.Go.OpenSpec.ofChange s with cond := some uptoSmall }

/-- 'boarderlaw19.EngineHandles', WHERE WHAT IT READS IS OF BULK AT MOST 1048576: true; the input reads as it did. -/
def engineHandlesUptoRow : OpenClaim := { program := "ytoldppbakapohaagreatdoor", sum := "93289312cff13c314f253d37e28a21cbc6a7d9870ae38f06bb0f03ef912b9241", func := "boarder/boarderlaw19.EngineHandles", spec := "engineHandles", inPlace := ["internal/reflectlite.ValueOf", "(internal/reflectlite.Value).Type", "(internal/reflectlite.Value).IsNil", "internal/reflectlite.TypeOf", "(internal/reflectlite.Value).Elem", "(internal/reflectlite.Value).Set"], unfollowed := true, recurses := true, named := ["boarder/msg.errInvalid", "boarder/msg.errLong", "boarder/msg.widths", "boarder/msg.errShort", "errors.errorType"], apart := false, laid := [("errors.errorType", laid_errors_errorType), ("boarder/msg.errInvalid", laid_boarder_msg_errInvalid), ("boarder/msg.errShort", laid_boarder_msg_errShort), ("boarder/msg.errLong", laid_boarder_msg_errLong), ("boarder/msg.widths", laid_boarder_msg_widths)], narrowed := true }
def EngineHandlesUptoSaid : Prop := engineHandlesUptoRow.holds Tryz.pinned (OpenSpec.upto engineHandlesSpec)

/-- 'boarderlaw19.EngineGives', WHERE WHAT IT READS IS OF BULK AT MOST 1048576: true; the input reads as it did. -/
def engineGivesUptoRow : OpenClaim := { program := "ytoldppbakapohaagreatdoor", sum := "93289312cff13c314f253d37e28a21cbc6a7d9870ae38f06bb0f03ef912b9241", func := "boarder/boarderlaw19.EngineGives", spec := "engineGives", inPlace := ["internal/reflectlite.ValueOf", "(internal/reflectlite.Value).Type", "(internal/reflectlite.Value).IsNil", "internal/reflectlite.TypeOf", "(internal/reflectlite.Value).Elem", "(internal/reflectlite.Value).Set"], unfollowed := true, recurses := true, named := ["boarder/msg.errInvalid", "boarder/msg.errLong", "boarder/msg.widths", "boarder/msg.errShort", "errors.errorType"], apart := false, laid := [("errors.errorType", laid_errors_errorType), ("boarder/msg.errInvalid", laid_boarder_msg_errInvalid), ("boarder/msg.errShort", laid_boarder_msg_errShort), ("boarder/msg.errLong", laid_boarder_msg_errLong), ("boarder/msg.widths", laid_boarder_msg_widths)], narrowed := true }
def EngineGivesUptoSaid : Prop := engineGivesUptoRow.holds Tryz.pinned (OpenSpec.upto engineGivesSpec)

/-- 'boarderlaw19.EngineKeeps', WHERE WHAT IT READS IS OF BULK AT MOST 1048576: true; the input reads as it did. -/
def engineKeepsUptoRow : OpenClaim := { program := "ytoldppbakapohaagreatdoor", sum := "93289312cff13c314f253d37e28a21cbc6a7d9870ae38f06bb0f03ef912b9241", func := "boarder/boarderlaw19.EngineKeeps", spec := "engineKeeps", inPlace := ["internal/reflectlite.ValueOf", "(internal/reflectlite.Value).Type", "(internal/reflectlite.Value).IsNil", "internal/reflectlite.TypeOf", "(internal/reflectlite.Value).Elem", "(internal/reflectlite.Value).Set"], unfollowed := true, recurses := true, named := ["boarder/msg.errInvalid", "boarder/msg.errLong", "boarder/msg.widths", "boarder/msg.errShort", "errors.errorType"], apart := false, laid := [("errors.errorType", laid_errors_errorType), ("boarder/msg.errInvalid", laid_boarder_msg_errInvalid), ("boarder/msg.errShort", laid_boarder_msg_errShort), ("boarder/msg.errLong", laid_boarder_msg_errLong), ("boarder/msg.widths", laid_boarder_msg_widths)], narrowed := true }
def EngineKeepsUptoSaid : Prop := engineKeepsUptoRow.holds Tryz.pinned (OpenSpec.upto engineKeepsSpec)

/-- 'boarderlaw19.EngineNaks', WHERE WHAT IT READS IS OF BULK AT MOST 1048576: true; the input reads as it did. -/
def engineNaksUptoRow : OpenClaim := { program := "ytoldppbakapohaagreatdoor", sum := "93289312cff13c314f253d37e28a21cbc6a7d9870ae38f06bb0f03ef912b9241", func := "boarder/boarderlaw19.EngineNaks", spec := "engineNaks", inPlace := ["internal/reflectlite.ValueOf", "(internal/reflectlite.Value).Type", "(internal/reflectlite.Value).IsNil", "internal/reflectlite.TypeOf", "(internal/reflectlite.Value).Elem", "(internal/reflectlite.Value).Set"], unfollowed := true, recurses := true, named := ["boarder/msg.errInvalid", "boarder/msg.errLong", "boarder/msg.widths", "boarder/msg.errShort", "errors.errorType"], apart := false, laid := [("errors.errorType", laid_errors_errorType), ("boarder/msg.errInvalid", laid_boarder_msg_errInvalid), ("boarder/msg.errShort", laid_boarder_msg_errShort), ("boarder/msg.errLong", laid_boarder_msg_errLong), ("boarder/msg.widths", laid_boarder_msg_widths)], narrowed := true }
def EngineNaksUptoSaid : Prop := engineNaksUptoRow.holds Tryz.pinned (OpenSpec.upto engineNaksSpec)

/-- 'boarderlaw19.EngineMatches', WHERE WHAT IT READS IS OF BULK AT MOST 1048576: true; the input reads as it did. -/
def engineMatchesUptoRow : OpenClaim := { program := "ytoldppbakapohaagreatdoor", sum := "93289312cff13c314f253d37e28a21cbc6a7d9870ae38f06bb0f03ef912b9241", func := "boarder/boarderlaw19.EngineMatches", spec := "engineMatches", inPlace := ["internal/reflectlite.ValueOf", "(internal/reflectlite.Value).Type", "(internal/reflectlite.Value).IsNil", "internal/reflectlite.TypeOf", "(internal/reflectlite.Value).Elem", "(internal/reflectlite.Value).Set"], unfollowed := true, recurses := true, named := ["boarder/msg.errInvalid", "boarder/msg.errLong", "boarder/msg.widths", "boarder/msg.errShort", "errors.errorType"], apart := false, laid := [("errors.errorType", laid_errors_errorType), ("boarder/msg.errInvalid", laid_boarder_msg_errInvalid), ("boarder/msg.errShort", laid_boarder_msg_errShort), ("boarder/msg.errLong", laid_boarder_msg_errLong), ("boarder/msg.widths", laid_boarder_msg_widths)], narrowed := true }
def EngineMatchesUptoSaid : Prop := engineMatchesUptoRow.holds Tryz.pinned (OpenSpec.upto engineMatchesSpec)

/-- 'boarderlaw19.EngineFits', WHERE WHAT IT READS IS OF BULK AT MOST 1048576: true; the input reads as it did. -/
def engineFitsUptoRow : OpenClaim := { program := "ytoldppbakapohaagreatdoor", sum := "93289312cff13c314f253d37e28a21cbc6a7d9870ae38f06bb0f03ef912b9241", func := "boarder/boarderlaw19.EngineFits", spec := "engineFits", inPlace := ["internal/reflectlite.ValueOf", "(internal/reflectlite.Value).Type", "(internal/reflectlite.Value).IsNil", "internal/reflectlite.TypeOf", "(internal/reflectlite.Value).Elem", "(internal/reflectlite.Value).Set"], unfollowed := true, recurses := true, named := ["boarder/msg.errInvalid", "boarder/msg.errLong", "boarder/msg.widths", "boarder/msg.errShort", "errors.errorType"], apart := false, laid := [("errors.errorType", laid_errors_errorType), ("boarder/msg.errInvalid", laid_boarder_msg_errInvalid), ("boarder/msg.errShort", laid_boarder_msg_errShort), ("boarder/msg.errLong", laid_boarder_msg_errLong), ("boarder/msg.widths", laid_boarder_msg_widths)], narrowed := true }
def EngineFitsUptoSaid : Prop := engineFitsUptoRow.holds Tryz.pinned (OpenSpec.upto engineFitsSpec)

end Rows
end Go.Proofs.YtoldppbakapohaaGreatDoor
