/-
  No cell of these rows narrows 'for every input' (looked for: loops, veiled, ifaces, maps, wideKeys, modest, calm, conditions, laid).
  DERIVED. THE GIVEN ROWS OF THIS SEAT. 4 by the template 'for every input the law returns true; each argument reads behind the call as it read before'; 0 by the template 'total and deterministic' (their statements: YtpdjdaoclpeffaaGreatTotals.lean).
  GIVEN WITH THE SEED: the statements are not yours to turn. If you find one false, say at which input.
  Laid BY PROGRAM, IN A SANDBOX (cutbox-rows.mjs): the forced cells as the released guide's own fill.sh prints them over the translation 2841204c3c6e4682… (all of the seat's roots in one cut). By AI agents, Wed Nov 11 2026. No macro, syntax, notation, axiom, sorry.
-/
import Derived.Test.YtpdjdaoclpeffaaGreatChecked
import GoSem.Claim
import GoSem.ClaimJoined
import GoSem.ClaimMapViews
import Derived.JoinedTies
import Derived.KernelRfl
namespace Go.Proofs.YtpdjdaoclpeffaaGreat
/- THE CELL 'sum', in the pinned program and in every row, IS THE sha256 OF THE DUMP (.gsa) THAT YtpdjdaoclpeffaaGreatProg.lean LOADS. Nothing in Lean hashes anything: it is a label: what it is worth is what the hold of that sum in a sandbox is worth. -/
noncomputable def Tryz.pinned : Pinned := { name := "ytpdjdaoclpeffaagreat", sum := "2841204c3c6e468250963d38b7d0089a05e4d19fdb2705d0b887ca58ff3d359f", checked := Tryz.checked }
namespace Rows
def none {H : Type} : Left H := { results := [], args := [] }

/-- 'boarderlaw15.AllocMay': WHATEVER THE INPUT: true; the input reads as it did. -/
def allocMaySpec : ChangeSpec := { name := "allocMay", fn := fun _ => fun
  | [d1, d2, d3, d4, d5, d6] => { results := [.lit (.bool true)], args := [d1, d2, d3, d4, d5, d6] }
  | _ => none }
def allocMayRow : OpenClaim := { program := "ytpdjdaoclpeffaagreat", sum := "2841204c3c6e468250963d38b7d0089a05e4d19fdb2705d0b887ca58ff3d359f", func := "boarder/boarderlaw15.AllocMay", spec := "allocMay", unfollowed := true, recurses := true, apart := false }
def AllocMaySaid : Prop := allocMayRow.holds Tryz.pinned (OpenSpec.ofChange allocMaySpec)

/-- ITS FALSE NEIGHBOUR: 'it returns false'. Refute it at one input. -/
def allocMayWrong : ChangeSpec := { name := "allocMay", fn := fun _ => fun
  | [d1, d2, d3, d4, d5, d6] => { results := [.lit (.bool false)], args := [d1, d2, d3, d4, d5, d6] }
  | _ => none }
def AllocMayWrongFalsely : Prop := allocMayRow.holds Tryz.pinned (OpenSpec.ofChange allocMayWrong)

/-- 'boarderlaw15.AllocChooses': WHATEVER THE INPUT: true; the input reads as it did. -/
def allocChoosesSpec : ChangeSpec := { name := "allocChooses", fn := fun _ => fun
  | [d1, d2, d3, d4, d5, d6] => { results := [.lit (.bool true)], args := [d1, d2, d3, d4, d5, d6] }
  | _ => none }
def allocChoosesRow : OpenClaim := { program := "ytpdjdaoclpeffaagreat", sum := "2841204c3c6e468250963d38b7d0089a05e4d19fdb2705d0b887ca58ff3d359f", func := "boarder/boarderlaw15.AllocChooses", spec := "allocChooses", unfollowed := true, recurses := true, apart := false }
def AllocChoosesSaid : Prop := allocChoosesRow.holds Tryz.pinned (OpenSpec.ofChange allocChoosesSpec)

/-- ITS FALSE NEIGHBOUR: 'it returns false'. Refute it at one input. -/
def allocChoosesWrong : ChangeSpec := { name := "allocChooses", fn := fun _ => fun
  | [d1, d2, d3, d4, d5, d6] => { results := [.lit (.bool false)], args := [d1, d2, d3, d4, d5, d6] }
  | _ => none }
def AllocChoosesWrongFalsely : Prop := allocChoosesRow.holds Tryz.pinned (OpenSpec.ofChange allocChoosesWrong)

/-- 'boarderlaw15.AllocGood': WHATEVER THE INPUT: true; the input reads as it did. -/
def allocGoodSpec : ChangeSpec := { name := "allocGood", fn := fun _ => fun
  | [d1, d2, d3, d4, d5, d6] => { results := [.lit (.bool true)], args := [d1, d2, d3, d4, d5, d6] }
  | _ => none }
def allocGoodRow : OpenClaim := { program := "ytpdjdaoclpeffaagreat", sum := "2841204c3c6e468250963d38b7d0089a05e4d19fdb2705d0b887ca58ff3d359f", func := "boarder/boarderlaw15.AllocGood", spec := "allocGood", unfollowed := true, recurses := true, apart := false }
def AllocGoodSaid : Prop := allocGoodRow.holds Tryz.pinned (OpenSpec.ofChange allocGoodSpec)

/-- ITS FALSE NEIGHBOUR: 'it returns false'. Refute it at one input. -/
def allocGoodWrong : ChangeSpec := { name := "allocGood", fn := fun _ => fun
  | [d1, d2, d3, d4, d5, d6] => { results := [.lit (.bool false)], args := [d1, d2, d3, d4, d5, d6] }
  | _ => none }
def AllocGoodWrongFalsely : Prop := allocGoodRow.holds Tryz.pinned (OpenSpec.ofChange allocGoodWrong)

/-- 'boarderlaw15.AllocKeeps': WHATEVER THE INPUT: true; the input reads as it did. -/
def allocKeepsSpec : ChangeSpec := { name := "allocKeeps", fn := fun _ => fun
  | [d1, d2, d3, d4, d5, d6] => { results := [.lit (.bool true)], args := [d1, d2, d3, d4, d5, d6] }
  | _ => none }
def allocKeepsRow : OpenClaim := { program := "ytpdjdaoclpeffaagreat", sum := "2841204c3c6e468250963d38b7d0089a05e4d19fdb2705d0b887ca58ff3d359f", func := "boarder/boarderlaw15.AllocKeeps", spec := "allocKeeps", unfollowed := true, recurses := true, apart := false }
def AllocKeepsSaid : Prop := allocKeepsRow.holds Tryz.pinned (OpenSpec.ofChange allocKeepsSpec)

/-- ITS FALSE NEIGHBOUR: 'it returns false'. Refute it at one input. -/
def allocKeepsWrong : ChangeSpec := { name := "allocKeeps", fn := fun _ => fun
  | [d1, d2, d3, d4, d5, d6] => { results := [.lit (.bool false)], args := [d1, d2, d3, d4, d5, d6] }
  | _ => none }
def AllocKeepsWrongFalsely : Prop := allocKeepsRow.holds Tryz.pinned (OpenSpec.ofChange allocKeepsWrong)

/- THE SECOND FORM. 'bulk': how many values and letters a reading holds, each counted each time it is reached (what is shared counts as often as it is met; a slice's spare places count too). A statement '..UptoSaid' is the law's where the arguments, and the package variables that the reading takes, are together of bulk at most 1048576: NARROWER than '..Said'. Prove '..Said' where nothing that the law and all that it calls make is longer than what came in: it says more and counts as full. Else prove '..UptoSaid'. A law counts once. -/
mutual
def uptoBulk {H : Type} : DataW H → Nat
  | .lit (.string bytes) => bytes.length + 1
  | .lit _ => 1
  | .nil => 1
  | .ptr d => uptoBulk d + 1
  | .slice elems spare => uptoBulkAll elems + uptoBulkAll spare + 1
  | .agg parts => uptoBulkAll parts + 1
  | .iface _ d => uptoBulk d + 1
  | .map entries => uptoBulkEntries entries + 1
  | .held _ => 1
def uptoBulkAll {H : Type} : List (DataW H) → Nat
  | [] => 0
  | d :: r => uptoBulk d + uptoBulkAll r
def uptoBulkEntries {H : Type} : List (Lit × DataW H) → Nat
  | [] => 0
  | x :: r => uptoBulkEntry x + uptoBulkEntries r
def uptoBulkEntry {H : Type} : Lit × DataW H → Nat
  | (.string bytes, d) => bytes.length + uptoBulk d + 1
  | (_, d) => uptoBulk d + 1
 end
def uptoSmall : (H : Type) → List (DataW H) → Bool := fun _ ds => decide (uptoBulkAll ds ≤ 1048576)
def OpenSpec.upto (s : _root_.Go.ChangeSpec) : _root_.Go.OpenSpec := { _root_.Go.OpenSpec.ofChange s with cond := some uptoSmall }

/-- 'boarderlaw15.AllocMay', WHERE WHAT IT READS IS OF BULK AT MOST 1048576: true; the input reads as it did. -/
def allocMayUptoRow : OpenClaim := { program := "ytpdjdaoclpeffaagreat", sum := "2841204c3c6e468250963d38b7d0089a05e4d19fdb2705d0b887ca58ff3d359f", func := "boarder/boarderlaw15.AllocMay", spec := "allocMay", unfollowed := true, recurses := true, apart := false, narrowed := true }
def AllocMayUptoSaid : Prop := allocMayUptoRow.holds Tryz.pinned (OpenSpec.upto allocMaySpec)

/-- 'boarderlaw15.AllocChooses', WHERE WHAT IT READS IS OF BULK AT MOST 1048576: true; the input reads as it did. -/
def allocChoosesUptoRow : OpenClaim := { program := "ytpdjdaoclpeffaagreat", sum := "2841204c3c6e468250963d38b7d0089a05e4d19fdb2705d0b887ca58ff3d359f", func := "boarder/boarderlaw15.AllocChooses", spec := "allocChooses", unfollowed := true, recurses := true, apart := false, narrowed := true }
def AllocChoosesUptoSaid : Prop := allocChoosesUptoRow.holds Tryz.pinned (OpenSpec.upto allocChoosesSpec)

/-- 'boarderlaw15.AllocGood', WHERE WHAT IT READS IS OF BULK AT MOST 1048576: true; the input reads as it did. -/
def allocGoodUptoRow : OpenClaim := { program := "ytpdjdaoclpeffaagreat", sum := "2841204c3c6e468250963d38b7d0089a05e4d19fdb2705d0b887ca58ff3d359f", func := "boarder/boarderlaw15.AllocGood", spec := "allocGood", unfollowed := true, recurses := true, apart := false, narrowed := true }
def AllocGoodUptoSaid : Prop := allocGoodUptoRow.holds Tryz.pinned (OpenSpec.upto allocGoodSpec)

/-- 'boarderlaw15.AllocKeeps', WHERE WHAT IT READS IS OF BULK AT MOST 1048576: true; the input reads as it did. -/
def allocKeepsUptoRow : OpenClaim := { program := "ytpdjdaoclpeffaagreat", sum := "2841204c3c6e468250963d38b7d0089a05e4d19fdb2705d0b887ca58ff3d359f", func := "boarder/boarderlaw15.AllocKeeps", spec := "allocKeeps", unfollowed := true, recurses := true, apart := false, narrowed := true }
def AllocKeepsUptoSaid : Prop := allocKeepsUptoRow.holds Tryz.pinned (OpenSpec.upto allocKeepsSpec)

end Rows
end Go.Proofs.YtpdjdaoclpeffaaGreat
