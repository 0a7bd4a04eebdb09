/-
  No cell of these rows narrows 'for every input' (looked for: loops, veiled, ifaces, maps, wideKeys, modest, calm, conditions, laid).
  DERIVED. THE GIVEN ROWS OF THIS SEAT. 6 by the template 'for every input the law returns true; each argument reads behind the call as it read before'; 0 by the template 'total and deterministic' (their statements: YtfdlhfindcngeaaTotals.lean).
  GIVEN WITH THE SEED: the statements are not yours to turn. If you find one false, say at which input.
  Laid BY PROGRAM, IN A SANDBOX (cutbox-rows.mjs): the forced cells as the released guide's own fill.sh prints them over the translation fbf7cb774e4f96be… (all of the seat's roots in one cut). By AI agents, Wed Nov 11 2026. No macro, syntax, notation, axiom, sorry.
-/
import Derived.Test.YtfdlhfindcngeaaChecked
import GoSem.Claim
import GoSem.ClaimJoined
import GoSem.ClaimMapViews
import Derived.JoinedTies
import Derived.KernelRfl
namespace Go.Proofs.Ytfdlhfindcngeaa
/- THE CELL 'sum', in the pinned program and in every row, IS THE sha256 OF THE DUMP (.gsa) THAT YtfdlhfindcngeaaProg.lean LOADS. Nothing in Lean hashes anything: it is a label: what it is worth is what the hold of that sum in a sandbox is worth. -/
noncomputable def Try.pinned : Pinned := { name := "ytfdlhfindcngeaa", sum := "fbf7cb774e4f96be5648d741325e4fadef2ebe7473e77844c958ecfa52342ffd", checked := Try.checked }
namespace Rows
def none {H : Type} : Left H := { results := [], args := [] }

/-- 'boarderlaw06.RelayParts': WHATEVER THE INPUT: true; the input reads as it did. -/
def relayPartsSpec : ChangeSpec := { name := "relayParts", fn := fun _ => fun
  | [d] => { results := [.lit (.bool true)], args := [d] }
  | _ => none }
def relayPartsRow : OpenClaim := { program := "ytfdlhfindcngeaa", sum := "fbf7cb774e4f96be5648d741325e4fadef2ebe7473e77844c958ecfa52342ffd", func := "boarder/boarderlaw06.RelayParts", spec := "relayParts", unfollowed := true, recurses := true, apart := false }
def RelayPartsSaid : Prop := relayPartsRow.holds Try.pinned (OpenSpec.ofChange relayPartsSpec)

/-- ITS FALSE NEIGHBOUR: 'it returns false'. Refute it at one input. -/
def relayPartsWrong : ChangeSpec := { name := "relayParts", fn := fun _ => fun
  | [d] => { results := [.lit (.bool false)], args := [d] }
  | _ => none }
def RelayPartsWrongFalsely : Prop := relayPartsRow.holds Try.pinned (OpenSpec.ofChange relayPartsWrong)

/-- 'boarderlaw06.RelayBytes': WHATEVER THE INPUT: true; the input reads as it did. -/
def relayBytesSpec : ChangeSpec := { name := "relayBytes", fn := fun _ => fun
  | [d] => { results := [.lit (.bool true)], args := [d] }
  | _ => none }
def relayBytesRow : OpenClaim := { program := "ytfdlhfindcngeaa", sum := "fbf7cb774e4f96be5648d741325e4fadef2ebe7473e77844c958ecfa52342ffd", func := "boarder/boarderlaw06.RelayBytes", spec := "relayBytes", unfollowed := true, recurses := true, apart := false }
def RelayBytesSaid : Prop := relayBytesRow.holds Try.pinned (OpenSpec.ofChange relayBytesSpec)

/-- ITS FALSE NEIGHBOUR: 'it returns false'. Refute it at one input. -/
def relayBytesWrong : ChangeSpec := { name := "relayBytes", fn := fun _ => fun
  | [d] => { results := [.lit (.bool false)], args := [d] }
  | _ => none }
def RelayBytesWrongFalsely : Prop := relayBytesRow.holds Try.pinned (OpenSpec.ofChange relayBytesWrong)

/-- 'boarderlaw06.RelayLinks': WHATEVER THE INPUT: true; the input reads as it did. -/
def relayLinksSpec : ChangeSpec := { name := "relayLinks", fn := fun _ => fun
  | [d] => { results := [.lit (.bool true)], args := [d] }
  | _ => none }
def relayLinksRow : OpenClaim := { program := "ytfdlhfindcngeaa", sum := "fbf7cb774e4f96be5648d741325e4fadef2ebe7473e77844c958ecfa52342ffd", func := "boarder/boarderlaw06.RelayLinks", spec := "relayLinks", unfollowed := true, recurses := true, apart := false }
def RelayLinksSaid : Prop := relayLinksRow.holds Try.pinned (OpenSpec.ofChange relayLinksSpec)

/-- ITS FALSE NEIGHBOUR: 'it returns false'. Refute it at one input. -/
def relayLinksWrong : ChangeSpec := { name := "relayLinks", fn := fun _ => fun
  | [d] => { results := [.lit (.bool false)], args := [d] }
  | _ => none }
def RelayLinksWrongFalsely : Prop := relayLinksRow.holds Try.pinned (OpenSpec.ofChange relayLinksWrong)

/-- 'boarderlaw06.RelayBack': WHATEVER THE INPUT: true; the input reads as it did. -/
def relayBackSpec : ChangeSpec := { name := "relayBack", fn := fun _ => fun
  | [d] => { results := [.lit (.bool true)], args := [d] }
  | _ => none }
def relayBackRow : OpenClaim := { program := "ytfdlhfindcngeaa", sum := "fbf7cb774e4f96be5648d741325e4fadef2ebe7473e77844c958ecfa52342ffd", func := "boarder/boarderlaw06.RelayBack", spec := "relayBack", unfollowed := true, recurses := true, apart := false }
def RelayBackSaid : Prop := relayBackRow.holds Try.pinned (OpenSpec.ofChange relayBackSpec)

/-- ITS FALSE NEIGHBOUR: 'it returns false'. Refute it at one input. -/
def relayBackWrong : ChangeSpec := { name := "relayBack", fn := fun _ => fun
  | [d] => { results := [.lit (.bool false)], args := [d] }
  | _ => none }
def RelayBackWrongFalsely : Prop := relayBackRow.holds Try.pinned (OpenSpec.ofChange relayBackWrong)

/-- 'boarderlaw06.RelayAgain': WHATEVER THE INPUT: true; the input reads as it did. -/
def relayAgainSpec : ChangeSpec := { name := "relayAgain", fn := fun _ => fun
  | [d] => { results := [.lit (.bool true)], args := [d] }
  | _ => none }
def relayAgainRow : OpenClaim := { program := "ytfdlhfindcngeaa", sum := "fbf7cb774e4f96be5648d741325e4fadef2ebe7473e77844c958ecfa52342ffd", func := "boarder/boarderlaw06.RelayAgain", spec := "relayAgain", unfollowed := true, recurses := true, apart := false }
def RelayAgainSaid : Prop := relayAgainRow.holds Try.pinned (OpenSpec.ofChange relayAgainSpec)

/-- ITS FALSE NEIGHBOUR: 'it returns false'. Refute it at one input. -/
def relayAgainWrong : ChangeSpec := { name := "relayAgain", fn := fun _ => fun
  | [d] => { results := [.lit (.bool false)], args := [d] }
  | _ => none }
def RelayAgainWrongFalsely : Prop := relayAgainRow.holds Try.pinned (OpenSpec.ofChange relayAgainWrong)

/-- 'boarderlaw06.RelayFirst': WHATEVER THE INPUT: true; the input reads as it did. -/
def relayFirstSpec : ChangeSpec := { name := "relayFirst", fn := fun _ => fun
  | [d1, d2] => { results := [.lit (.bool true)], args := [d1, d2] }
  | _ => none }
def relayFirstRow : OpenClaim := { program := "ytfdlhfindcngeaa", sum := "fbf7cb774e4f96be5648d741325e4fadef2ebe7473e77844c958ecfa52342ffd", func := "boarder/boarderlaw06.RelayFirst", spec := "relayFirst", unfollowed := true, recurses := true, apart := false }
def RelayFirstSaid : Prop := relayFirstRow.holds Try.pinned (OpenSpec.ofChange relayFirstSpec)

/-- ITS FALSE NEIGHBOUR: 'it returns false'. Refute it at one input. -/
def relayFirstWrong : ChangeSpec := { name := "relayFirst", fn := fun _ => fun
  | [d1, d2] => { results := [.lit (.bool false)], args := [d1, d2] }
  | _ => none }
def RelayFirstWrongFalsely : Prop := relayFirstRow.holds Try.pinned (OpenSpec.ofChange relayFirstWrong)

/- THE SECOND FORM. 'bulk': how many values and letters a reading holds, each counted each time it is reached (what is shared counts as often as it is met; a slice's spare places count too). A statement '..UptoSaid' is the law's where the arguments, and the package variables that the reading takes, are together of bulk at most 1048576: NARROWER than '..Said'. Prove '..Said' where nothing that the law and all that it calls make is longer than what came in: it says more and counts as full. Else prove '..UptoSaid'. A law counts once. -/
mutual
def uptoBulk {H : Type} : DataW H → Nat
  | .lit (.string bytes) => bytes.length + 1
  | .lit _ => 1
  | .nil => 1
  | .ptr d => uptoBulk d + 1
  | .slice elems spare => uptoBulkAll elems + uptoBulkAll spare + 1
  | .agg parts => uptoBulkAll parts + 1
  | .iface _ d => uptoBulk d + 1
  | .map entries => uptoBulkEntries entries + 1
  | .held _ => 1
def uptoBulkAll {H : Type} : List (DataW H) → Nat
  | [] => 0
  | d :: r => uptoBulk d + uptoBulkAll r
def uptoBulkEntries {H : Type} : List (Lit × DataW H) → Nat
  | [] => 0
  | x :: r => uptoBulkEntry x + uptoBulkEntries r
def uptoBulkEntry {H : Type} : Lit × DataW H → Nat
  | (.string bytes, d) => bytes.length + uptoBulk d + 1
  | (_, d) => uptoBulk d + 1
 end
def uptoSmall : (H : Type) → List (DataW H) → Bool := fun _ ds => decide (uptoBulkAll ds ≤ 1048576)
def OpenSpec.upto (s : _root_.Go.ChangeSpec) : _root_.Go.OpenSpec := { _root_.Go.OpenSpec.ofChange s with cond := some uptoSmall }

/-- 'boarderlaw06.RelayParts', WHERE WHAT IT READS IS OF BULK AT MOST 1048576: true; the input reads as it did. -/
def relayPartsUptoRow : OpenClaim := { program := "ytfdlhfindcngeaa", sum := "fbf7cb774e4f96be5648d741325e4fadef2ebe7473e77844c958ecfa52342ffd", func := "boarder/boarderlaw06.RelayParts", spec := "relayParts", unfollowed := true, recurses := true, apart := false, narrowed := true }
def RelayPartsUptoSaid : Prop := relayPartsUptoRow.holds Try.pinned (OpenSpec.upto relayPartsSpec)

/-- 'boarderlaw06.RelayBytes', WHERE WHAT IT READS IS OF BULK AT MOST 1048576: true; the input reads as it did. -/
def relayBytesUptoRow : OpenClaim := { program := "ytfdlhfindcngeaa", sum := "fbf7cb774e4f96be5648d741325e4fadef2ebe7473e77844c958ecfa52342ffd", func := "boarder/boarderlaw06.RelayBytes", spec := "relayBytes", unfollowed := true, recurses := true, apart := false, narrowed := true }
def RelayBytesUptoSaid : Prop := relayBytesUptoRow.holds Try.pinned (OpenSpec.upto relayBytesSpec)

/-- 'boarderlaw06.RelayLinks', WHERE WHAT IT READS IS OF BULK AT MOST 1048576: true; the input reads as it did. -/
def relayLinksUptoRow : OpenClaim := { program := "ytfdlhfindcngeaa", sum := "fbf7cb774e4f96be5648d741325e4fadef2ebe7473e77844c958ecfa52342ffd", func := "boarder/boarderlaw06.RelayLinks", spec := "relayLinks", unfollowed := true, recurses := true, apart := false, narrowed := true }
def RelayLinksUptoSaid : Prop := relayLinksUptoRow.holds Try.pinned (OpenSpec.upto relayLinksSpec)

/-- 'boarderlaw06.RelayBack', WHERE WHAT IT READS IS OF BULK AT MOST 1048576: true; the input reads as it did. -/
def relayBackUptoRow : OpenClaim := { program := "ytfdlhfindcngeaa", sum := "fbf7cb774e4f96be5648d741325e4fadef2ebe7473e77844c958ecfa52342ffd", func := "boarder/boarderlaw06.RelayBack", spec := "relayBack", unfollowed := true, recurses := true, apart := false, narrowed := true }
def RelayBackUptoSaid : Prop := relayBackUptoRow.holds Try.pinned (OpenSpec.upto relayBackSpec)

/-- 'boarderlaw06.RelayAgain', WHERE WHAT IT READS IS OF BULK AT MOST 1048576: true; the input reads as it did. -/
def relayAgainUptoRow : OpenClaim := { program := "ytfdlhfindcngeaa", sum := "fbf7cb774e4f96be5648d741325e4fadef2ebe7473e77844c958ecfa52342ffd", func := "boarder/boarderlaw06.RelayAgain", spec := "relayAgain", unfollowed := true, recurses := true, apart := false, narrowed := true }
def RelayAgainUptoSaid : Prop := relayAgainUptoRow.holds Try.pinned (OpenSpec.upto relayAgainSpec)

/-- 'boarderlaw06.RelayFirst', WHERE WHAT IT READS IS OF BULK AT MOST 1048576: true; the input reads as it did. -/
def relayFirstUptoRow : OpenClaim := { program := "ytfdlhfindcngeaa", sum := "fbf7cb774e4f96be5648d741325e4fadef2ebe7473e77844c958ecfa52342ffd", func := "boarder/boarderlaw06.RelayFirst", spec := "relayFirst", unfollowed := true, recurses := true, apart := false, narrowed := true }
def RelayFirstUptoSaid : Prop := relayFirstUptoRow.holds Try.pinned (OpenSpec.upto relayFirstSpec)

end Rows
end Go.Proofs.Ytfdlhfindcngeaa
