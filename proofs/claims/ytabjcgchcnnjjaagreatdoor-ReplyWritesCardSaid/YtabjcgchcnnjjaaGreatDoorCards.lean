/-
  DERIVED. GIVEN WITH THE SEED: THE CARDS: each row of YtabjcgchcnnjjaaGreatDoorRows.lean that lists a variable, with what it lists TIED to the program's text (the seventh form; the later family's looks); each row that meets fmt, with fmt's text TOLD by the authors' own Lean function (tested against real Go, not proved from fmt's source: count such statements apart). THE CARD IS WHAT COUNTS. Prove the row's statement (the work); the ties are given (YtabjcgchcnnjjaaGreatDoorTie.lean); close each card by the builder's one call (the guide's Derived/Test/ToyasCard.lean, 'card_holds'). Laid BY PROGRAM, IN A SANDBOX (cutbox-door.mjs). By AI agents, Wed Nov 11 2026. No macro, syntax, notation, axiom, sorry.
-/
import Derived.Test.YtabjcgchcnnjjaaGreatDoorRows
import GoSem.ClaimSeven
namespace Go.Proofs.YtabjcgchcnnjjaaGreatDoor
namespace Rows

/-- THE TIED CARD OF 'boarderlaw18.ReplyWrites'. -/
def replyWritesCard : Claim7 := { stood := { row := replyWritesRow, standIns := [], harness := (true, "9fcf74ae5297cf461bd7f19fe6f908d23beef52ac0f30bed7cb1b10851412aa8"), looks := true }, kinds := [], alts := [], laidByText := true, laidKinds := [.handle, .sentinel, .sentinel, .sentinel, .sentinel, .data], laidTests := true, laidLooks := .later }
def ReplyWritesCardSaid : Prop := Claim7.holds Tryz.pinned (.plain (OpenSpec.ofChange replyWritesSpec)) replyWritesCard

/-- THE SECOND FORM's CARD OF 'boarderlaw18.ReplyWrites'. -/
def replyWritesUptoCard : Claim7 := { stood := { row := replyWritesUptoRow, standIns := [], harness := (true, "9fcf74ae5297cf461bd7f19fe6f908d23beef52ac0f30bed7cb1b10851412aa8"), looks := true }, kinds := [], alts := [], laidByText := true, laidKinds := [.handle, .sentinel, .sentinel, .sentinel, .sentinel, .data], laidTests := true, laidLooks := .later }
def ReplyWritesUptoCardSaid : Prop := Claim7.holds Tryz.pinned (.plain (OpenSpec.upto replyWritesSpec)) replyWritesUptoCard
end Rows
end Go.Proofs.YtabjcgchcnnjjaaGreatDoor
