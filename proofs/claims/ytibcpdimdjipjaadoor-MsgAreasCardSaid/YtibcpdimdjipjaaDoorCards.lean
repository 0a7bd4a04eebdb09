/-
  DERIVED. GIVEN WITH THE SEED: THE CARDS: each row of YtibcpdimdjipjaaDoorRows.lean that lists a variable, with what it lists TIED to the program's text (the seventh form; the later family's looks); each row that meets fmt, with fmt's text TOLD by the authors' own Lean function (tested against real Go, not proved from fmt's source: count such statements apart). THE CARD IS WHAT COUNTS. Prove the row's statement (the work); the ties are given (YtibcpdimdjipjaaDoorTie.lean); close each card by the builder's one call (the guide's Derived/Test/ToyasCard.lean, 'card_holds'). Laid BY PROGRAM, IN A SANDBOX (cutbox-door.mjs). By AI agents, Wed Nov 11 2026. No macro, syntax, notation, axiom, sorry.
-/
import Derived.Test.YtibcpdimdjipjaaDoorRows
import GoSem.ClaimSeven
namespace Go.Proofs.YtibcpdimdjipjaaDoor
namespace Rows

/-- THE TIED CARD OF 'boarderlaw04.MsgWrites'. -/
def msgWritesCard : Claim7 := { stood := { row := msgWritesRow, standIns := [], harness := (true, "912ef06d57a1e66a13e10afe9b2b37154538699533d71a2696bdae4d076aec8c"), looks := true }, kinds := [], alts := [], laidByText := true, laidKinds := [.handle, .sentinel, .sentinel, .sentinel, .sentinel, .data], laidTests := true, laidLooks := .later }
def MsgWritesCardSaid : Prop := Claim7.holds Tryd.pinned (.plain (OpenSpec.ofChange msgWritesSpec)) msgWritesCard

/-- THE TIED CARD OF 'boarderlaw04.MsgReads'. -/
def msgReadsCard : Claim7 := { stood := { row := msgReadsRow, standIns := [], harness := (true, "912ef06d57a1e66a13e10afe9b2b37154538699533d71a2696bdae4d076aec8c"), looks := true }, kinds := [], alts := [], laidByText := true, laidKinds := [.handle, .sentinel, .sentinel, .sentinel, .sentinel, .data], laidTests := true, laidLooks := .later }
def MsgReadsCardSaid : Prop := Claim7.holds Tryd.pinned (.plain (OpenSpec.ofChange msgReadsSpec)) msgReadsCard

/-- THE TIED CARD OF 'boarderlaw04.MsgAreas'. -/
def msgAreasCard : Claim7 := { stood := { row := msgAreasRow, standIns := [], harness := (true, "912ef06d57a1e66a13e10afe9b2b37154538699533d71a2696bdae4d076aec8c"), looks := true }, kinds := [], alts := [], laidByText := true, laidKinds := [.handle, .sentinel, .sentinel, .sentinel, .sentinel, .data], laidTests := true, laidLooks := .later }
def MsgAreasCardSaid : Prop := Claim7.holds Tryd.pinned (.plain (OpenSpec.ofChange msgAreasSpec)) msgAreasCard

/-- THE SECOND FORM's CARD OF 'boarderlaw04.MsgWrites'. -/
def msgWritesUptoCard : Claim7 := { stood := { row := msgWritesUptoRow, standIns := [], harness := (true, "912ef06d57a1e66a13e10afe9b2b37154538699533d71a2696bdae4d076aec8c"), looks := true }, kinds := [], alts := [], laidByText := true, laidKinds := [.handle, .sentinel, .sentinel, .sentinel, .sentinel, .data], laidTests := true, laidLooks := .later }
def MsgWritesUptoCardSaid : Prop := Claim7.holds Tryd.pinned (.plain (OpenSpec.upto msgWritesSpec)) msgWritesUptoCard

/-- THE SECOND FORM's CARD OF 'boarderlaw04.MsgReads'. -/
def msgReadsUptoCard : Claim7 := { stood := { row := msgReadsUptoRow, standIns := [], harness := (true, "912ef06d57a1e66a13e10afe9b2b37154538699533d71a2696bdae4d076aec8c"), looks := true }, kinds := [], alts := [], laidByText := true, laidKinds := [.handle, .sentinel, .sentinel, .sentinel, .sentinel, .data], laidTests := true, laidLooks := .later }
def MsgReadsUptoCardSaid : Prop := Claim7.holds Tryd.pinned (.plain (OpenSpec.upto msgReadsSpec)) msgReadsUptoCard

/-- THE SECOND FORM's CARD OF 'boarderlaw04.MsgAreas'. -/
def msgAreasUptoCard : Claim7 := { stood := { row := msgAreasUptoRow, standIns := [], harness := (true, "912ef06d57a1e66a13e10afe9b2b37154538699533d71a2696bdae4d076aec8c"), looks := true }, kinds := [], alts := [], laidByText := true, laidKinds := [.handle, .sentinel, .sentinel, .sentinel, .sentinel, .data], laidTests := true, laidLooks := .later }
def MsgAreasUptoCardSaid : Prop := Claim7.holds Tryd.pinned (.plain (OpenSpec.upto msgAreasSpec)) msgAreasUptoCard
end Rows
end Go.Proofs.YtibcpdimdjipjaaDoor
