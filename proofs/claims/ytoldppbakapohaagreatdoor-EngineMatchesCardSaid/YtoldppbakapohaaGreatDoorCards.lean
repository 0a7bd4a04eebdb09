/-
  DERIVED. GIVEN WITH THE SEED: THE CARDS: each row of YtoldppbakapohaaGreatDoorRows.lean that lists a variable, with what it lists TIED to the program's text (the seventh form; the later family's looks); each row that meets fmt, with fmt's text TOLD by the authors' own Lean function (tested against real Go, not proved from fmt's source: count such statements apart). THE CARD IS WHAT COUNTS. Prove the row's statement (the work); the ties are given (YtoldppbakapohaaGreatDoorTie.lean); close each card by the builder's one call (the guide's Derived/Test/ToyasCard.lean, 'card_holds'). Laid BY PROGRAM, IN A SANDBOX (cutbox-door.mjs). By AI agents, Wed Nov 11 2026. No macro, syntax, notation, axiom, sorry.
-/
import Derived.Test.YtoldppbakapohaaGreatDoorRows
import GoSem.ClaimSeven
namespace Go.Proofs.YtoldppbakapohaaGreatDoor
namespace Rows

/-- THE TIED CARD OF 'boarderlaw19.EngineHandles'. -/
def engineHandlesCard : Claim7 := { stood := { row := engineHandlesRow, standIns := [], harness := (true, "55984db50e9c7edec20c39df145e14923351ef58bc25bfbd21fcfa1c6ecbb6aa"), looks := true }, kinds := [], alts := [], laidByText := true, laidKinds := [.handle, .sentinel, .sentinel, .sentinel, .data], laidTests := true, laidLooks := .later }
def EngineHandlesCardSaid : Prop := Claim7.holds Tryz.pinned (.plain (OpenSpec.ofChange engineHandlesSpec)) engineHandlesCard

/-- THE TIED CARD OF 'boarderlaw19.EngineGives'. -/
def engineGivesCard : Claim7 := { stood := { row := engineGivesRow, standIns := [], harness := (true, "55984db50e9c7edec20c39df145e14923351ef58bc25bfbd21fcfa1c6ecbb6aa"), looks := true }, kinds := [], alts := [], laidByText := true, laidKinds := [.handle, .sentinel, .sentinel, .sentinel, .data], laidTests := true, laidLooks := .later }
def EngineGivesCardSaid : Prop := Claim7.holds Tryz.pinned (.plain (OpenSpec.ofChange engineGivesSpec)) engineGivesCard

/-- THE TIED CARD OF 'boarderlaw19.EngineKeeps'. -/
def engineKeepsCard : Claim7 := { stood := { row := engineKeepsRow, standIns := [], harness := (true, "55984db50e9c7edec20c39df145e14923351ef58bc25bfbd21fcfa1c6ecbb6aa"), looks := true }, kinds := [], alts := [], laidByText := true, laidKinds := [.handle, .sentinel, .sentinel, .sentinel, .data], laidTests := true, laidLooks := .later }
def EngineKeepsCardSaid : Prop := Claim7.holds Tryz.pinned (.plain (OpenSpec.ofChange engineKeepsSpec)) engineKeepsCard

/-- THE TIED CARD OF 'boarderlaw19.EngineNaks'. -/
def engineNaksCard : Claim7 := { stood := { row := engineNaksRow, standIns := [], harness := (true, "55984db50e9c7edec20c39df145e14923351ef58bc25bfbd21fcfa1c6ecbb6aa"), looks := true }, kinds := [], alts := [], laidByText := true, laidKinds := [.handle, .sentinel, .sentinel, .sentinel, .data], laidTests := true, laidLooks := .later }
def EngineNaksCardSaid : Prop := Claim7.holds Tryz.pinned (.plain (OpenSpec.ofChange engineNaksSpec)) engineNaksCard

/-- THE TIED CARD OF 'boarderlaw19.EngineMatches'. -/
def engineMatchesCard : Claim7 := { stood := { row := engineMatchesRow, standIns := [], harness := (true, "55984db50e9c7edec20c39df145e14923351ef58bc25bfbd21fcfa1c6ecbb6aa"), looks := true }, kinds := [], alts := [], laidByText := true, laidKinds := [.handle, .sentinel, .sentinel, .sentinel, .data], laidTests := true, laidLooks := .later }
def EngineMatchesCardSaid : Prop := Claim7.holds Tryz.pinned (.plain (OpenSpec.ofChange engineMatchesSpec)) engineMatchesCard

/-- THE TIED CARD OF 'boarderlaw19.EngineFits'. -/
def engineFitsCard : Claim7 := { stood := { row := engineFitsRow, standIns := [], harness := (true, "55984db50e9c7edec20c39df145e14923351ef58bc25bfbd21fcfa1c6ecbb6aa"), looks := true }, kinds := [], alts := [], laidByText := true, laidKinds := [.handle, .sentinel, .sentinel, .sentinel, .data], laidTests := true, laidLooks := .later }
def EngineFitsCardSaid : Prop := Claim7.holds Tryz.pinned (.plain (OpenSpec.ofChange engineFitsSpec)) engineFitsCard

/-- THE SECOND FORM's CARD OF 'boarderlaw19.EngineHandles'. -/
def engineHandlesUptoCard : Claim7 := { stood := { row := engineHandlesUptoRow, standIns := [], harness := (true, "55984db50e9c7edec20c39df145e14923351ef58bc25bfbd21fcfa1c6ecbb6aa"), looks := true }, kinds := [], alts := [], laidByText := true, laidKinds := [.handle, .sentinel, .sentinel, .sentinel, .data], laidTests := true, laidLooks := .later }
def EngineHandlesUptoCardSaid : Prop := Claim7.holds Tryz.pinned (.plain (OpenSpec.upto engineHandlesSpec)) engineHandlesUptoCard

/-- THE SECOND FORM's CARD OF 'boarderlaw19.EngineGives'. -/
def engineGivesUptoCard : Claim7 := { stood := { row := engineGivesUptoRow, standIns := [], harness := (true, "55984db50e9c7edec20c39df145e14923351ef58bc25bfbd21fcfa1c6ecbb6aa"), looks := true }, kinds := [], alts := [], laidByText := true, laidKinds := [.handle, .sentinel, .sentinel, .sentinel, .data], laidTests := true, laidLooks := .later }
def EngineGivesUptoCardSaid : Prop := Claim7.holds Tryz.pinned (.plain (OpenSpec.upto engineGivesSpec)) engineGivesUptoCard

/-- THE SECOND FORM's CARD OF 'boarderlaw19.EngineKeeps'. -/
def engineKeepsUptoCard : Claim7 := { stood := { row := engineKeepsUptoRow, standIns := [], harness := (true, "55984db50e9c7edec20c39df145e14923351ef58bc25bfbd21fcfa1c6ecbb6aa"), looks := true }, kinds := [], alts := [], laidByText := true, laidKinds := [.handle, .sentinel, .sentinel, .sentinel, .data], laidTests := true, laidLooks := .later }
def EngineKeepsUptoCardSaid : Prop := Claim7.holds Tryz.pinned (.plain (OpenSpec.upto engineKeepsSpec)) engineKeepsUptoCard

/-- THE SECOND FORM's CARD OF 'boarderlaw19.EngineNaks'. -/
def engineNaksUptoCard : Claim7 := { stood := { row := engineNaksUptoRow, standIns := [], harness := (true, "55984db50e9c7edec20c39df145e14923351ef58bc25bfbd21fcfa1c6ecbb6aa"), looks := true }, kinds := [], alts := [], laidByText := true, laidKinds := [.handle, .sentinel, .sentinel, .sentinel, .data], laidTests := true, laidLooks := .later }
def EngineNaksUptoCardSaid : Prop := Claim7.holds Tryz.pinned (.plain (OpenSpec.upto engineNaksSpec)) engineNaksUptoCard

/-- THE SECOND FORM's CARD OF 'boarderlaw19.EngineMatches'. -/
def engineMatchesUptoCard : Claim7 := { stood := { row := engineMatchesUptoRow, standIns := [], harness := (true, "55984db50e9c7edec20c39df145e14923351ef58bc25bfbd21fcfa1c6ecbb6aa"), looks := true }, kinds := [], alts := [], laidByText := true, laidKinds := [.handle, .sentinel, .sentinel, .sentinel, .data], laidTests := true, laidLooks := .later }
def EngineMatchesUptoCardSaid : Prop := Claim7.holds Tryz.pinned (.plain (OpenSpec.upto engineMatchesSpec)) engineMatchesUptoCard

/-- THE SECOND FORM's CARD OF 'boarderlaw19.EngineFits'. -/
def engineFitsUptoCard : Claim7 := { stood := { row := engineFitsUptoRow, standIns := [], harness := (true, "55984db50e9c7edec20c39df145e14923351ef58bc25bfbd21fcfa1c6ecbb6aa"), looks := true }, kinds := [], alts := [], laidByText := true, laidKinds := [.handle, .sentinel, .sentinel, .sentinel, .data], laidTests := true, laidLooks := .later }
def EngineFitsUptoCardSaid : Prop := Claim7.holds Tryz.pinned (.plain (OpenSpec.upto engineFitsSpec)) engineFitsUptoCard
end Rows
end Go.Proofs.YtoldppbakapohaaGreatDoor
