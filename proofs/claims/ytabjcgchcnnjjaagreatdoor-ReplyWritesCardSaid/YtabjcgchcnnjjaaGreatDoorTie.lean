/-
  DERIVED. GIVEN WITH THE SEED: THE PROGRAM's TIES (one call each: nine closed facts by the kernel) AND EACH ROW's TIE, after the 31st guide's Derived/Test/Toyas{Tie, Card}.lean. No idea stands in it: it is a product of the set-up. Laid BY PROGRAM, IN A SANDBOX (cutbox-door.mjs). By AI agents, Wed Nov 11 2026. No macro, syntax, notation, axiom, sorry.
-/
import Derived.Test.YtabjcgchcnnjjaaGreatDoorRows
import Derived.LaidByTextLater
import Derived.SevenTiedAt
import Derived.LaidSub
import Derived.LaidOnce
namespace Go.Proofs.YtabjcgchcnnjjaaGreatDoor
open Go
set_option maxRecDepth 100000
theorem seatTie1 : Tryz.prog.laidByTextLater [("errors.errorType", Rows.laid_errors_errorType), ("boarder/msg.errInvalid", Rows.laid_boarder_msg_errInvalid), ("boarder/msg.errShort", Rows.laid_boarder_msg_errShort), ("boarder/msg.errLong", Rows.laid_boarder_msg_errLong), ("boarder/msg.errForm", Rows.laid_boarder_msg_errForm), ("boarder/msg.widths", Rows.laid_boarder_msg_widths)] [.handle, .sentinel, .sentinel, .sentinel, .sentinel, .data] true :=
  Program.laidByTextLater_by_one 97 8 12 (by kernel_rfl) (by kernel_rfl) (by kernel_rfl) (by kernel_rfl) (by kernel_rfl) (by kernel_rfl) (fun _ _ => by kernel_rfl)
theorem noOwnUnsafe : Tryz.pinned.checked.prog.headLifts.contains "ownunsafe" = false := by kernel_rfl
theorem tie : Tryz.prog.laidByTextLater [("errors.errorType", Rows.laid_errors_errorType), ("boarder/msg.errInvalid", Rows.laid_boarder_msg_errInvalid), ("boarder/msg.errShort", Rows.laid_boarder_msg_errShort), ("boarder/msg.errLong", Rows.laid_boarder_msg_errLong), ("boarder/msg.errForm", Rows.laid_boarder_msg_errForm), ("boarder/msg.widths", Rows.laid_boarder_msg_widths)] [.handle, .sentinel, .sentinel, .sentinel, .sentinel, .data] true :=
  Program.laidByTextLater.sub seatTie1 ["errors.errorType", "boarder/msg.errInvalid", "boarder/msg.errShort", "boarder/msg.errLong", "boarder/msg.errForm", "boarder/msg.widths"] (by kernel_rfl) (by kernel_rfl)
theorem replyWrites_row_tie : Rows.replyWritesRow.laidByTextAt .later Tryz.pinned [.handle, .sentinel, .sentinel, .sentinel, .sentinel, .data] true :=
  OpenClaim.laidByTextAt_later rfl rfl tie noOwnUnsafe
theorem replyWritesUpto_row_tie : Rows.replyWritesUptoRow.laidByTextAt .later Tryz.pinned [.handle, .sentinel, .sentinel, .sentinel, .sentinel, .data] true :=
  OpenClaim.laidByTextAt_later rfl rfl tie noOwnUnsafe
end Go.Proofs.YtabjcgchcnnjjaaGreatDoor
