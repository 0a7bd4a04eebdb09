/-
  NARROWER THAN 'FOR EVERY INPUT', by the rows' own cells (each row's printed sentence says how): KeyOf: laid · KeyTexts: laid · KeyParses: laid · KeyBack: laid · KeyHangs: laid.
  DERIVED. THE GIVEN ROWS OF THIS SEAT. 5 by the template 'for every input the law returns true; each argument reads behind the call as it read before'; 0 by the template 'total and deterministic' (their statements: YtgdomcjonlngaaaDoorTotals.lean).
  GIVEN WITH THE SEED: the statements are not yours to turn. If you find one false, say at which input.
  Laid BY PROGRAM, IN A SANDBOX (cutbox-rows.mjs): the forced cells as the released guide's own fill.sh prints them over the translation a8ebc8e94fb56e64… (all of the seat's roots in one cut). By AI agents, Wed Nov 11 2026. No macro, syntax, notation, axiom, sorry.
-/
import Derived.Test.YtgdomcjonlngaaaDoorChecked
import GoSem.Claim
import GoSem.ClaimJoined
import GoSem.ClaimMapViews
import Derived.JoinedTies
import Derived.KernelRfl
namespace Go.Proofs.YtgdomcjonlngaaaDoor
/- THE CELL 'sum', in the pinned program and in every row, IS THE sha256 OF THE DUMP (.gsa) THAT YtgdomcjonlngaaaDoorProg.lean LOADS. Nothing in Lean hashes anything: it is a label: what it is worth is what the hold of that sum in a sandbox is worth. -/
noncomputable def Tryd.pinned : Pinned := { name := "ytgdomcjonlngaaadoor", sum := "a8ebc8e94fb56e647870e6d4da0ee26405d24470dc49ed463d25f765ed644115", checked := Tryd.checked }
namespace Rows
def none {H : Type} : Left H := { results := [], args := [] }

/- WHAT THE LISTED PACKAGE-LEVEL VARIABLES READ AS WHEN THE CALL BEGINS. Each datum BY PROGRAM (the guide's laid-datum.mjs) off the statement by which the dump's own 'gosem.cut.vars' lays the variable. In a bare row this is a premise. The card (YtgdomcjonlngaaaDoorCards.lean) ties it to the program's text. -/
def laid_boarder_key_digits {H : Type} : DataW H := .agg [.lit (.int .u8 48), .lit (.int .u8 49), .lit (.int .u8 50), .lit (.int .u8 51), .lit (.int .u8 52), .lit (.int .u8 53), .lit (.int .u8 54), .lit (.int .u8 55), .lit (.int .u8 56), .lit (.int .u8 57), .lit (.int .u8 97), .lit (.int .u8 98), .lit (.int .u8 99), .lit (.int .u8 100), .lit (.int .u8 101), .lit (.int .u8 102)]

/-- 'boarderlaw07.KeyOf': WHATEVER THE INPUT: true; the input reads as it did. -/
def keyOfSpec : ChangeSpec := { name := "keyOf", fn := fun _ => fun
  | [d] => { results := [.lit (.bool true)], args := [d] }
  | _ => none }
def keyOfRow : OpenClaim := { program := "ytgdomcjonlngaaadoor", sum := "a8ebc8e94fb56e647870e6d4da0ee26405d24470dc49ed463d25f765ed644115", func := "boarder/boarderlaw07.KeyOf", spec := "keyOf", unfollowed := true, recurses := true, named := ["boarder/key.digits"], apart := false, laid := [("boarder/key.digits", laid_boarder_key_digits)] }
def KeyOfSaid : Prop := keyOfRow.holds Tryd.pinned (OpenSpec.ofChange keyOfSpec)

/-- ITS FALSE NEIGHBOUR: 'it returns false'. Refute it at one input. -/
def keyOfWrong : ChangeSpec := { name := "keyOf", fn := fun _ => fun
  | [d] => { results := [.lit (.bool false)], args := [d] }
  | _ => none }
def KeyOfWrongFalsely : Prop := keyOfRow.holds Tryd.pinned (OpenSpec.ofChange keyOfWrong)

/-- 'boarderlaw07.KeyTexts': WHATEVER THE INPUT: true; the input reads as it did. -/
def keyTextsSpec : ChangeSpec := { name := "keyTexts", fn := fun _ => fun
  | [d] => { results := [.lit (.bool true)], args := [d] }
  | _ => none }
def keyTextsRow : OpenClaim := { program := "ytgdomcjonlngaaadoor", sum := "a8ebc8e94fb56e647870e6d4da0ee26405d24470dc49ed463d25f765ed644115", func := "boarder/boarderlaw07.KeyTexts", spec := "keyTexts", unfollowed := true, recurses := true, named := ["boarder/key.digits"], apart := false, laid := [("boarder/key.digits", laid_boarder_key_digits)] }
def KeyTextsSaid : Prop := keyTextsRow.holds Tryd.pinned (OpenSpec.ofChange keyTextsSpec)

/-- ITS FALSE NEIGHBOUR: 'it returns false'. Refute it at one input. -/
def keyTextsWrong : ChangeSpec := { name := "keyTexts", fn := fun _ => fun
  | [d] => { results := [.lit (.bool false)], args := [d] }
  | _ => none }
def KeyTextsWrongFalsely : Prop := keyTextsRow.holds Tryd.pinned (OpenSpec.ofChange keyTextsWrong)

/-- 'boarderlaw07.KeyParses': WHATEVER THE INPUT: true; the input reads as it did. -/
def keyParsesSpec : ChangeSpec := { name := "keyParses", fn := fun _ => fun
  | [d] => { results := [.lit (.bool true)], args := [d] }
  | _ => none }
def keyParsesRow : OpenClaim := { program := "ytgdomcjonlngaaadoor", sum := "a8ebc8e94fb56e647870e6d4da0ee26405d24470dc49ed463d25f765ed644115", func := "boarder/boarderlaw07.KeyParses", spec := "keyParses", unfollowed := true, recurses := true, named := ["boarder/key.digits"], apart := false, laid := [("boarder/key.digits", laid_boarder_key_digits)] }
def KeyParsesSaid : Prop := keyParsesRow.holds Tryd.pinned (OpenSpec.ofChange keyParsesSpec)

/-- ITS FALSE NEIGHBOUR: 'it returns false'. Refute it at one input. -/
def keyParsesWrong : ChangeSpec := { name := "keyParses", fn := fun _ => fun
  | [d] => { results := [.lit (.bool false)], args := [d] }
  | _ => none }
def KeyParsesWrongFalsely : Prop := keyParsesRow.holds Tryd.pinned (OpenSpec.ofChange keyParsesWrong)

/-- 'boarderlaw07.KeyBack': WHATEVER THE INPUT: true; the input reads as it did. -/
def keyBackSpec : ChangeSpec := { name := "keyBack", fn := fun _ => fun
  | [d1, d2] => { results := [.lit (.bool true)], args := [d1, d2] }
  | _ => none }
def keyBackRow : OpenClaim := { program := "ytgdomcjonlngaaadoor", sum := "a8ebc8e94fb56e647870e6d4da0ee26405d24470dc49ed463d25f765ed644115", func := "boarder/boarderlaw07.KeyBack", spec := "keyBack", unfollowed := true, recurses := true, named := ["boarder/key.digits"], apart := false, laid := [("boarder/key.digits", laid_boarder_key_digits)] }
def KeyBackSaid : Prop := keyBackRow.holds Tryd.pinned (OpenSpec.ofChange keyBackSpec)

/-- ITS FALSE NEIGHBOUR: 'it returns false'. Refute it at one input. -/
def keyBackWrong : ChangeSpec := { name := "keyBack", fn := fun _ => fun
  | [d1, d2] => { results := [.lit (.bool false)], args := [d1, d2] }
  | _ => none }
def KeyBackWrongFalsely : Prop := keyBackRow.holds Tryd.pinned (OpenSpec.ofChange keyBackWrong)

/-- 'boarderlaw07.KeyHangs': WHATEVER THE INPUT: true; the input reads as it did. -/
def keyHangsSpec : ChangeSpec := { name := "keyHangs", fn := fun _ => fun
  | [d1, d2] => { results := [.lit (.bool true)], args := [d1, d2] }
  | _ => none }
def keyHangsRow : OpenClaim := { program := "ytgdomcjonlngaaadoor", sum := "a8ebc8e94fb56e647870e6d4da0ee26405d24470dc49ed463d25f765ed644115", func := "boarder/boarderlaw07.KeyHangs", spec := "keyHangs", unfollowed := true, recurses := true, named := ["boarder/key.digits"], apart := false, laid := [("boarder/key.digits", laid_boarder_key_digits)] }
def KeyHangsSaid : Prop := keyHangsRow.holds Tryd.pinned (OpenSpec.ofChange keyHangsSpec)

/-- ITS FALSE NEIGHBOUR: 'it returns false'. Refute it at one input. -/
def keyHangsWrong : ChangeSpec := { name := "keyHangs", fn := fun _ => fun
  | [d1, d2] => { results := [.lit (.bool false)], args := [d1, d2] }
  | _ => none }
def KeyHangsWrongFalsely : Prop := keyHangsRow.holds Tryd.pinned (OpenSpec.ofChange keyHangsWrong)

/- THE SECOND FORM. 'bulk': how many values and letters a reading holds, each counted each time it is reached (what is shared counts as often as it is met; a slice's spare places count too). A statement '..UptoSaid' is the law's where the arguments, and the package variables that the reading takes, are together of bulk at most 1048576: NARROWER than '..Said'. Prove '..Said' where nothing that the law and all that it calls make is longer than what came in: it says more and counts as full. Else prove '..UptoSaid'. A law counts once. -/
mutual
def uptoBulk {H : Type} : DataW H → Nat
  | .lit (.string bytes) => bytes.length + 1
  | .lit _ => 1
  | .nil => 1
  | .ptr d => uptoBulk d + 1
  | .slice elems spare => uptoBulkAll elems + uptoBulkAll spare + 1
  | .agg parts => uptoBulkAll parts + 1
  | .iface _ d => uptoBulk d + 1
  | .map entries => uptoBulkEntries entries + 1
  | .held _ => 1
def uptoBulkAll {H : Type} : List (DataW H) → Nat
  | [] => 0
  | d :: r => uptoBulk d + uptoBulkAll r
def uptoBulkEntries {H : Type} : List (Lit × DataW H) → Nat
  | [] => 0
  | x :: r => uptoBulkEntry x + uptoBulkEntries r
def uptoBulkEntry {H : Type} : Lit × DataW H → Nat
  | (.string bytes, d) => bytes.length + uptoBulk d + 1
  | (_, d) => uptoBulk d + 1
 end
def uptoSmall : (H : Type) → List (DataW H) → Bool := fun _ ds => decide (uptoBulkAll ds ≤ 1048576)
def OpenSpec.upto (s : _root_.Go.ChangeSpec) : _root_.Go.OpenSpec := { _root_.Go.OpenSpec.ofChange s with cond := some uptoSmall }

/-- 'boarderlaw07.KeyOf', WHERE WHAT IT READS IS OF BULK AT MOST 1048576: true; the input reads as it did. -/
def keyOfUptoRow : OpenClaim := { program := "ytgdomcjonlngaaadoor", sum := "a8ebc8e94fb56e647870e6d4da0ee26405d24470dc49ed463d25f765ed644115", func := "boarder/boarderlaw07.KeyOf", spec := "keyOf", unfollowed := true, recurses := true, named := ["boarder/key.digits"], apart := false, laid := [("boarder/key.digits", laid_boarder_key_digits)], narrowed := true }
def KeyOfUptoSaid : Prop := keyOfUptoRow.holds Tryd.pinned (OpenSpec.upto keyOfSpec)

/-- 'boarderlaw07.KeyTexts', WHERE WHAT IT READS IS OF BULK AT MOST 1048576: true; the input reads as it did. -/
def keyTextsUptoRow : OpenClaim := { program := "ytgdomcjonlngaaadoor", sum := "a8ebc8e94fb56e647870e6d4da0ee26405d24470dc49ed463d25f765ed644115", func := "boarder/boarderlaw07.KeyTexts", spec := "keyTexts", unfollowed := true, recurses := true, named := ["boarder/key.digits"], apart := false, laid := [("boarder/key.digits", laid_boarder_key_digits)], narrowed := true }
def KeyTextsUptoSaid : Prop := keyTextsUptoRow.holds Tryd.pinned (OpenSpec.upto keyTextsSpec)

/-- 'boarderlaw07.KeyParses', WHERE WHAT IT READS IS OF BULK AT MOST 1048576: true; the input reads as it did. -/
def keyParsesUptoRow : OpenClaim := { program := "ytgdomcjonlngaaadoor", sum := "a8ebc8e94fb56e647870e6d4da0ee26405d24470dc49ed463d25f765ed644115", func := "boarder/boarderlaw07.KeyParses", spec := "keyParses", unfollowed := true, recurses := true, named := ["boarder/key.digits"], apart := false, laid := [("boarder/key.digits", laid_boarder_key_digits)], narrowed := true }
def KeyParsesUptoSaid : Prop := keyParsesUptoRow.holds Tryd.pinned (OpenSpec.upto keyParsesSpec)

/-- 'boarderlaw07.KeyBack', WHERE WHAT IT READS IS OF BULK AT MOST 1048576: true; the input reads as it did. -/
def keyBackUptoRow : OpenClaim := { program := "ytgdomcjonlngaaadoor", sum := "a8ebc8e94fb56e647870e6d4da0ee26405d24470dc49ed463d25f765ed644115", func := "boarder/boarderlaw07.KeyBack", spec := "keyBack", unfollowed := true, recurses := true, named := ["boarder/key.digits"], apart := false, laid := [("boarder/key.digits", laid_boarder_key_digits)], narrowed := true }
def KeyBackUptoSaid : Prop := keyBackUptoRow.holds Tryd.pinned (OpenSpec.upto keyBackSpec)

/-- 'boarderlaw07.KeyHangs', WHERE WHAT IT READS IS OF BULK AT MOST 1048576: true; the input reads as it did. -/
def keyHangsUptoRow : OpenClaim := { program := "ytgdomcjonlngaaadoor", sum := "a8ebc8e94fb56e647870e6d4da0ee26405d24470dc49ed463d25f765ed644115", func := "boarder/boarderlaw07.KeyHangs", spec := "keyHangs", unfollowed := true, recurses := true, named := ["boarder/key.digits"], apart := false, laid := [("boarder/key.digits", laid_boarder_key_digits)], narrowed := true }
def KeyHangsUptoSaid : Prop := keyHangsUptoRow.holds Tryd.pinned (OpenSpec.upto keyHangsSpec)

end Rows
end Go.Proofs.YtgdomcjonlngaaaDoor
