/-
  No cell of these rows narrows 'for every input' (looked for: loops, veiled, ifaces, maps, wideKeys, modest, calm, conditions, laid).
  DERIVED. THE GIVEN ROWS OF THIS SEAT. 3 by the template 'for every input the law returns true; each argument reads behind the call as it read before'; 0 by the template 'total and deterministic' (their statements: YtoobijefjljnjaaTotals.lean).
  GIVEN WITH THE SEED: the statements are not yours to turn. If you find one false, say at which input.
  Laid BY PROGRAM, IN A SANDBOX (cutbox-rows.mjs): the forced cells as the released guide's own fill.sh prints them over the translation 84d5f9bdbbb351b1… (all of the seat's roots in one cut). By AI agents, Wed Nov 11 2026. No macro, syntax, notation, axiom, sorry.
-/
import Derived.Test.YtoobijefjljnjaaChecked
import GoSem.Claim
import GoSem.ClaimJoined
import GoSem.ClaimMapViews
import Derived.JoinedTies
import Derived.KernelRfl
namespace Go.Proofs.Ytoobijefjljnjaa
/- THE CELL 'sum', in the pinned program and in every row, IS THE sha256 OF THE DUMP (.gsa) THAT YtoobijefjljnjaaProg.lean LOADS. Nothing in Lean hashes anything: it is a label: what it is worth is what the hold of that sum in a sandbox is worth. -/
noncomputable def Try.pinned : Pinned := { name := "ytoobijefjljnjaa", sum := "84d5f9bdbbb351b10e3f1de3b4f05c042933272d4ec10884fa0ac1879491afff", checked := Try.checked }
namespace Rows
def none {H : Type} : Left H := { results := [], args := [] }

/-- 'boarderlaw17.DestOf': WHATEVER THE INPUT: true; the input reads as it did. -/
def destOfSpec : ChangeSpec := { name := "destOf", fn := fun _ => fun
  | [d1, d2, d3] => { results := [.lit (.bool true)], args := [d1, d2, d3] }
  | _ => none }
def destOfRow : OpenClaim := { program := "ytoobijefjljnjaa", sum := "84d5f9bdbbb351b10e3f1de3b4f05c042933272d4ec10884fa0ac1879491afff", func := "boarder/boarderlaw17.DestOf", spec := "destOf", apart := false }
def DestOfSaid : Prop := destOfRow.holds Try.pinned (OpenSpec.ofChange destOfSpec)

/-- ITS FALSE NEIGHBOUR: 'it returns false'. Refute it at one input. -/
def destOfWrong : ChangeSpec := { name := "destOf", fn := fun _ => fun
  | [d1, d2, d3] => { results := [.lit (.bool false)], args := [d1, d2, d3] }
  | _ => none }
def DestOfWrongFalsely : Prop := destOfRow.holds Try.pinned (OpenSpec.ofChange destOfWrong)

/-- 'boarderlaw17.DestRelay': WHATEVER THE INPUT: true; the input reads as it did. -/
def destRelaySpec : ChangeSpec := { name := "destRelay", fn := fun _ => fun
  | [d1, d2, d3, d4] => { results := [.lit (.bool true)], args := [d1, d2, d3, d4] }
  | _ => none }
def destRelayRow : OpenClaim := { program := "ytoobijefjljnjaa", sum := "84d5f9bdbbb351b10e3f1de3b4f05c042933272d4ec10884fa0ac1879491afff", func := "boarder/boarderlaw17.DestRelay", spec := "destRelay", apart := false }
def DestRelaySaid : Prop := destRelayRow.holds Try.pinned (OpenSpec.ofChange destRelaySpec)

/-- ITS FALSE NEIGHBOUR: 'it returns false'. Refute it at one input. -/
def destRelayWrong : ChangeSpec := { name := "destRelay", fn := fun _ => fun
  | [d1, d2, d3, d4] => { results := [.lit (.bool false)], args := [d1, d2, d3, d4] }
  | _ => none }
def DestRelayWrongFalsely : Prop := destRelayRow.holds Try.pinned (OpenSpec.ofChange destRelayWrong)

/-- 'boarderlaw17.DestRaw': WHATEVER THE INPUT: true; the input reads as it did. -/
def destRawSpec : ChangeSpec := { name := "destRaw", fn := fun _ => fun
  | [d1, d2, d3] => { results := [.lit (.bool true)], args := [d1, d2, d3] }
  | _ => none }
def destRawRow : OpenClaim := { program := "ytoobijefjljnjaa", sum := "84d5f9bdbbb351b10e3f1de3b4f05c042933272d4ec10884fa0ac1879491afff", func := "boarder/boarderlaw17.DestRaw", spec := "destRaw", apart := false }
def DestRawSaid : Prop := destRawRow.holds Try.pinned (OpenSpec.ofChange destRawSpec)

/-- ITS FALSE NEIGHBOUR: 'it returns false'. Refute it at one input. -/
def destRawWrong : ChangeSpec := { name := "destRaw", fn := fun _ => fun
  | [d1, d2, d3] => { results := [.lit (.bool false)], args := [d1, d2, d3] }
  | _ => none }
def DestRawWrongFalsely : Prop := destRawRow.holds Try.pinned (OpenSpec.ofChange destRawWrong)

/- THE SECOND FORM. 'bulk': how many values and letters a reading holds, each counted each time it is reached (what is shared counts as often as it is met; a slice's spare places count too). A statement '..UptoSaid' is the law's where the arguments, and the package variables that the reading takes, are together of bulk at most 1048576: NARROWER than '..Said'. Prove '..Said' where nothing that the law and all that it calls make is longer than what came in: it says more and counts as full. Else prove '..UptoSaid'. A law counts once. -/
mutual
def uptoBulk {H : Type} : DataW H → Nat
  | .lit (.string bytes) => bytes.length + 1
  | .lit _ => 1
  | .nil => 1
  | .ptr d => uptoBulk d + 1
  | .slice elems spare => uptoBulkAll elems + uptoBulkAll spare + 1
  | .agg parts => uptoBulkAll parts + 1
  | .iface _ d => uptoBulk d + 1
  | .map entries => uptoBulkEntries entries + 1
  | .held _ => 1
def uptoBulkAll {H : Type} : List (DataW H) → Nat
  | [] => 0
  | d :: r => uptoBulk d + uptoBulkAll r
def uptoBulkEntries {H : Type} : List (Lit × DataW H) → Nat
  | [] => 0
  | x :: r => uptoBulkEntry x + uptoBulkEntries r
def uptoBulkEntry {H : Type} : Lit × DataW H → Nat
  | (.string bytes, d) => bytes.length + uptoBulk d + 1
  | (_, d) => uptoBulk d + 1
 end
def uptoSmall : (H : Type) → List (DataW H) → Bool := fun _ ds => decide (uptoBulkAll ds ≤ 1048576)
def OpenSpec.upto (s : _root_.Go.ChangeSpec) : _root_.Go.OpenSpec := { _root_.Go.OpenSpec.ofChange s with cond := some uptoSmall }

/-- 'boarderlaw17.DestOf', WHERE WHAT IT READS IS OF BULK AT MOST 1048576: true; the input reads as it did. -/
def destOfUptoRow : OpenClaim := { program := "ytoobijefjljnjaa", sum := "84d5f9bdbbb351b10e3f1de3b4f05c042933272d4ec10884fa0ac1879491afff", func := "boarder/boarderlaw17.DestOf", spec := "destOf", apart := false, narrowed := true }
def DestOfUptoSaid : Prop := destOfUptoRow.holds Try.pinned (OpenSpec.upto destOfSpec)

/-- 'boarderlaw17.DestRelay', WHERE WHAT IT READS IS OF BULK AT MOST 1048576: true; the input reads as it did. -/
def destRelayUptoRow : OpenClaim := { program := "ytoobijefjljnjaa", sum := "84d5f9bdbbb351b10e3f1de3b4f05c042933272d4ec10884fa0ac1879491afff", func := "boarder/boarderlaw17.DestRelay", spec := "destRelay", apart := false, narrowed := true }
def DestRelayUptoSaid : Prop := destRelayUptoRow.holds Try.pinned (OpenSpec.upto destRelaySpec)

/-- 'boarderlaw17.DestRaw', WHERE WHAT IT READS IS OF BULK AT MOST 1048576: true; the input reads as it did. -/
def destRawUptoRow : OpenClaim := { program := "ytoobijefjljnjaa", sum := "84d5f9bdbbb351b10e3f1de3b4f05c042933272d4ec10884fa0ac1879491afff", func := "boarder/boarderlaw17.DestRaw", spec := "destRaw", apart := false, narrowed := true }
def DestRawUptoSaid : Prop := destRawUptoRow.holds Try.pinned (OpenSpec.upto destRawSpec)

end Rows
end Go.Proofs.Ytoobijefjljnjaa
