/- What boarderref18's Asked, Fair, four and echoed come to. Conditions: those that each theorem names. -/
import Derived.Test.YtoldppbakapohaaGreatDoorRpMake
import Derived.Test.YtoldppbakapohaaGreatDoorVwE
section
set_option maxRecDepth 8000
namespace Go.Proofs.YtoldppbakapohaaGreatDoor.Rpw
open Go.RowKit Tl Co Ms Cf Ad By Ow Rp
open Pw (alloc_more celM_all boxM)
open Vw (Cx Sx isI cel3C cel7 atN atS Seven snsOf sns_len sns_get nets_len nets_get refCheck_any)
open Mw (set13 cels13)

/-! ### four, echoed -/

/-! ### Fair -/
end Go.Proofs.YtoldppbakapohaaGreatDoor.Rpw
end
/- What boarderref18's Make comes to. Conditions: there may be such a reply, the configuration and the message read. -/
section
set_option maxRecDepth 8000
namespace Go.Proofs.YtoldppbakapohaaGreatDoor.Rpw
open Go.RowKit Tl Co Ms Cf Ad By Ow Rp
open Pw (alloc_more celM_all boxM)
open Vw (Cx Sx isI cel3C cel7 atN atS Seven snsOf sns_len sns_get nets_len nets_get)
open Mw (set13 cels13)

section
variable {x : Mv} {w5 W W' : World} {g n c : Nat} {A : Option Addr} {ps : List Po} {oc : Array Value}
end
theorem row_low {e B k n g : Nat} {w w' : World} {v : Value} {xs : List Value} (h : w.ownsRow B e k v n xs) (hlt : g < B) (hg : w.grownBy w' (some g)) : w'.ownsRow B e k v n xs := by
  refine World.ownsRow.kept h hg ?_
  by_cases q : v.ownBlock = none
  · exact .inl q
  · refine .inr fun q2 => ?_
    have := (World.ownsRow.lt h g q2).1
    omega

end Go.Proofs.YtoldppbakapohaaGreatDoor.Rpw
end
