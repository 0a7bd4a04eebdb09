/- What the program's Right and Find come to, and bytes.Clone. For all inputs. -/
import Derived.Test.YtoobijefjljnjaaTlPlace
import Derived.Lib.AppendZeros
import Derived.Lib.SliceRun
import Derived.Deep.RegionWith
namespace Go.Proofs.Ytoobijefjljnjaa.Tw
open Go.RowKit Tl By

/-- What the program's Find answers. -/
def FoundB (w : World) (r : Option (List UInt8)) (e : Ending) (w' : World) : Prop := ∃ A m c, e = .returned (.tuple #[.slice A m c, .bool r.isSome]) ∧ Bs w' A m c (r.getD []) ∧ Below w.heap.size w w'
end Go.Proofs.Ytoobijefjljnjaa.Tw
