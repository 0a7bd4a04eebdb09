/- What the program's place comes to, its closure and slices.IndexFunc. For all inputs. -/
import Derived.Test.YtoobijefjljnjaaTlLeaf
namespace Go.Proofs.Ytoobijefjljnjaa.Tw
open Go.RowKit Tl By

end Go.Proofs.Ytoobijefjljnjaa.Tw
