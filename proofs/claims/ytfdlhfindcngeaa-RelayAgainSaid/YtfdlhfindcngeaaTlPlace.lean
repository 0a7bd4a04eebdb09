/- What the program's place comes to, its closure and slices.IndexFunc. For all inputs. -/
import Derived.Test.YtfdlhfindcngeaaTlLeaf
namespace Go.Proofs.Ytfdlhfindcngeaa.Tw
open Go.RowKit Tl By

end Go.Proofs.Ytfdlhfindcngeaa.Tw
