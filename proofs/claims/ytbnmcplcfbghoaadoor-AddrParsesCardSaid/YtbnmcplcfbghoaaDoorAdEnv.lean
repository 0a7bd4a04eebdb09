/- What the rows on addresses list gives the walks what they want of the world. -/
import Derived.Test.YtbnmcplcfbghoaaDoorRowKit
import Derived.Test.YtbnmcplcfbghoaaDoorAdText1
namespace Go.Proofs.YtbnmcplcfbghoaaDoor
open Go.RowKit

theorem env_of {W : World} {l : List (String × DataW Unit)} (hL : laidMet Tryd.prog l W) (hm : ("internal/strconv.uint64pow10", Rows.laid_internal_strconv_uint64pow10) ∈ l) (hsh : W.ShapedOpen Tryd.prog) : Env W where
  tab := tab_of_laid gPow (by kernel_rfl) Tryd.underlying61 Tryd.underlying52 (by kernel_rfl) (by kernel_rfl) hL hm
  max := cell_of_shapedOpen_int (g := 1) (t := 3) (zero := #[.int .i64 0]) hsh (of_decide_eq_true (by kernel_rfl)) (by kernel_rfl) rfl (by kernel_rfl) (by kernel_rfl) Tryd.underlying3
end Go.Proofs.YtbnmcplcfbghoaaDoor
