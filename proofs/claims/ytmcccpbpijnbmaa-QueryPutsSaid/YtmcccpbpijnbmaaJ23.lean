/- CellE -/
import Derived.Test.YtmcccpbpijnbmaaJ20
import Derived.BigRegion
import Derived.Laws.MakeOwn
import Derived.RegionTactic
namespace Go.Proofs.Ytmcccpbpijnbmaa
set_option maxRecDepth 100000
open Go.RowKit

/-! ### one, filled, the numbers of a cell -/
end Go.Proofs.Ytmcccpbpijnbmaa
