/- CellE -/
import Derived.Test.YtmcccpbpijnbmaaDoorJ21
import Derived.BigRegion
import Derived.Laws.MakeOwn
import Derived.RegionTactic
namespace Go.Proofs.YtmcccpbpijnbmaaDoor
set_option maxRecDepth 100000
open Go.RowKit

/-! ### one, filled, the numbers of a cell -/
end Go.Proofs.YtmcccpbpijnbmaaDoor
