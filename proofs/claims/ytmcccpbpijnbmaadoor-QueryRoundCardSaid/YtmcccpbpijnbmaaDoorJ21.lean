/- CellQ -/
import Derived.Test.YtmcccpbpijnbmaaDoorJ17
import Derived.BigQuiet
import Derived.Deep.QuietTactic
namespace Go.Proofs.YtmcccpbpijnbmaaDoor
set_option maxRecDepth 100000
open Go.RowKit

end Go.Proofs.YtmcccpbpijnbmaaDoor
