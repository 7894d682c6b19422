/- CellA, CellRS -/
import Derived.Test.YtmcccpbpijnbmaaJ2
import Derived.Test.YtmcccpbpijnbmaaJ23
import Derived.Deep.RegionHeld3
import Derived.Deep.RegionWith
namespace Go.Proofs.Ytmcccpbpijnbmaa
set_option maxRecDepth 100000
open Go.RowKit

end Go.Proofs.Ytmcccpbpijnbmaa
namespace Go.Proofs.Ytmcccpbpijnbmaa
set_option maxRecDepth 100000
open Go.RowKit

end Go.Proofs.Ytmcccpbpijnbmaa
