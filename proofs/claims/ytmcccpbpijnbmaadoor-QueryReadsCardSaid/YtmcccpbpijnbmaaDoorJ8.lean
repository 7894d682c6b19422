/- WideTot -/
import Derived.Test.YtmcccpbpijnbmaaDoorJ5
import Derived.Deep.RegionWith
namespace Go.Proofs.YtmcccpbpijnbmaaDoor
set_option maxRecDepth 100000
open Go.RowKit

end Go.Proofs.YtmcccpbpijnbmaaDoor
