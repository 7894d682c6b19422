/- SchemaJ -/
import Derived.Test.YtmcccpbpijnbmaaDoorJ2
import Derived.Test.YtmcccpbpijnbmaaDoorJ7
import Derived.Deep.RegionLaw
namespace Go.Proofs.YtmcccpbpijnbmaaDoor
set_option maxRecDepth 100000
open Go.RowKit

end Go.Proofs.YtmcccpbpijnbmaaDoor
