/- SchemaJ -/
import Derived.Test.YtmcccpbpijnbmaaJ3
import Derived.Test.YtmcccpbpijnbmaaJ7
import Derived.Deep.RegionLaw
namespace Go.Proofs.Ytmcccpbpijnbmaa
set_option maxRecDepth 100000
open Go.RowKit

end Go.Proofs.Ytmcccpbpijnbmaa
