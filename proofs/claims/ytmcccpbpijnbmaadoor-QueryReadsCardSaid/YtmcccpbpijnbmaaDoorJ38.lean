/- QryS -/
import Derived.Test.YtmcccpbpijnbmaaDoorJ30
import Derived.Test.YtmcccpbpijnbmaaDoorJ37
namespace Go.Proofs.YtmcccpbpijnbmaaDoor
set_option maxRecDepth 100000
open Go.RowKit

end Go.Proofs.YtmcccpbpijnbmaaDoor
