/- Wide -/
import Derived.Test.YtmcccpbpijnbmaaDoorJ1
import Derived.IntWalk
import Derived.Laws.BitsLemmas
import Derived.Outline
namespace Go.Proofs.YtmcccpbpijnbmaaDoor
set_option maxRecDepth 100000
open Go.RowKit

end Go.Proofs.YtmcccpbpijnbmaaDoor
