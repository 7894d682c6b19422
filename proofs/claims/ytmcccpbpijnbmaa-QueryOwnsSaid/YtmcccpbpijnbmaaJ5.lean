/- Wide -/
import Derived.Test.YtmcccpbpijnbmaaJ2
import Derived.IntWalk
import Derived.Laws.BitsLemmas
import Derived.Outline
namespace Go.Proofs.Ytmcccpbpijnbmaa
set_option maxRecDepth 100000
open Go.RowKit

end Go.Proofs.Ytmcccpbpijnbmaa
