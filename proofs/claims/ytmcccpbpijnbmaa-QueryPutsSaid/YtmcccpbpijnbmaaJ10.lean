/- WideRef, WideRef2, WideRef3, WideRef4 -/
import Derived.Test.YtmcccpbpijnbmaaJ5
import Derived.BigQuiet
import Derived.Deep.QuietTactic
import Derived.OwnWalk
namespace Go.Proofs.Ytmcccpbpijnbmaa
set_option maxRecDepth 100000
open Go.RowKit

end Go.Proofs.Ytmcccpbpijnbmaa
namespace Go.Proofs.Ytmcccpbpijnbmaa
set_option maxRecDepth 100000
open Go.RowKit

end Go.Proofs.Ytmcccpbpijnbmaa
namespace Go.Proofs.Ytmcccpbpijnbmaa
set_option maxRecDepth 100000
open Go.RowKit

end Go.Proofs.Ytmcccpbpijnbmaa
namespace Go.Proofs.Ytmcccpbpijnbmaa
set_option maxRecDepth 100000
open Go.RowKit

end Go.Proofs.Ytmcccpbpijnbmaa
