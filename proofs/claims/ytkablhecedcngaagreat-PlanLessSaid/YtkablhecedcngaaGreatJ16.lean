/- WireRefP -/
import Derived.Test.YtkablhecedcngaaGreatJ11
namespace Go.Proofs.YtkablhecedcngaaGreat
set_option maxRecDepth 100000
set_option maxHeartbeats 8000000
open Go.RowKit
end Go.Proofs.YtkablhecedcngaaGreat
