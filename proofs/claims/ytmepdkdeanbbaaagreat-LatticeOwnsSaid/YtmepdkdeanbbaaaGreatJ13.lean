/- SchemaJ -/
import Derived.Test.YtmepdkdeanbbaaaGreatJ8
import Derived.Deep.RegionLaw
namespace Go.Proofs.YtmepdkdeanbbaaaGreat
set_option maxRecDepth 100000
set_option maxHeartbeats 8000000
open Go.RowKit
end Go.Proofs.YtmepdkdeanbbaaaGreat
