/- SchemaJ -/
import Derived.Test.YtmepdkdeanbbaaaGreatJ2
import Derived.Test.YtmepdkdeanbbaaaGreatJ8
import Derived.Deep.RegionLaw
namespace Go.Proofs.YtmepdkdeanbbaaaGreat
set_option maxRecDepth 100000
open Go.RowKit

end Go.Proofs.YtmepdkdeanbbaaaGreat
