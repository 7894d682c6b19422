/- Cells -/
import Derived.Test.YtmcccpbpijnbmaaDoorJ1
import Derived.Test.YtmcccpbpijnbmaaDoorJ6
import Derived.OneCell
import Derived.Outline
namespace Go.Proofs.YtmcccpbpijnbmaaDoor
set_option maxRecDepth 100000
open Go.RowKit

/-! ### A cell's three lists -/
section
variable {w w' : World} {B B' n1 c1 n2 c2 n3 c3 : Nat} {A1 A2 A3 : Option Addr} {S M X : List Int}
end
/-! ### Rows of cells -/
section
variable {w w' : World} {B B' n c : Nat} {A : Option Addr} {L : List PC}
end
/-! ### Cells of the call's own -/
section
variable {w w' : World} {base base' : Nat} {v1 v2 v3 : Value} {S M X : List Int}
end
end Go.Proofs.YtmcccpbpijnbmaaDoor
