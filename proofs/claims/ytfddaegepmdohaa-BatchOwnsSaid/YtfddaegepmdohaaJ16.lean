/- SchemaJ -/
import Derived.Test.YtfddaegepmdohaaJ11
import Derived.Deep.RegionLaw
namespace Go.Proofs.Ytfddaegepmdohaa
set_option maxRecDepth 100000
open Go.RowKit

/-- What a call tells that tells new ints. -/
def TellJ (w : World) (l : List Int) (e : Ending) (w' : World) : Prop := (∃ v, e = .returned v ∧ OwnI w' w.heap.size v l) ∧ Below w.heap.size w w'
theorem joinP_ne {v w : List Int} (h : v.length ≠ w.length) : joinP v w = [] := by simp [joinP, h]
theorem join_all {v w : List Int} {k : Nat} (h : v.length = w.length) (hk : v.length ≤ k) : (joinP v w).take k = joinP v w := List.take_of_length_le (by rw [joinP_len h]; exact hk)
end Go.Proofs.Ytfddaegepmdohaa
