/- CubRG -/
import Derived.Test.YteifhgcjmjihgaaJ21
import Derived.Test.YteifhgcjmjihgaaJ23
import Derived.Test.YteifhgcjmjihgaaJ31
import Derived.Test.YteifhgcjmjihgaaJ32
import Derived.Deep.DeepCutAuto
namespace Go.Proofs.Yteifhgcjmjihgaa
set_option maxRecDepth 100000
open Go.RowKit

theorem takeU_more {α : Type} {L : List α} {k : Nat} {x : α} (h : L[k]? = some x) : L.take k ++ [x] = L.take (k + 1) := by
  rw [List.take_add_one, h]
  rfl
theorem takeF_len {α : Type} (f : α → List UInt8) (L : List α) (k : Nat) : ((L.take k).flatMap f).length ≤ (L.flatMap f).length := by
  have h : L.flatMap f = (L.take k).flatMap f ++ (L.drop k).flatMap f := by rw [← List.flatMap_append, List.take_append_drop]
  rw [h, List.length_append]
  omega
end Go.Proofs.Yteifhgcjmjihgaa
