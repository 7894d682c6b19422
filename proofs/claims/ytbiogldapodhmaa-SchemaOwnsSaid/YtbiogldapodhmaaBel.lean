/- A region that draws its order, reads, and calls what only makes memory and tells fixed values: one walk. -/
import Derived.Test.YtbiogldapodhmaaRows
import Derived.Test.YtbiogldapodhmaaInts
import Derived.BigQuiet
import Derived.Deep.QuietTactic
namespace Go.Proofs.Ytbiogldapodhmaa
open Go.RowKit

/-! ### A region that draws its order, reads, and calls what only makes memory: one walk -/
/-- A world in which all that lay in W lies unturned. -/
structure Bel (W : World) where
  w : World
  b : Below W.heap.size W w
instance (W : World) : Nonempty (Bel W) := ⟨⟨W, Below.refl _ _⟩⟩
theorem wp_region_below {P : Program} {id : Nat} {Q : Exit → Act → World → Prop} {a : Act} {W : World} {l : List Oper} (hm : P.follows .mixedOrders = true) (hB : Region.lexB .any l.toArray = true)
    (h : wpQuiet P l.toArray (fun w' => ∃ y : Bel W, w' = y.w) (fun a' => ∀ w', (∃ y : Bel W, w' = y.w) → Q .normal a' w') l a) : (Code.region id l.toArray true).wp P Q a W :=
  wp_region_quiet (C := fun w' => ∃ y : Bel W, w' = y.w) hm hB ⟨⟨_, Below.drew (Below.refl _ _)⟩, rfl⟩ (by simpa using h)
theorem Bel.cell {W : World} (y : Bel W) {b o : Nat} {v : Value} (h : W.cell? ⟨b, o, none⟩ = some v) : y.w.cell? ⟨b, o, none⟩ = some v :=
  (y.b.cell (p := ⟨b, o, none⟩) (World.block_lt_of_cell? W _ h)).trans h
theorem Bel.calls {P : Program} {f : FuncId} {args : Array Value} {v : Value} {W : World} (y : Bel W) (h : ∀ w, Below W.heap.size W w → Calls P f args w fun e w' => e = .returned v ∧ Below w.heap.size w w') :
    Calls P f args y.w fun e w'' => e = .returned v ∧ ∃ z : Bel W, w'' = z.w :=
  (h y.w y.b).mono fun _ w' ⟨he, hb⟩ => ⟨he, ⟨w', below_then y.b hb⟩, rfl⟩

end Go.Proofs.Ytbiogldapodhmaa
