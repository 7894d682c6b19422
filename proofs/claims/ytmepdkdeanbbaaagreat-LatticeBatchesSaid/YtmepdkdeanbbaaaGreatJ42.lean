/- NamesJ -/
import Derived.Test.YtmepdkdeanbbaaaGreatJ40
import Derived.Lib.Join
namespace Go.Proofs.YtmepdkdeanbbaaaGreat
set_option maxRecDepth 100000
open Go.RowKit

theorem may_yes {A : Option Addr} {n c : Nat} {L : List Txt} {w : World} (h : HasT w w.heap.size A n c L) (hm : mayP L) :
  Calls Tryz.prog 159 #[.slice A n c] w fun e w' => e = .returned (.bool true) ∧ Below w.heap.size w w' := by
 have := may_any h
 rwa [decide_eq_true hm] at this
theorem may_no {A : Option Addr} {n c : Nat} {L : List Txt} {w : World} (h : HasT w w.heap.size A n c L) (hm : ¬ mayP L) :
  Calls Tryz.prog 159 #[.slice A n c] w fun e w' => e = .returned (.bool false) ∧ Below w.heap.size w w' := by
 have := may_any h
 rwa [decide_eq_false hm] at this
/-! ### Text -/
end Go.Proofs.YtmepdkdeanbbaaaGreat
