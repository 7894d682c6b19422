/- Facts -/
import Derived.Test.YtmepdkdeanbbaaaGreatJ10
import Derived.Test.YtmepdkdeanbbaaaGreatJ13
import Derived.Test.YtmepdkdeanbbaaaGreatJ15
namespace Go.Proofs.YtmepdkdeanbbaaaGreat
set_option maxRecDepth 100000
open Go.RowKit

abbrev elFct : ElT Fct := elPair (elRow (elRow elText 1) 1) 1 (elRow elInt 1)
theorem elPath_ok : (elRow elText 1).Ok := elRow_ok elText_ok
theorem elPaths_ok : (elRow (elRow elText 1) 1).Ok := elRow_ok elPath_ok
theorem elVals_ok : (elRow elInt 1).Ok := elRow_ok elInt_ok
theorem elFct_ok : elFct.Ok := elPair_ok elPaths_ok elVals_ok
theorem elValsO_ok : (elOwn elInt 3 1).Ok := elOwn_ok elInt_ok
abbrev HasF (w : World) (S : Nat → Prop) (A : Option Addr) (n c : Nat) (L : List Fct) : Prop := Row elFct 2 w S A n c L
theorem info_fact : (Tryz.prog.info? 83).map (fun i => (i.zero, i.size, i.bytes)) = some (some (.agg #[.slice none 0 0, .slice none 0 0]), 2, 48) := by kernel_rfl
theorem info_rowT : (Tryz.prog.info? 23).map (fun i => (i.zero, i.size, i.bytes)) = some (some (.slice none 0 0), 1, 24) := by kernel_rfl
theorem info_rowI : (Tryz.prog.info? 47).map (fun i => (i.zero, i.size, i.bytes)) = some (some (.slice none 0 0), 1, 24) := by kernel_rfl

/-! ### Facts that came in -/
theorem cells_fact : Tryz.prog.cellsOf 83 = 2 := by kernel_rfl
theorem cells_paths : Tryz.prog.cellsOf 69 = 1 := by kernel_rfl
def FctIn (f : Fct) : Prop := (∀ p ∈ f.1, ∀ s ∈ p, s.length ≤ maxLen) ∧ ∀ x ∈ f.2, -9223372036854775808 ≤ x ∧ x ≤ 9223372036854775807
theorem fact_of {w : World} {cs : List Value} (h : RC Tryz.prog w 83 cs) : ∃ f, elFct w (fun b => b < w.heap.size) cs f ∧ FctIn f := by
 have hl := h.len Tryz.underlying83
 rw [cells_fact] at hl
 have f1 := h.field Tryz.underlying83 0 _ rfl
 have f2 := h.field Tryz.underlying83 1 _ rfl
 obtain ⟨p, h1, k1⟩ := RC.elRow (E := elRow elText 1) (G := fun p => ∀ s ∈ p, s.length ≤ maxLen) Tryz.underlying69 cells_strings (by decide)
  (fun cs h => RC.elRow (E := elText) (G := fun s => s.length ≤ maxLen) Tryz.underlying23 cells_string (by decide) (fun cs h => RC.elText Tryz.underlying9 h) h) f1
 obtain ⟨v, h2, k2⟩ := RC.elRow (E := elInt) (G := fun x => -9223372036854775808 ≤ x ∧ x ≤ 9223372036854775807) Tryz.underlying47 cells_int1 (by decide) (fun cs h => RC.elInt Tryz.underlying3 h) f2
 refine ⟨(p, v), ⟨?_, ?_⟩, k1, k2⟩
 ·have h1 : elRow (elRow elText 1) 1 w (fun b => b < w.heap.size) ((cs.drop 0).take (Tryz.prog.cellsOf 69)) p := h1
  rw [cells_paths] at h1
  exact h1
 ·have h2 : elRow elInt 1 w (fun b => b < w.heap.size) ((cs.drop 1).take (Tryz.prog.cellsOf 47)) v := h2
  rw [cells_ints, List.take_of_length_le (by simp; omega)] at h2
  exact h2
theorem facts_of {w : World} {a : Option Addr} {n c : Nat} (h : RC Tryz.prog w 40 [.slice a n c]) : ∃ L, HasF w (fun b => b < w.heap.size) a n c L ∧ ∀ f ∈ L, FctIn f :=
 h.row Tryz.underlying40 cells_fact (by decide) fun _ h => fact_of h
end Go.Proofs.YtmepdkdeanbbaaaGreat
