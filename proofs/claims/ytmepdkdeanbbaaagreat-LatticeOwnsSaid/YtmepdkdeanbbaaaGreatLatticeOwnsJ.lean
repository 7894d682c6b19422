/-
  Proved: of any schema (at most 6 Dims, 9 Views, 6 Measures) and any batches (the first 8), and any others put into a copy (the first 8), a lattice is still just the reference's when the rows and the schema that it told are written over; the document's examples hold, and nothing that was handed in changes. No condition.
-/
import Derived.Test.YtmepdkdeanbbaaaGreatJ49
import Derived.Test.YtmepdkdeanbbaaaGreatJ50
import Derived.Below
import Derived.ChangeOld
import Derived.Deep.DeepCutAuto
import Derived.Deep.RegionHeld3
import Derived.OpenShut
import Derived.ProofKit
import Derived.ShutString
import Derived.Test.YtmepdkdeanbbaaaGreatRows
import Derived.WalkKit
namespace Go.Proofs.YtmepdkdeanbbaaaGreat.latticeOwns
open Go.ChangeShapes Go.WideShapes Go.ChangeAt Go.RowKit
open Go.ChangeMaps (open_string shut_string)
set_option linter.unusedVariables false
set_option maxHeartbeats 8000000 in
theorem over : Rows.latticeOwnsRow.holds Tryz.pinned (OpenSpec.ofChange Rows.latticeOwnsSpec) :=
  OpenClaim.holds_of_wide 9 Tryz.f9 rfl rfl rfl rfl rfl rfl rfl ⟨rfl, rfl, rfl, rfl, rfl⟩ rfl rfl rfl rfl rfl (by as_aux_lemma => kernel_rfl) Tryz.func9 (by as_aux_lemma => kernel_rfl)
    (of_decide_eq_true (by as_aux_lemma => kernel_rfl)) (by unfold Func.isWrapper; first | (rw [if_pos (by decide +kernel)]; kernel_rfl) | (rw [if_neg (by decide +kernel)]; exact ⟨rfl, rfl⟩))
    (fun os started H enc _ => lifted os started H enc)

theorem proved : Rows.LatticeOwnsSaid := over
end Go.Proofs.YtmepdkdeanbbaaaGreat.latticeOwns
