/- CellT, CellP, CellU, CellS, CellF -/
import Derived.Test.YtmcccpbpijnbmaaDoorJ1
import Derived.Test.YtmcccpbpijnbmaaDoorJ8
import Derived.Test.YtmcccpbpijnbmaaDoorJ15
import Derived.Test.YtmcccpbpijnbmaaDoorJ31
namespace Go.Proofs.YtmcccpbpijnbmaaDoor
set_option maxRecDepth 100000
open Go.RowKit

def is64 (z : Int) : Prop := -9223372036854775808 ≤ z ∧ z ≤ 9223372036854775807
instance (z : Int) : Decidable (is64 z) := by unfold is64; exact inferInstance
end Go.Proofs.YtmcccpbpijnbmaaDoor
namespace Go.Proofs.YtmcccpbpijnbmaaDoor
set_option maxRecDepth 100000
open Go.RowKit

/-! ### Cells that may be, of one number of measures -/
def AllC (m : Nat) (L : List PC) : Prop := ∀ k, k < L.length → cMay (L.getD k zeroC) ∧ (L.getD k zeroC).2.1.length = m
theorem cMay_count {c : PC} (h : cMay c) : 0 ≤ c.1 ∧ c.1 ≤ 1099511627776 := by
 obtain ⟨n, S, M, X⟩ := c
 obtain ⟨_, _, _, h1, h2, _⟩ := (cMay_iff n S M X).1 h
 exact ⟨h1, h2⟩
theorem AllC.mem {m : Nat} {L : List PC} (h : AllC m L) : ∀ c ∈ L, cMay c ∧ c.2.1.length = m := by
 intro c hc
 obtain ⟨k, hk, rfl⟩ := List.mem_iff_getElem.1 hc
 have := h k hk
 rwa [List.getD_eq_getElem?_getD, List.getElem?_eq_getElem hk] at this
theorem sumI_count : ∀ {l : List Int}, (∀ x ∈ l, 0 ≤ x ∧ x ≤ 1099511627776) → 0 ≤ sumI l ∧ sumI l ≤ 1099511627776 * (l.length : Int) := by
 intro l
 induction l with
 | nil => intro _; simp [sumI]
 | cons x l ih =>
  intro h
  have h1 := h x (by simp)
  have h2 := ih fun y hy => h y (by simp [hy])
  simp only [sumI, List.length_cons]
  omega
theorem AllC.count {m : Nat} {L : List PC} (h : AllC m L) (hn : L.length ≤ 1000000) : 0 ≤ sumI (L.map fun c => c.1) ∧ is64 (sumI (L.map fun c => c.1)) := by
 have h1 := sumI_count (l := L.map fun c => c.1) (by
  intro x hx
  obtain ⟨c, hc, rfl⟩ := List.mem_map.1 hx
  exact cMay_count (h.mem c hc).1)
 rw [List.length_map] at h1
 unfold is64
 omega
end Go.Proofs.YtmcccpbpijnbmaaDoor
namespace Go.Proofs.YtmcccpbpijnbmaaDoor
set_option maxRecDepth 100000
open Go.RowKit

section
variable {w0 w w' : World} {s g1 g2 g3 m k1 k2 k3 : Nat} {q : Int} {S M X : List Int}
end
section
variable {w w' : World} {r base : Nat} {a b c d a' b' c' d' v1 v2 v3 : Value} {T : TypeId} {S M X : List Int}
end

end Go.Proofs.YtmcccpbpijnbmaaDoor
namespace Go.Proofs.YtmcccpbpijnbmaaDoor
set_option maxRecDepth 100000
open Go.RowKit

end Go.Proofs.YtmcccpbpijnbmaaDoor
namespace Go.Proofs.YtmcccpbpijnbmaaDoor
set_option maxRecDepth 100000
open Go.RowKit

def CsCells (xs : List Value) (L : List PC) (R : Value → Value → Value → PC → Prop) : Prop :=
 ∀ i q, L[i]? = some q → ∃ a b c, xs[4 * i]? = some (.int .i64 q.1) ∧ xs[4 * i + 1]? = some a ∧ xs[4 * i + 2]? = some b ∧ xs[4 * i + 3]? = some c ∧ R a b c q
section
variable {w w' : World} {B C : Nat} {v : Value} {L : List PC} {R R' : Value → Value → Value → PC → Prop}
theorem CsCells.mono {xs : List Value} (h : CsCells xs L R) (hR : ∀ a b c q, R a b c q → R' a b c q) : CsCells xs L R' := fun i q hi => by
 obtain ⟨a, b, c, h1, h2, h3, h4, h5⟩ := h i q hi
 exact ⟨a, b, c, h1, h2, h3, h4, hR _ _ _ _ h5⟩
end
end Go.Proofs.YtmcccpbpijnbmaaDoor
