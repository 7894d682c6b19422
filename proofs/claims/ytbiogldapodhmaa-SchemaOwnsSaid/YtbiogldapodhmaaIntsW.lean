/- Rows of ints that may be written over. -/
import Derived.Test.YtbiogldapodhmaaIntsB
namespace Go.Proofs.Ytbiogldapodhmaa
open Go.RowKit

/-- The first n of a slice lie in blocks of ints, from base on, that may be written. -/
def InS (w : World) (base : Nat) (A : Option Addr) (n : Nat) : Prop := ∀ k, k < n → ∃ g cs, A = some ⟨g, 0, none⟩ ∧ base ≤ g ∧ Block w g 3 cs ∧ k < cs.size
theorem InS.of {w : World} {base n c : Nat} {A : Option Addr} {l : List Int} (h : OwnI w base (.slice A n c) l) : InS w base A n := by
  intro k hk
  have hn := h.len_
  rcases h.2 with ⟨h1, h0⟩ | ⟨g, cap, cur, h1, h2, h3, h4, h5, h6, _⟩
  · injection h1 with _ h1 _
    omega
  · injection h1 with h1 h7 _
    exact ⟨g, cur, h1, h2, h3, by omega⟩
theorem Block.ne_ {w : World} {g p : Nat} {T T' : TypeId} {cs cs' : Array Value} (h : Block w g T cs) (h' : Block w p T' cs') (hT : T ≠ T') : g ≠ p := by
  intro e
  subst e
  have h1 : w.heap[g]? = some (.cells cs T (0, 0)) := h
  have h2 : w.heap[g]? = some (.cells cs' T' (0, 0)) := h'
  rw [h1] at h2
  simp only [Option.some.injEq, Obj.cells.injEq] at h2
  exact hT h2.2.1
theorem InS.set_ {w : World} {base n : Nat} {A : Option Addr} (h : InS w base A n) (g j : Nat) (u : Value) : InS (w.setCell ⟨g, j, none⟩ u) base A n := by
  intro k hk
  obtain ⟨g', cs, h1, h2, h3, h4⟩ := h k hk
  by_cases e : g = g'
  · subst e
    exact ⟨g, _, h1, h2, h3.set_ j u, by simpa using h4⟩
  · exact ⟨g', cs, h1, h2, h3.elsewhere g j u e, h4⟩
theorem InS.below {w w' : World} {base n : Nat} {A : Option Addr} (h : InS w base A n) (hb : Below w.heap.size w w') : InS w' base A n := by
  intro k hk
  obtain ⟨g', cs, h1, h2, h3, h4⟩ := h k hk
  exact ⟨g', cs, h1, h2, h3.below hb h3.lt, h4⟩
end Go.Proofs.Ytbiogldapodhmaa
