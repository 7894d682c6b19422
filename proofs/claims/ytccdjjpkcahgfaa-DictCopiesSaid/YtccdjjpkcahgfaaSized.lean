/- What came in, and how long it may be: each slice takes no more bytes than a process has addresses. -/
import Derived.Test.YtccdjjpkcahgfaaReads
import Derived.SizedLaws
namespace Go.Proofs.Ytccdjjpkcahgfaa
open Go.RowKit

/-- As RC; and all that it holds is as long as memory lets it be. -/
def RZ (P : Program) (w : World) (t : TypeId) (cs : List Value) : Prop :=
  ∃ (H : Type) (enc : TypeId × Value → H) (base : Nat) (spare : Nat → Bool) (held : Bool) (fuel : Nat) (x : DataW H × List MemPlace), DataW.trod enc P w base spare held fuel t cs = some x ∧ ∀ n ∈ x.1.weights P t, n ≤ reachBytes
section
variable {P : Program} {w : World} {t e : TypeId} {cs : List Value}
theorem RZ.rc (h : RZ P w t cs) : RC P w t cs := by
  obtain ⟨H, enc, base, spare, held, fuel, x, h, _⟩ := h
  exact ⟨H, enc, base, spare, held, fuel, x, h⟩
theorem RZ.field {fs : Array Field} (ht : P.underlying t = some (.struct fs)) (h : RZ P w t cs) (i : Nat) (f : Field) (hf : fs[i]? = some f) : RZ P w f.type ((cs.drop f.offset).take (P.cellsOf f.type)) := by
  obtain ⟨H, enc, base, spare, held, fuel, x, h, hz⟩ := h
  obtain ⟨xs, n, _, rfl, _, hl, hx⟩ := DataW.trod_struct ht h
  have hi : i < fs.size := (Array.getElem?_eq_some_iff.1 hf).1
  refine ⟨H, enc, base, spare, held, n, _, (hx i f hf).trans (List.getElem?_eq_getElem (by omega)), fun k hk => hz k ?_⟩
  simp only [DataW.weights, ht]
  exact DataW.weights_mem_each (j := i) (by simpa using ⟨f, hf, rfl⟩) (by rw [List.getElem?_map, List.getElem?_eq_getElem (by omega)]; rfl) k hk
theorem RZ.slice_len {a : Option Addr} {n c : Nat} (ht : P.underlying t = some (.slice e)) (h : RZ P w t [.slice a n c]) : n * P.bytesOf e ≤ reachBytes := by
  obtain ⟨H, enc, base, spare, held, fuel, x, h, hz⟩ := h
  rcases DataW.trod_slice ht h with ⟨h1, _⟩ | ⟨a', len, cap, elems, rest, k, _, h1, rfl, _, _, _, hl, _⟩
  · injection h1 with h1 _
    injection h1 with _ h2 _
    subst h2
    simp
  · injection h1 with h1 _
    injection h1 with _ h2 _
    subst h2
    have := hz ((elems.length + rest.length) * P.bytesOf e) (by simp [DataW.weights, ht])
    exact Nat.le_trans (Nat.mul_le_mul_right _ (by omega)) this
end
end Go.Proofs.Ytccdjjpkcahgfaa
