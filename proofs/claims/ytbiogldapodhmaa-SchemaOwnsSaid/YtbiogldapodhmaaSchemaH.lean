/- Layer 8's statements: what few leaves, stored where the schema came in. -/
import Derived.Test.YtbiogldapodhmaaSchemaG
namespace Go.Proofs.Ytbiogldapodhmaa
open Go.RowKit

theorem few_fitD {D : List PDim} (h : FitD D) (k : Nat) : FitD (fewD D k) := by
  intro d hd
  obtain ⟨x, hx, rfl⟩ := List.mem_map.1 hd
  have h1 := h x (List.mem_of_mem_take hx)
  exact ⟨h1.1, fun s hs => h1.2 s (List.mem_of_mem_take hs)⟩
theorem few_fitM {M : List Txt} (h : ∀ s ∈ M, s.length ≤ maxLen) (k : Nat) : ∀ s ∈ M.take k, s.length ≤ maxLen := fun s hs => h s (List.mem_of_mem_take hs)
theorem few_lenV (V : List (List Int)) (k : Nat) : ∀ l ∈ fewV V k, l.length ≤ 1000 := by
  intro l hl
  obtain ⟨x, _, rfl⟩ := List.mem_map.1 hl
  have := List.length_take_le 8 x
  omega
theorem few_lenD (D : List PDim) (k : Nat) : (fewD D k).length ≤ k := by
  have := List.length_take_le k D
  simpa [fewD] using this
theorem few_lenVs (V : List (List Int)) (k : Nat) : (fewV V k).length ≤ k := by
  have := List.length_take_le k V
  simpa [fewV] using this
/-- A schema of the call's own is stored over one that lay in a block of its own: it reads as itself. -/
theorem few_st {w : World} {g base C : Nat} {x1 x2 x3 v1 v2 v3 : Value} {D : List PDim} {M : List Txt} {V : List (List Int)} (hX : Block w g 26 #[x1, x2, x3]) (hC : C ≤ g) (hg : g < base)
    (k1 : OwnDs w base C v1 D) (k2 : OwnT w base v2 M) (k3 : OwnL w base C 30 v3 V) :
    ∃ A1 c1 A2 n2 c2 A3 n3 c3, v1 = .slice A1 D.length c1 ∧ v2 = .slice A2 n2 c2 ∧ v3 = .slice A3 n3 c3 ∧ HasS (put3 w g v1 v2 v3) (put3 w g v1 v2 v3).heap.size A1 D.length c1 A2 n2 c2 A3 n3 c3 D M V ∧ Block (put3 w g v1 v2 v3) g 26 #[v1, v2, v3] ∧
      OwnDs (put3 w g v1 v2 v3) base C v1 D ∧ OwnT (put3 w g v1 v2 v3) base v2 M ∧ OwnL (put3 w g v1 v2 v3) base C 30 v3 V := by
  have r1 : OwnDs (put3 w g v1 v2 v3) base C v1 D := ((k1.put (g := g) (i := 0) (u := v1) hC hg).put (g := g) (i := 1) (u := v2) hC hg).put (g := g) (i := 2) (u := v3) hC hg
  have r2 : OwnT (put3 w g v1 v2 v3) base v2 M := ((k2.put (g := g) (i := 0) (u := v1) hg).put (g := g) (i := 1) (u := v2) hg).put (g := g) (i := 2) (u := v3) hg
  have r3 : OwnL (put3 w g v1 v2 v3) base C 30 v3 V := ((k3.put (g := g) (i := 0) (u := v1) hC hg).put (g := g) (i := 1) (u := v2) hC hg).put (g := g) (i := 2) (u := v3) hC hg
  have hb := hX.put3_ v1 v2 v3
  have hCs : C ≤ (put3 w g v1 v2 v3).heap.size := by have := hb.lt; omega
  obtain ⟨A1, c1, e1, h1⟩ := r1.read hCs
  obtain ⟨A2, n2, c2, e2, h2, _⟩ := OwnT.formN r2
  obtain ⟨A3, c3, e3, h3⟩ := r3.read hCs
  exact ⟨A1, c1, A2, n2, c2, A3, _, c3, e1, e2, e3, ⟨h1, h2, h3⟩, hb, r1, r2, r3⟩
end Go.Proofs.Ytbiogldapodhmaa
