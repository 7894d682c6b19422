/- WideRef, WideRef2, WideRef3, WideRef4 -/
import Derived.Test.YtfddaegepmdohaaJ9
import Derived.BigQuiet
import Derived.Deep.QuietTactic
import Derived.OwnWalk
namespace Go.Proofs.Ytfddaegepmdohaa
set_option maxRecDepth 100000
open Go.RowKit

end Go.Proofs.Ytfddaegepmdohaa
namespace Go.Proofs.Ytfddaegepmdohaa
set_option maxRecDepth 100000
open Go.RowKit

/-- What a row of the call's own of n > 0 ints is. -/
theorem OwnI.shape {w : World} {base : Nat} {v : Value} {l : List Int} (h : OwnI w base v l) {n : Nat} (hl : l.length = n) (hn : 0 < n) : ∃ g c, v = .slice (some ⟨g, 0, none⟩) n c ∧ HasI w w.heap.size (some ⟨g, 0, none⟩) n c l ∧ base ≤ g ∧ g < w.heap.size := by
  subst hl
  rcases h.2 with ⟨rfl, h0⟩ | ⟨g, cap, cur, rfl, hb, hg, hnc, hcm, hcs, ht⟩
  · omega
  · have hlt : g < w.heap.size := (Array.getElem?_eq_some_iff.1 hg).1
    refine ⟨g, cap, rfl, ⟨rfl, hnc, hcm, (fun h => by cases h), fun _ => ⟨g, 0, rfl, hlt, fun j u hu => ?_⟩⟩, hb, hlt⟩
    have := World.ownsRow.cells h (g := g) rfl j u hu
    rwa [add_flat] at this
theorem bits_shape {w : World} {base : Nat} {v : Value} {z : Int} (h : OwnI w base v (bitsOf 80 z)) : ∃ g c, v = .slice (some ⟨g, 0, none⟩) 80 c ∧ HasI w w.heap.size (some ⟨g, 0, none⟩) 80 c (bitsOf 80 z) ∧ base ≤ g ∧ g < w.heap.size := h.shape (bitsOf_length 80 z) (by decide)
/-- Ints that lie somewhere, appended onto a row of the call's own: the cells. -/
theorem HasI.cellsAt {w : World} {B n c g : Nat} {l : List Int} (h : HasI w B (some ⟨g, 0, none⟩) n c l) : ∀ j u, (l.map i64v)[j]? = some u → w.cell? ((⟨g, 0, none⟩ : Addr).add j) = some u := fun j u hu => by
  have hj := (List.getElem?_eq_some_iff.1 hu).1
  obtain ⟨b, o, e, _, hc⟩ := h.has (by omega)
  injection e with e
  injection e with e1 e2
  subst e1 e2
  rw [add_flat]
  exact hc j u hu

end Go.Proofs.Ytfddaegepmdohaa
namespace Go.Proofs.Ytfddaegepmdohaa
set_option maxRecDepth 100000
open Go.RowKit

/-- The ends of a row's numbers. -/
def wFar (z : Int) : Prop := -604462909807314587353088 ≤ z ∧ z < 604462909807314587353088
theorem wFar_ends {z : Int} (h : wFar z) : shR z 79 = 0 ∨ shR z 79 = -1 := by
  have h' := shR_ends (z := z) (m := 79) (by have := h.1; omega) (by have := h.2; omega)
  omega
theorem quietI {P : Program} {f : FuncId} {args : Array Value} {w : World} {n : Nat} {v : Value}
    (h : Calls P f args (w.drewN n) fun e w' => e = .returned v ∧ w.drewN n = w') : Calls P f args (w.drewN n) fun e w'' => e = .returned v ∧ ∃ m, w'' = w.drewN m :=
  h.mono fun _ _ ⟨he, hm⟩ => ⟨he, n, hm.symm⟩
/-- Bits from 63 on that are all the same: an int. -/
theorem bits_int {z : Int} (hz : wFar z) (h : ∀ j, 64 ≤ j → j < 80 → shR z j % 2 = shR z 63 % 2) : shR z 63 = 0 ∨ shR z 63 = -1 := by
  have he := wFar_ends hz
  have key : ∀ d, d ≤ 16 → shR z (79 - d) = shR z 79 := by
    intro d
    induction d with
    | zero => intro _; rfl
    | succ d ih =>
      intro hd
      have h1 := ih (by omega)
      have h2 : shR z (79 - d) = shR z (79 - (d + 1)) / 2 := by
        rw [show 79 - d = (79 - (d + 1)) + 1 from by omega]
        rfl
      have h3 : shR z (79 - (d + 1)) % 2 = shR z 63 % 2 := by
        by_cases hj : 64 ≤ 79 - (d + 1)
        · exact h _ hj (by omega)
        · rw [show 79 - (d + 1) = 63 from by omega]
      have h4 := h 79 (by decide) (by decide)
      omega
  rw [← key 16 (by decide)] at he
  exact he
theorem int_bits {z : Int} (h0 : -9223372036854775808 ≤ z) (h1 : z ≤ 9223372036854775807) (j : Nat) (hj : 64 ≤ j) : shR z j % 2 = shR z 63 % 2 := by
  have he : shR z 63 = 0 ∨ shR z 63 = -1 := by
    have := shR_ends (z := z) (m := 63) (by omega) (by omega)
    omega
  have h2 := shR_stay (j - 63) he
  rw [shR_add, show 63 + (j - 63) = j from by omega] at h2
  rw [h2]

end Go.Proofs.Ytfddaegepmdohaa
namespace Go.Proofs.Ytfddaegepmdohaa
set_option maxRecDepth 100000
open Go.RowKit

theorem wFar_sign {z : Int} (h : wFar z) : (0 ≤ z ∧ shR z 79 = 0) ∨ (z < 0 ∧ shR z 79 = -1) :=
  shR_ends (z := z) (m := 79) (by have := h.1; omega) (by have := h.2; omega)

end Go.Proofs.Ytfddaegepmdohaa
