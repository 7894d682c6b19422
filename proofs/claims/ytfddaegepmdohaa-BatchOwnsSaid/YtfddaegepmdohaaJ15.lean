/- IntsA -/
import Derived.Test.YtfddaegepmdohaaJ1
import Derived.Test.YtfddaegepmdohaaJ5
namespace Go.Proofs.Ytfddaegepmdohaa
set_option maxRecDepth 100000
open Go.RowKit

theorem own_setCells {base g n cap : Nat} : ∀ (ys : List Int) (o : Nat) (l : List Int) (w : World), o + ys.length ≤ l.length → OwnI w base (.slice (some ⟨g, 0, none⟩) n cap) l →
    OwnI (w.setCells g o (ys.map (Value.int .i64))) base (.slice (some ⟨g, 0, none⟩) n cap) (l.take o ++ ys ++ l.drop (o + ys.length))
  | [], o, l, w, _, h => by simpa [World.setCells] using h
  | y :: r, o, l, w, hl, h => by
    have hl' : o + 1 + r.length ≤ (l.set o y).length := by simp at hl ⊢; omega
    have h2 := own_setCells r (o + 1) (l.set o y) (w.setCell ⟨g, o, none⟩ (.int .i64 y)) hl' (h.set_ o y)
    simp only [List.map_cons, World.setCells]
    have hol : o < l.length := by simp at hl; omega
    have e : (l.set o y).take (o + 1) ++ r ++ (l.set o y).drop (o + 1 + r.length) = l.take o ++ (y :: r) ++ l.drop (o + (y :: r).length) := by
      rw [List.drop_set_of_lt (by omega), List.take_succ_eq_append_getElem (by simpa using hol)]
      simp [Nat.add_assoc, Nat.add_comm 1, List.take_set_of_le]
    rwa [e] at h2
theorem grown_setCells (g : Nat) : ∀ (ys : List Value) (o : Nat) (w : World), w.grownBy (w.setCells g o ys) (some g)
  | [], o, w => World.grownBy.refl w _
  | y :: r, o, w => by
    have h1 : w.grownBy (w.setCell ⟨g, o, none⟩ y) (some g) := ⟨rfl, rfl, rfl, by simp [World.setCell], fun k _ hk => by
      simp [World.setCell, Array.getElem?_modify]
      intro e; exact absurd (congrArg some e.symm) hk⟩
    exact grownBy_trans h1 (grown_setCells g r (o + 1) _) (fun k hk => .inl hk)
end Go.Proofs.Ytfddaegepmdohaa
