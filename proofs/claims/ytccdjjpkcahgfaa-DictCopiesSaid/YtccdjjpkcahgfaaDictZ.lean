/- Layer 7's statements: what is written over. -/
import Derived.Test.YtccdjjpkcahgfaaDictG
import Derived.Test.YtccdjjpkcahgfaaDictY
namespace Go.Proofs.Ytccdjjpkcahgfaa
open Go.RowKit

section
variable {w : World}
/-- A store into a row of texts of the call's own. -/
theorem OwnT.store {B : Nat} {A : Option Addr} {m c : Nat} {l : List Txt} (h : OwnT w B (.slice A m c) l) {j : Nat} (hj : j < m) (t : Txt) :
    ∃ b o x, A = some ⟨b, o, none⟩ ∧ w.cell? ⟨b, o + j, none⟩ = some (.string x) ∧ w.frozen? ⟨b, o + j, none⟩ = false ∧ OwnT (w.setCell ⟨b, o + j, none⟩ (strV t)) B (.slice A m c) (l.set j t) ∧ B ≤ b ∧ ∃ cs fr, w.heap[b]? = some (.cells cs 9 fr) := by
  have hl := h.len_
  rcases h.2 with ⟨e, _⟩ | ⟨g, cap, cur, e, hb, hg, _⟩
  · injection e with _ e2 _; omega
  · injection e with e1 _ _
    subst e1
    refine ⟨g, 0, ⟨(l.getD j []).toArray⟩, rfl, ?_, ?_, ?_, hb, _, _, hg⟩
    · rw [Nat.zero_add]; exact h.cell_ j (by omega)
    · rw [Nat.zero_add]; exact h.free j
    · rw [Nat.zero_add]; exact h.set_ j t
/-- A store into the codes that were told. -/
theorem TellI.store {B : Nat} {A : Option Addr} {m c : Nat} {l : List Int} (h : TellI w B (.slice A m c) l) {j : Nat} (hj : j < m) (y : Int) :
    ∃ b o x, A = some ⟨b, o, none⟩ ∧ w.cell? ⟨b, o + j, none⟩ = some (.int .i64 x) ∧ w.frozen? ⟨b, o + j, none⟩ = false ∧ TellI (w.setCell ⟨b, o + j, none⟩ (.int .i64 y)) B (.slice A m c) (l.set j y) ∧ B ≤ b ∧ ∃ cs fr, w.heap[b]? = some (.cells cs 3 fr) := by
  rcases h with ⟨e, _⟩ | ⟨g, c', x, e, hO⟩
  · injection e with _ e2 _; omega
  · injection e with e1 e2 e3
    subst e1 e2 e3
    have hb : B ≤ g ∧ ∃ cs fr, w.heap[g]? = some (.cells cs 3 fr) := by
      rcases hO.2 with ⟨e, _⟩ | ⟨g', cap, cur, e, hb, hg, _⟩
      · cases e
      · injection e with e1 _ _
        injection e1 with e1
        injection e1 with e1 _ _
        subst e1
        exact ⟨hb, _, _, hg⟩
    have hs := hO.set_ (1 + j) y
    rw [Nat.add_comm 1 j, List.set_cons_succ] at hs
    refine ⟨g, 1, _, rfl, hO.cell_ (1 + j) (by simp; omega), hO.free _, .inr ⟨g, c, x, by rw [List.length_set], ?_⟩, hb.1, hb.2⟩
    rw [List.length_set, Nat.add_comm 1 j]
    exact hs
theorem Dc.set_far {base g : Nat} {pv : Value} {bm n : Nat} {Q : List Pth} (h : Dc w base g pv bm n Q) {b i : Nat} {u : Value} {cs : Array Value} {e : TypeId} {fr : Nat × Nat} (hb : w.heap[b]? = some (.cells cs e fr)) (h1 : e ≠ 69) (h2 : e ≠ 77) : Dc (w.setCell ⟨b, i, none⟩ u) base g pv bm n Q :=
  h.chg (S := fun k => k = b) ((Chg.refl _ w).set_ b i u (fun _ => rfl)) fun k hk hs => by
    subst hs
    rcases h.foot_ty hk _ _ _ hb with rfl | rfl
    · exact h1 rfl
    · exact h2 rfl
theorem TellI.set_far {B : Nat} {v : Value} {l : List Int} (h : TellI w B v l) {b i : Nat} {u : Value} {cs : Array Value} {fr : Nat × Nat} (hb : w.heap[b]? = some (.cells cs 9 fr)) : TellI (w.setCell ⟨b, i, none⟩ u) B v l :=
  h.chg (S := fun k => k = b) ((Chg.refl _ w).set_ b i u (fun _ => rfl)) fun {v'} {xs} {m} hr k hk hs => by
    subst hs
    rcases hr.2 with ⟨rfl, _⟩ | ⟨g2, cap2, cur2, rfl, _, hg2, _⟩
    · cases hk
    · simp only [Value.ownBlock, Option.some.injEq] at hk
      subst hk
      rw [hb] at hg2
      simp only [Option.some.injEq, Obj.cells.injEq] at hg2
      exact absurd hg2.2.1 (by decide)
theorem Below.set_above {B : Nat} {w' : World} (h : Below B w w') {b i : Nat} (hb : B ≤ b) (u : Value) : Below B w (w'.setCell ⟨b, i, none⟩ u) := h.setCell (p := ⟨b, i, none⟩) hb u
end
end Go.Proofs.Ytccdjjpkcahgfaa
