/- Layer 8's statements: rows that are written over. -/
import Derived.Test.YtbiogldapodhmaaSchemaH
import Derived.Test.YtbiogldapodhmaaIntsW
namespace Go.Proofs.Ytbiogldapodhmaa
open Go.RowKit

theorem few_again (V : List (List Int)) : fewV (fewV V 12) 12 = fewV V 12 := by
  unfold fewV
  rw [List.take_of_length_le (by rw [List.length_map]; exact List.length_take_le 12 V), List.map_map]
  congr 1
  funext l
  simp [List.take_take]
/-- A row of ints that lies below C, or is the call's own. -/
def InI (w : World) (C base : Nat) (x : Value) (l : List Int) : Prop := (∃ A n c, x = .slice A n c ∧ HasI w C A n c l) ∨ OwnI w base x l
/-- A row of the call's own, of such rows. -/
def RowV (w : World) (base C : Nat) (v : Value) (V : List (List Int)) : Prop :=
  ∃ xs, w.ownsRow base 30 1 v V.length xs ∧ ∀ (i : Nat) (l : List Int), V[i]? = some l → ∃ x, xs[i]? = some x ∧ InI w C base x l
section
variable {w w' : World} {base C : Nat} {v : Value} {V : List (List Int)}
theorem RowV.of_own (h : OwnL w base C 30 v V) : RowV w base C v V := by
  obtain ⟨xs, h1, h2⟩ := h
  exact ⟨xs, h1, fun i l hi => by obtain ⟨A, n, c, e, hh⟩ := h2 i l hi; exact ⟨_, e, .inl ⟨A, n, c, rfl, hh⟩⟩⟩
theorem InI.below {x : Value} {l : List Int} (h : InI w C base x l) (hb : Below w.heap.size w w') (hC : C ≤ w.heap.size) : InI w' C base x l := by
  rcases h with ⟨A, n, c, e, hh⟩ | h
  · exact .inl ⟨A, n, c, e, hh.below hb hC⟩
  · exact .inr (OwnI.below h hb (Nat.le_refl _))
theorem RowV.below (h : RowV w base C v V) (hb : Below w.heap.size w w') (hC : C ≤ w.heap.size) : RowV w' base C v V := by
  obtain ⟨xs, h1, h2⟩ := h
  exact ⟨xs, row_below h1 hb, fun i l hi => by obtain ⟨x, e, hx⟩ := h2 i l hi; exact ⟨x, e, hx.below hb hC⟩⟩
theorem InI.read {x : Value} {l : List Int} (h : InI w C base x l) (hC : C ≤ w.heap.size) : ∃ A n c, x = .slice A n c ∧ HasI w w.heap.size A n c l := by
  rcases h with ⟨A, n, c, e, hh⟩ | h
  · exact ⟨A, n, c, e, hh.more hC⟩
  · obtain ⟨A, n, c, e, hh, _⟩ := h.formN
    exact ⟨A, n, c, e, hh⟩
theorem RowV.read (h : RowV w base C v V) (hC : C ≤ w.heap.size) : ∃ A c, v = .slice A V.length c ∧ HasL w w.heap.size A V.length c V := by
  obtain ⟨xs, h1, h2⟩ := h
  rcases h1.2 with ⟨rfl, h0⟩ | ⟨g, cap, cur, rfl, hb, hg, hnc, hcm, _⟩
  · rw [h0]
    exact ⟨none, 0, rfl, h0, Nat.le_refl _, Nat.zero_le _, fun _ => rfl, fun i hi => absurd hi (by omega)⟩
  · refine ⟨_, cap, rfl, rfl, hnc, hcm, (fun h => by cases h), fun i hi => ?_⟩
    obtain ⟨x, e, hx⟩ := h2 i _ (List.getElem?_eq_getElem hi)
    obtain ⟨A, n, c, rfl, hh⟩ := hx.read hC
    refine ⟨g, 0, A, n, c, rfl, (Array.getElem?_eq_some_iff.1 hg).1, ?_, ?_⟩
    · have := h1.cells (g := g) rfl i _ e
      rwa [add_flat] at this
    · rw [List.getD_eq_getElem?_getD, List.getElem?_eq_getElem hi]
      exact hh
theorem RowV.formP (h : RowV w base C v V) (hl : 0 < V.length) : ∃ g c, v = .slice (some ⟨g, 0, none⟩) V.length c ∧ base ≤ g ∧ g < w.heap.size := by
  obtain ⟨xs, h1, _⟩ := h
  rcases h1.2 with ⟨_, h0⟩ | ⟨g, cap, cur, rfl, hb, hg, _⟩
  · omega
  · exact ⟨g, cap, rfl, hb, (Array.getElem?_eq_some_iff.1 hg).1⟩
theorem RowV.len {A : Option Addr} {n c : Nat} (h : RowV w base C (.slice A n c) V) : V.length = n := by
  obtain ⟨xs, h1, _⟩ := h
  rcases h1.2 with ⟨e, h0⟩ | ⟨g, cap, cur, e, _⟩
  · injection e with _ e2 _; omega
  · injection e with _ e2 _; exact e2.symm
theorem RowV.at_ {g n c : Nat} (h : RowV w base C (.slice (some ⟨g, 0, none⟩) n c) V) (hC : C ≤ w.heap.size) {k : Nat} (hk : k < V.length) :
    ∃ A' n' c' l, w.cell? ⟨g, k, none⟩ = some (.slice A' n' c') ∧ w.frozen? ⟨g, k, none⟩ = false ∧ HasI w w.heap.size A' n' c' l ∧ Hid (V.getD k [] = l) := by
  have hn := h.len
  obtain ⟨xs, h1, h2⟩ := h
  obtain ⟨x, e, hx⟩ := h2 k (V.getD k []) (by rw [List.getD_eq_getElem?_getD, List.getElem?_eq_getElem hk]; rfl)
  obtain ⟨A', n', c', rfl, hh⟩ := hx.read hC
  have hcell := h1.cells (g := g) rfl k _ e
  rw [add_flat, Nat.zero_add] at hcell
  rw [hn] at h1
  exact ⟨A', n', c', _, hcell, h1.frozenAt k, hh, Lib.hid rfl⟩
/-- One of them is put in place of itself, in memory of its own. -/
theorem RowV.set_ {g n c : Nat} (h : RowV w base C (.slice (some ⟨g, 0, none⟩) n c) V) (hC : C ≤ base) (hg : base ≤ g) {k : Nat} {x : Value} {l : List Int} (hk : k < V.length) (hl : V.getD k [] = l) (hx : OwnI w base x l) : RowV (w.setCell ⟨g, k, none⟩ x) base C (.slice (some ⟨g, 0, none⟩) n c) V := by
  have hn := h.len
  obtain ⟨xs, h1, h2⟩ := h
  have key : ∀ {y : Value} {l : List Int}, InI w C base y l → InI (w.setCell ⟨g, k, none⟩ x) C base y l := fun {y} {l} hy => by
    rcases hy with ⟨A, m, d, e, hh⟩ | hy
    · exact .inl ⟨A, m, d, e, hh.keep fun b o hb => World.cell?_of_block (Below.heap_setCell _ _ _ _ (by show b ≠ g; omega))⟩
    · refine .inr (OwnI.other hy (fun e => ?_) x)
      rcases row_ne hy h1 (by decide) with h3 | h3
      · rw [e] at h3; cases h3
      · exact h3 e
  have h1' := h1
  rw [hn] at h1'
  have hs := (World.ownsRow.stored h1' k x).1
  refine ⟨_, by rw [hn]; exact hs, fun i l' hi => ?_⟩
  by_cases hik : i = k
  · subst hik
    have e : V.getD i [] = l' := by rw [List.getD_eq_getElem?_getD, hi]; rfl
    rw [hl] at e
    subst e
    exact ⟨x, List.getElem?_set_self (by have := h1.1; omega), key (.inr hx)⟩
  · obtain ⟨y, e, hy⟩ := h2 i l' hi
    exact ⟨y, by rw [List.getElem?_set_ne (by omega)]; exact e, key hy⟩
end

/-- A row of the call's own, of rows of ints that may be written. -/
def RowS (w : World) (base : Nat) (v : Value) (N : Nat) (vs : List Value) : Prop :=
  w.ownsRow base 30 1 v N vs ∧ ∀ i, i < N → ∃ A n c, vs[i]? = some (.slice A n c) ∧ InS w base A n ∧ n ≤ 9223372036854775806
section
variable {w w' : World} {base N : Nat} {v : Value} {vs : List Value}
theorem RowS.of_own {Q : List (List Int)} (h : OwnLs w base v Q) (hq : ∀ q ∈ Q, q.length ≤ 1000000) : ∃ vs, RowS w base v Q.length vs := by
  obtain ⟨vs, h1, h2⟩ := h
  refine ⟨vs, h1, fun i hi => ?_⟩
  obtain ⟨x, e, hx⟩ := h2 i _ (List.getElem?_eq_getElem hi)
  obtain ⟨A, n, c, rfl, hh, _⟩ := hx.formN
  refine ⟨A, n, c, e, InS.of hx, ?_⟩
  have h3 := hq _ (List.getElem_mem hi)
  have h4 := hh.len
  omega
theorem RowS.shape (h : RowS w base v N vs) : ∃ A c, v = .slice A N c ∧ N ≤ c ∧ c ≤ 9223372036854775807 := by
  rcases h.1.2 with ⟨rfl, rfl⟩ | ⟨g, cap, cur, rfl, _, _, hnc, hcm, _⟩
  · exact ⟨none, 0, rfl, Nat.le_refl _, Nat.zero_le _⟩
  · exact ⟨_, cap, rfl, hnc, by unfold maxLen at hcm; omega⟩
theorem RowS.at_ {A : Option Addr} {c : Nat} (h : RowS w base (.slice A N c) N vs) {i : Nat} (hi : i < N) : ∃ g A' n' c', A = some ⟨g, 0, none⟩ ∧ w.cell? ⟨g, i, none⟩ = some (.slice A' n' c') ∧ vs[i]? = some (.slice A' n' c') ∧ n' ≤ 9223372036854775806 := by
  obtain ⟨A', n', c', e, _, hm⟩ := h.2 i hi
  rcases h.1.2 with ⟨e1, h0⟩ | ⟨g, cap, cur, e1, _⟩
  · omega
  · injection e1 with e1 _ _
    subst e1
    have hcell := h.1.cells (g := g) rfl i _ e
    rw [add_flat, Nat.zero_add] at hcell
    exact ⟨g, A', n', c', rfl, hcell, e, hm⟩
theorem RowS.get {i : Nat} {A : Option Addr} {n c : Nat} (h : RowS w base v N vs) (hi : i < N) (e : vs[i]? = some (.slice A n c)) : InS w base A n := by
  obtain ⟨A', n', c', e', hS, _⟩ := h.2 i hi
  rw [e] at e'
  have := Option.some.inj e'
  injection this with e1 e2 _
  subst e1 e2
  exact hS
theorem RowS.cell {g i : Nat} {u : Value} {c : Nat} (h : RowS w base (.slice (some ⟨g, 0, none⟩) N c) N vs) (e : vs[i]? = some u) : w.cell? ⟨g, i, none⟩ = some u := by
  have hcell := h.1.cells (g := g) rfl i _ e
  rwa [add_flat, Nat.zero_add] at hcell
theorem RowS.set_ (h : RowS w base v N vs) {b : Nat} {cs : Array Value} (hb : Block w b 3 cs) (k : Nat) (u : Value) : RowS (w.setCell ⟨b, k, none⟩ u) base v N vs := by
  refine ⟨ownsRow_setCell_other h.1 (a := ⟨b, k, none⟩) (fun e => ?_) u, fun i hi => ?_⟩
  · rcases h.1.2 with ⟨rfl, _⟩ | ⟨g, cap, cur, rfl, _, hg, _⟩
    · cases e
    · simp only [Value.ownBlock, Option.some.injEq] at e
      subst e
      have hb' : w.heap[g]? = some (.cells cs 3 (0, 0)) := hb
      rw [hg] at hb'
      simp only [Option.some.injEq, Obj.cells.injEq] at hb'
      exact absurd hb'.2.1 (by decide)
  · obtain ⟨A, n, c, e, hS, hm⟩ := h.2 i hi
    exact ⟨A, n, c, e, hS.set_ b k u, hm⟩
end
end Go.Proofs.Ytbiogldapodhmaa
