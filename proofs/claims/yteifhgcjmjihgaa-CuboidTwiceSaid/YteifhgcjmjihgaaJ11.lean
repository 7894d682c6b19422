/- Lists, Lits -/
import Derived.Test.YteifhgcjmjihgaaJ3
import Derived.Test.YteifhgcjmjihgaaJ9
namespace Go.Proofs.Yteifhgcjmjihgaa
set_option maxRecDepth 100000
open Go.RowKit

/-- What came in as ints, by its type. -/
theorem RC.ints {P : Program} {w : World} {t e : TypeId} {a : Option Addr} {n c : Nat} (ht : P.underlying t = some (.slice e)) (he : P.underlying e = some (.int .i64)) (hc : P.cellsOf e = 1) (h : RC P w t [.slice a n c]) :
    ∃ l, HasI w w.heap.size a n c l ∧ ∀ x ∈ l, -9223372036854775808 ≤ x ∧ x ≤ 9223372036854775807 := by
  have hs := h.slice ht
  have hshape : n ≤ c ∧ c ≤ maxLen ∧ (a = none → c = 0) := by
    rcases hs with ⟨h1, h2, h3⟩ | ⟨ad, h1, h2, h3, _⟩
    · subst h2 h3; exact ⟨Nat.le_refl _, Nat.zero_le _, fun _ => rfl⟩
    · exact ⟨h2, h3, fun e => by rw [h1] at e; cases e⟩
  rcases Nat.eq_zero_or_pos n with h0 | h0
  · subst h0
    exact ⟨[], ⟨rfl, Nat.zero_le _, hshape.2.1, hshape.2.2, Has.nil_⟩, fun x hx => by simp at hx⟩
  · obtain ⟨b, o, rfl, hb, _, _, hi⟩ := h.rows ht (by omega) h0
    have key : ∀ i, i < n → ∃ x : Int, w.cell? ⟨b, o + i, none⟩ = some (i64v x) ∧ -9223372036854775808 ≤ x ∧ x ≤ 9223372036854775807 := fun i hin => by
      obtain ⟨cs, hl, hcell, hr⟩ := hi i hin
      obtain ⟨x, rfl, hw⟩ := hr.int he
      have h1 := hcell 0 (by omega)
      rw [hc, Nat.mul_one, Nat.add_zero] at h1
      exact ⟨x, by rw [h1]; rfl, i64_of_wf hw⟩
    refine ⟨(List.range n).map fun i => match w.cell? ⟨b, o + i, none⟩ with | some (.int .i64 x) => x | _ => 0, ⟨by simp, hshape.1, hshape.2.1, hshape.2.2, fun _ => ⟨b, o, rfl, hb, fun j u hu => ?_⟩⟩, fun x hx => ?_⟩
    · rw [List.map_map, List.getElem?_map] at hu
      by_cases hj : j < n
      · obtain ⟨v, hv, _⟩ := key j hj
        rw [List.getElem?_range hj] at hu
        simp only [Option.map_some, Function.comp, hv, i64v, Option.some.injEq] at hu
        rw [hv, ← hu]
        rfl
      · rw [List.getElem?_eq_none (by simp; omega)] at hu
        cases hu
    · obtain ⟨i, hi1, rfl⟩ := List.mem_map.1 hx
      obtain ⟨v, hv, h1, h2⟩ := key i (List.mem_range.1 hi1)
      simp only [hv, i64v]
      exact ⟨h1, h2⟩

/-- The slice value '.slice A n c' reads as rows of ints. -/
structure HasL (w : World) (B : Nat) (A : Option Addr) (n c : Nat) (L : List (List Int)) : Prop where
  len : L.length = n
  cap : n ≤ c
  fit : c ≤ maxLen
  void : A = none → c = 0
  has : ∀ i, i < n → ∃ b o A' n' c', A = some ⟨b, o, none⟩ ∧ b < B ∧ w.cell? ⟨b, o + i, none⟩ = some (.slice A' n' c') ∧ HasI w B A' n' c' (L.getD i [])

section
variable {w w' : World} {B B' n c : Nat} {A : Option Addr} {L : List (List Int)}
theorem HasL.more (h : HasL w B A n c L) (hB : B ≤ B') : HasL w B' A n c L :=
  ⟨h.len, h.cap, h.fit, h.void, fun i hi => by obtain ⟨b, o, A', n', c', h1, h2, h3, h4⟩ := h.has i hi; exact ⟨b, o, A', n', c', h1, Nat.lt_of_lt_of_le h2 hB, h3, h4.more hB⟩⟩
theorem HasL.keep (h : HasL w B A n c L) (hk : ∀ b o, b < B → w'.cell? ⟨b, o, none⟩ = w.cell? ⟨b, o, none⟩) : HasL w' B A n c L :=
  ⟨h.len, h.cap, h.fit, h.void, fun i hi => by obtain ⟨b, o, A', n', c', h1, h2, h3, h4⟩ := h.has i hi; exact ⟨b, o, A', n', c', h1, h2, (hk b _ h2).trans h3, h4.keep hk⟩⟩
theorem HasL.below {C : Nat} (h : HasL w B A n c L) (hb : Below C w w') (hC : B ≤ C) : HasL w' B A n c L :=
  h.keep fun b o hp => hb.cell (p := ⟨b, o, none⟩) (Nat.lt_of_lt_of_le hp hC)
theorem HasL.belowS (h : HasL w w.heap.size A n c L) (hb : Below w.heap.size w w') : HasL w' w'.heap.size A n c L := (h.below hb (Nat.le_refl _)).more hb.size
theorem HasL.drewN (h : HasL w B A n c L) (k : Nat) : HasL (w.drewN k) B A n c L := h.keep fun _ _ _ => rfl
theorem HasL.drew (h : HasL w B A n c L) : HasL w.drew B A n c L := h.keep fun _ _ _ => rfl
theorem HasL.grown {row : Option Nat} (h : HasL w B A n c L) (hg : w.grownBy w' row) (hB : B ≤ w.heap.size) (hr : ∀ g, row = some g → B ≤ g) : HasL w' B A n c L :=
  h.keep fun b o hp => World.cell?_of_block (hg.block b (by omega) (fun e => by have := hr _ e.symm; omega))
theorem HasL.capMax (h : HasL w B A n c L) : c ≤ 9223372036854775807 := by
  have h2 := h.fit
  unfold maxLen at h2; omega
theorem HasL.at_ (h : HasL w B A n c L) {k : Nat} (hk : k < n) : ∃ b o A' n' c' l, A = some ⟨b, o, none⟩ ∧ b < B ∧ w.cell? ⟨b, o + k, none⟩ = some (.slice A' n' c') ∧ HasI w B A' n' c' l ∧ Hid (l = L.getD k []) := by
  obtain ⟨b, o, A', n', c', h1, h2, h3, h4⟩ := h.has k hk
  exact ⟨b, o, A', n', c', _, h1, h2, h3, h4, Lib.hid rfl⟩
theorem HasL.take_ (h : HasL w B A n c L) (k : Nat) (hk : k ≤ n) : HasL w B A k c (L.take k) :=
  ⟨by rw [List.length_take, h.len]; omega, Nat.le_trans hk h.cap, h.fit, h.void, fun i hi => by
    obtain ⟨b, o, A', n', c', h1, h2, h3, h4⟩ := h.has i (by omega)
    refine ⟨b, o, A', n', c', h1, h2, h3, ?_⟩
    have e : (L.take k).getD i [] = L.getD i [] := by simp [List.getD_eq_getElem?_getD, hi]
    rwa [e]⟩
/-- What a cut leaves: its address is the model's. -/
theorem HasL.drop_ (h : HasL w B A n c L) (k : Nat) (hk : k ≤ n) : HasL w B (if c = k then A else A.map (·.add (k * 1))) (n - k) (c - k) (L.drop k) := by
  have hc := h.cap; have hf := h.fit
  refine ⟨by rw [List.length_drop, h.len], by omega, by omega, fun hA => ?_, fun i hi => ?_⟩
  · split at hA
    · omega
    · rcases A with _ | a
      · have := h.void rfl; omega
      · cases hA
  · obtain ⟨b, o, A', n', c', rfl, h2, h3, h4⟩ := h.has (k + i) (by omega)
    rw [if_neg (by omega)]
    refine ⟨b, o + k, A', n', c', by simp [add_flat], h2, by rw [Nat.add_assoc]; exact h3, ?_⟩
    have e : (L.drop k).getD i [] = L.getD (k + i) [] := by simp [List.getD_eq_getElem?_getD]
    rwa [e]
end
/-- What came in as rows of ints, by its type. -/
theorem RC.lists {P : Program} {w : World} {t e f : TypeId} {a : Option Addr} {n c : Nat} (ht : P.underlying t = some (.slice e)) (he : P.underlying e = some (.slice f)) (hf : P.underlying f = some (.int .i64)) (hc : P.cellsOf e = 1) (hc' : P.cellsOf f = 1) (h : RC P w t [.slice a n c]) :
    ∃ L, HasL w w.heap.size a n c L ∧ ∀ l ∈ L, ∀ x ∈ l, -9223372036854775808 ≤ x ∧ x ≤ 9223372036854775807 := by
  have hs := h.slice ht
  have hshape : n ≤ c ∧ c ≤ maxLen ∧ (a = none → c = 0) := by
    rcases hs with ⟨h1, h2, h3⟩ | ⟨ad, h1, h2, h3, _⟩
    · subst h2 h3; exact ⟨Nat.le_refl _, Nat.zero_le _, fun _ => rfl⟩
    · exact ⟨h2, h3, fun e => by rw [h1] at e; cases e⟩
  rcases Nat.eq_zero_or_pos n with h0 | h0
  · subst h0
    exact ⟨[], ⟨rfl, Nat.zero_le _, hshape.2.1, hshape.2.2, fun i hi => absurd hi (by omega)⟩, fun l hl => by simp at hl⟩
  · obtain ⟨b, o, rfl, hb, _, _, hi⟩ := h.rows ht (by omega) h0
    have key : ∀ i, ∃ l : List Int, (i < n → ∃ A' n' c', w.cell? ⟨b, o + i, none⟩ = some (.slice A' n' c') ∧ HasI w w.heap.size A' n' c' l) ∧ ∀ x ∈ l, -9223372036854775808 ≤ x ∧ x ≤ 9223372036854775807 := fun i => by
      by_cases hin : i < n
      · obtain ⟨cs, hl, hcell, hr⟩ := hi i hin
        obtain ⟨A', n', c', rfl⟩ := hr.slice_shape he
        obtain ⟨l, h1, h2⟩ := hr.ints he hf hc'
        have h3 := hcell 0 (by omega)
        rw [hc, Nat.mul_one, Nat.add_zero] at h3
        exact ⟨l, fun _ => ⟨A', n', c', h3, h1⟩, h2⟩
      · exact ⟨[], fun h => absurd h hin, fun x hx => by simp at hx⟩
    obtain ⟨g, hg⟩ := Classical.axiomOfChoice key
    refine ⟨(List.range n).map g, ⟨by simp, hshape.1, hshape.2.1, hshape.2.2, fun i hin => ?_⟩, fun l hl => ?_⟩
    · obtain ⟨A', n', c', h1, h2⟩ := (hg i).1 hin
      refine ⟨b, o, A', n', c', rfl, hb, h1, ?_⟩
      have e : ((List.range n).map g).getD i [] = g i := by simp [List.getD_eq_getElem?_getD, hin]
      rwa [e]
    · obtain ⟨i, _, rfl⟩ := List.mem_map.1 hl
      exact (hg i).2

/-- A row of the call's own, of slices that read as ints and lie below C. -/
def OwnL (w : World) (base C : Nat) (T : TypeId) (v : Value) (L : List (List Int)) : Prop :=
  ∃ xs : List Value, w.ownsRow base T 1 v L.length xs ∧ ∀ (i : Nat) (l : List Int), L[i]? = some l → ∃ (A : Option Addr) (n c : Nat), xs[i]? = some (Value.slice A n c) ∧ HasI w C A n c l
section
variable {w w' : World} {base C : Nat} {T : TypeId} {v : Value} {L : List (List Int)}
theorem OwnL.nil_ (w : World) (base C : Nat) (T : TypeId) : OwnL w base C T (.slice none 0 0) [] := ⟨[], World.ownsRow_nil _ _ _ _, fun i l h => by simp at h⟩
theorem OwnL.below {D : Nat} (h : OwnL w base C T v L) (hb : Below D w w') (hD : w.heap.size ≤ D) (hC : C ≤ w.heap.size) : OwnL w' base C T v L := by
  obtain ⟨xs, h1, h2⟩ := h
  refine ⟨xs, World.ownsRow.kept (row := none) h1 ⟨hb.os, hb.tape, hb.output, hb.size, fun k hk _ => hb.block k (by omega)⟩ (by cases v.ownBlock <;> simp), fun i l hl => ?_⟩
  obtain ⟨A, n, c, e, hh⟩ := h2 i l hl
  exact ⟨A, n, c, e, hh.below hb (by omega)⟩
theorem OwnL.low {base' : Nat} (h : OwnL w base C T v L) (hb : base' ≤ base) : OwnL w base' C T v L := by
  obtain ⟨xs, h1, h2⟩ := h
  exact ⟨xs, row_low h1 hb, h2⟩
/-- One more: what append leaves. -/
theorem OwnL.snoc {v' : Value} {xs : List Value} {A : Option Addr} {n c : Nat} {l : List Int} (h2 : ∀ (i : Nat) (l : List Int), L[i]? = some l → ∃ (A : Option Addr) (n c : Nat), xs[i]? = some (Value.slice A n c) ∧ HasI w C A n c l) (hl : xs.length = L.length) (hh : HasI w C A n c l)
    (hown : w'.ownsRow base T 1 v' (L.length + 1) (xs ++ [.slice A n c])) (hk : ∀ b o, b < C → w'.cell? ⟨b, o, none⟩ = w.cell? ⟨b, o, none⟩) : OwnL w' base C T v' (L ++ [l]) := by
  refine ⟨_, by simpa using hown, fun i l' hi => ?_⟩
  by_cases hlt : i < L.length
  · rw [List.getElem?_append_left hlt] at hi
    obtain ⟨A', n', c', e, h⟩ := h2 i l' hi
    exact ⟨A', n', c', by rw [List.getElem?_append_left (by omega)]; exact e, h.keep hk⟩
  · have hie : i = L.length := by
      have := (List.getElem?_eq_some_iff.1 hi).1
      simp at this
      omega
    subst hie
    simp at hi
    subst hi
    exact ⟨A, n, c, by rw [List.getElem?_append_right (by omega), hl]; simp, hh.keep hk⟩
/-- It reads as what it holds. -/
theorem OwnL.read (h : OwnL w base C T v L) (hC : C ≤ w.heap.size) : ∃ A c, v = .slice A L.length c ∧ HasL w w.heap.size A L.length c L := by
  obtain ⟨xs, h1, h2⟩ := h
  have hl := h1.1
  rcases h1.2 with ⟨rfl, h0⟩ | ⟨g, cap, cur, rfl, hb, hg, hnc, hcm, _⟩
  · rw [h0]
    exact ⟨none, 0, rfl, h0, Nat.le_refl _, Nat.zero_le _, fun _ => rfl, fun i hi => absurd hi (by omega)⟩
  · refine ⟨_, cap, rfl, rfl, hnc, hcm, (fun h => by cases h), fun i hi => ?_⟩
    obtain ⟨A, n, c, e, hh⟩ := h2 i _ (List.getElem?_eq_getElem hi)
    refine ⟨g, 0, A, n, c, rfl, (Array.getElem?_eq_some_iff.1 hg).1, ?_, ?_⟩
    · have := h1.cells (g := g) rfl i _ e
      rwa [add_flat] at this
    · rw [List.getD_eq_getElem?_getD, List.getElem?_eq_getElem hi]
      exact hh.more hC
end
end Go.Proofs.Yteifhgcjmjihgaa
namespace Go.Proofs.Yteifhgcjmjihgaa
set_option maxRecDepth 100000
open Go.RowKit

theorem litI1 (W : World) (y : Int) (g : Nat) (hg : g = W.heap.size) : HasI (W.alloc (.cells #[.int .i64 y] 3)) (W.alloc (.cells #[.int .i64 y] 3)).heap.size (some ⟨g, 0, none⟩) 1 1 [y] :=
  (HasI.litAt W [y] #[.int .i64 y] rfl 3 (0, 0) 1 rfl (by decide) g hg).more (by subst hg; simp)
theorem HasL.lit2 {w : World} {A0 : Option Addr} {n0 c0 : Nat} {l0 : List Int} {A1 : Option Addr} {n1 c1 : Nat} {l1 : List Int} (h0 : HasI w w.heap.size A0 n0 c0 l0) (h1 : HasI w w.heap.size A1 n1 c1 l1) (T : TypeId) (g : Nat) (hg : g = w.heap.size) :
    HasL (w.alloc (.cells #[.slice A0 n0 c0, .slice A1 n1 c1] T)) (w.alloc (.cells #[.slice A0 n0 c0, .slice A1 n1 c1] T)).heap.size (some ⟨g, 0, none⟩) 2 2 [l0, l1] := by
  subst hg
  refine ⟨rfl, Nat.le_refl _, by decide, (fun h => by cases h), fun i hi => ?_⟩
  match i, hi with
  | 0, _ => exact ⟨w.heap.size, 0, _, _, _, rfl, by simp, by rw [cell_new]; rfl, h0.allocS _⟩
  | 1, _ => exact ⟨w.heap.size, 0, _, _, _, rfl, by simp, by rw [cell_new]; rfl, h1.allocS _⟩
  | (j + 2), h => exact absurd h (by omega)
theorem HasL.lit3 {w : World} {A0 : Option Addr} {n0 c0 : Nat} {l0 : List Int} {A1 : Option Addr} {n1 c1 : Nat} {l1 : List Int} {A2 : Option Addr} {n2 c2 : Nat} {l2 : List Int} (h0 : HasI w w.heap.size A0 n0 c0 l0) (h1 : HasI w w.heap.size A1 n1 c1 l1) (h2 : HasI w w.heap.size A2 n2 c2 l2) (T : TypeId) (g : Nat) (hg : g = w.heap.size) :
    HasL (w.alloc (.cells #[.slice A0 n0 c0, .slice A1 n1 c1, .slice A2 n2 c2] T)) (w.alloc (.cells #[.slice A0 n0 c0, .slice A1 n1 c1, .slice A2 n2 c2] T)).heap.size (some ⟨g, 0, none⟩) 3 3 [l0, l1, l2] := by
  subst hg
  refine ⟨rfl, Nat.le_refl _, by decide, (fun h => by cases h), fun i hi => ?_⟩
  match i, hi with
  | 0, _ => exact ⟨w.heap.size, 0, _, _, _, rfl, by simp, by rw [cell_new]; rfl, h0.allocS _⟩
  | 1, _ => exact ⟨w.heap.size, 0, _, _, _, rfl, by simp, by rw [cell_new]; rfl, h1.allocS _⟩
  | 2, _ => exact ⟨w.heap.size, 0, _, _, _, rfl, by simp, by rw [cell_new]; rfl, h2.allocS _⟩
  | (j + 3), h => exact absurd h (by omega)
theorem HasL.lit4 {w : World} {A0 : Option Addr} {n0 c0 : Nat} {l0 : List Int} {A1 : Option Addr} {n1 c1 : Nat} {l1 : List Int} {A2 : Option Addr} {n2 c2 : Nat} {l2 : List Int} {A3 : Option Addr} {n3 c3 : Nat} {l3 : List Int} (h0 : HasI w w.heap.size A0 n0 c0 l0) (h1 : HasI w w.heap.size A1 n1 c1 l1) (h2 : HasI w w.heap.size A2 n2 c2 l2) (h3 : HasI w w.heap.size A3 n3 c3 l3) (T : TypeId) (g : Nat) (hg : g = w.heap.size) :
    HasL (w.alloc (.cells #[.slice A0 n0 c0, .slice A1 n1 c1, .slice A2 n2 c2, .slice A3 n3 c3] T)) (w.alloc (.cells #[.slice A0 n0 c0, .slice A1 n1 c1, .slice A2 n2 c2, .slice A3 n3 c3] T)).heap.size (some ⟨g, 0, none⟩) 4 4 [l0, l1, l2, l3] := by
  subst hg
  refine ⟨rfl, Nat.le_refl _, by decide, (fun h => by cases h), fun i hi => ?_⟩
  match i, hi with
  | 0, _ => exact ⟨w.heap.size, 0, _, _, _, rfl, by simp, by rw [cell_new]; rfl, h0.allocS _⟩
  | 1, _ => exact ⟨w.heap.size, 0, _, _, _, rfl, by simp, by rw [cell_new]; rfl, h1.allocS _⟩
  | 2, _ => exact ⟨w.heap.size, 0, _, _, _, rfl, by simp, by rw [cell_new]; rfl, h2.allocS _⟩
  | 3, _ => exact ⟨w.heap.size, 0, _, _, _, rfl, by simp, by rw [cell_new]; rfl, h3.allocS _⟩
  | (j + 4), h => exact absurd h (by omega)
end Go.Proofs.Yteifhgcjmjihgaa
