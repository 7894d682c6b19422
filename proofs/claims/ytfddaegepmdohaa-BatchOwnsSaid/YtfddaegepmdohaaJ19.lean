/- Dims, Facts -/
import Derived.Test.YtfddaegepmdohaaJ2
import Derived.Test.YtfddaegepmdohaaJ14
import Derived.OneCell
namespace Go.Proofs.Ytfddaegepmdohaa
set_option maxRecDepth 100000
open Go.RowKit

/-- The slice value '.slice A n c' reads as dimensions. -/
structure HasDs (w : World) (B : Nat) (A : Option Addr) (n c : Nat) (D : List PDim) : Prop where
  len : D.length = n
  cap : n ≤ c
  fit : c ≤ maxLen
  void : A = none → c = 0
  has : ∀ i, i < n → ∃ b o A' n' c', A = some ⟨b, o, none⟩ ∧ b < B ∧ w.cell? ⟨b, o + i * 2, none⟩ = some (strV (D.getD i zeroD).1) ∧ w.cell? ⟨b, o + i * 2 + 1, none⟩ = some (.slice A' n' c') ∧ HasT w B A' n' c' (D.getD i zeroD).2
section
variable {w w' : World} {B B' n c : Nat} {A : Option Addr} {D : List PDim}
theorem HasDs.keep (h : HasDs w B A n c D) (hk : ∀ b o, b < B → w'.cell? ⟨b, o, none⟩ = w.cell? ⟨b, o, none⟩) : HasDs w' B A n c D :=
  ⟨h.len, h.cap, h.fit, h.void, fun i hi => by
    obtain ⟨b, o, A', n', c', h1, h2, h3, h4, h5⟩ := h.has i hi
    exact ⟨b, o, A', n', c', h1, h2, (hk b _ h2).trans h3, (hk b _ h2).trans h4, h5.keep hk⟩⟩
theorem HasDs.more (h : HasDs w B A n c D) (hB : B ≤ B') : HasDs w B' A n c D :=
  ⟨h.len, h.cap, h.fit, h.void, fun i hi => by
    obtain ⟨b, o, A', n', c', h1, h2, h3, h4, h5⟩ := h.has i hi
    exact ⟨b, o, A', n', c', h1, Nat.lt_of_lt_of_le h2 hB, h3, h4, h5.more hB⟩⟩
theorem HasDs.below {C : Nat} (h : HasDs w B A n c D) (hb : Below C w w') (hC : B ≤ C) : HasDs w' B A n c D :=
  h.keep fun b o hp => hb.cell (p := ⟨b, o, none⟩) (Nat.lt_of_lt_of_le hp hC)
theorem HasDs.belowS (h : HasDs w w.heap.size A n c D) (hb : Below w.heap.size w w') : HasDs w' w'.heap.size A n c D := (h.below hb (Nat.le_refl _)).more hb.size
theorem HasDs.drewN (h : HasDs w B A n c D) (k : Nat) : HasDs (w.drewN k) B A n c D := h.keep fun _ _ _ => rfl
theorem HasDs.lenMax (h : HasDs w B A n c D) : n ≤ 9223372036854775807 := by
  have h1 := h.cap; have h2 := h.fit
  unfold maxLen at h2; omega
theorem HasDs.capMax (h : HasDs w B A n c D) : c ≤ 9223372036854775807 := by
  have h2 := h.fit
  unfold maxLen at h2; omega
/-- The k-th one, in letters. -/
theorem HasDs.at_ (h : HasDs w B A n c D) {k : Nat} (hk : k < n) : ∃ b o x A' n' c' L, A = some ⟨b, o, none⟩ ∧ b < B ∧
    w.cell? ⟨b, o + k * 2, none⟩ = some (.string ⟨x.toArray⟩) ∧ w.cell? ⟨b, o + k * 2 + 1, none⟩ = some (.slice A' n' c') ∧ HasT w B A' n' c' L ∧ Hid (D.getD k zeroD = (x, L)) := by
  obtain ⟨b, o, A', n', c', h1, h2, h3, h4, h5⟩ := h.has k hk
  exact ⟨b, o, _, A', n', c', _, h1, h2, h3, h4, h5, Lib.hid rfl⟩
theorem HasDs.take_ (h : HasDs w B A n c D) (k : Nat) (hk : k ≤ n) : HasDs w B A k c (D.take k) :=
  ⟨by rw [List.length_take, h.len]; omega, Nat.le_trans hk h.cap, h.fit, h.void, fun i hi => by
    have e : (D.take k).getD i zeroD = D.getD i zeroD := by simp [List.getD_eq_getElem?_getD, hi]
    rw [e]
    exact h.has i (by omega)⟩
end

/-! ### A schema by value -/
abbrev schV (A1 : Option Addr) (n1 c1 : Nat) (A2 : Option Addr) (n2 c2 : Nat) (A3 : Option Addr) (n3 c3 : Nat) : Value :=
  .agg #[.slice A1 n1 c1, .slice A2 n2 c2, .slice A3 n3 c3]
/-- Three slices that read as a schema's dimensions, measures and views. -/
structure HasS (w : World) (B : Nat) (A1 : Option Addr) (n1 c1 : Nat) (A2 : Option Addr) (n2 c2 : Nat) (A3 : Option Addr) (n3 c3 : Nat) (D : List PDim) (M : List Txt) (V : List (List Int)) : Prop where
  d : HasDs w B A1 n1 c1 D
  m : HasT w B A2 n2 c2 M
  v : HasL w B A3 n3 c3 V
section
variable {w w' : World} {B B' n1 c1 n2 c2 n3 c3 : Nat} {A1 A2 A3 : Option Addr} {D : List PDim} {M : List Txt} {V : List (List Int)}
theorem HasS.keep (h : HasS w B A1 n1 c1 A2 n2 c2 A3 n3 c3 D M V) (hk : ∀ b o, b < B → w'.cell? ⟨b, o, none⟩ = w.cell? ⟨b, o, none⟩) : HasS w' B A1 n1 c1 A2 n2 c2 A3 n3 c3 D M V := ⟨h.d.keep hk, h.m.keep hk, h.v.keep hk⟩
theorem HasS.more (h : HasS w B A1 n1 c1 A2 n2 c2 A3 n3 c3 D M V) (hB : B ≤ B') : HasS w B' A1 n1 c1 A2 n2 c2 A3 n3 c3 D M V := ⟨h.d.more hB, h.m.more hB, h.v.more hB⟩
theorem HasS.below {C : Nat} (h : HasS w B A1 n1 c1 A2 n2 c2 A3 n3 c3 D M V) (hb : Below C w w') (hC : B ≤ C) : HasS w' B A1 n1 c1 A2 n2 c2 A3 n3 c3 D M V := ⟨h.d.below hb hC, h.m.below hb hC, h.v.below hb hC⟩
theorem HasS.belowS (h : HasS w w.heap.size A1 n1 c1 A2 n2 c2 A3 n3 c3 D M V) (hb : Below w.heap.size w w') : HasS w' w'.heap.size A1 n1 c1 A2 n2 c2 A3 n3 c3 D M V := (h.below hb (Nat.le_refl _)).more hb.size
theorem HasS.drewN (h : HasS w B A1 n1 c1 A2 n2 c2 A3 n3 c3 D M V) (k : Nat) : HasS (w.drewN k) B A1 n1 c1 A2 n2 c2 A3 n3 c3 D M V := h.keep fun _ _ _ => rfl
end

/-! ### What came in -/
theorem cells_dim : Try.prog.cellsOf 55 = 2 := by kernel_rfl
theorem cells_string : Try.prog.cellsOf 9 = 1 := by kernel_rfl
theorem cells_strings : Try.prog.cellsOf 23 = 1 := by kernel_rfl
theorem cells_int1 : Try.prog.cellsOf 3 = 1 := by kernel_rfl
theorem cells_ints : Try.prog.cellsOf 32 = 1 := by kernel_rfl
theorem cells_dims : Try.prog.cellsOf 22 = 1 := by kernel_rfl
theorem cells_lists : Try.prog.cellsOf 24 = 1 := by kernel_rfl
theorem cells_schema : Try.prog.cellsOf 26 = 3 := by kernel_rfl
theorem dim_of {w : World} {cs : List Value} (h : RC Try.prog w 55 cs) : ∃ (x : Txt) (A : Option Addr) (n c : Nat) (L : List Txt), cs = [strV x, .slice A n c] ∧ HasT w w.heap.size A n c L ∧ x.length ≤ maxLen ∧ ∀ s ∈ L, s.length ≤ maxLen := by
  have hl := h.len Try.underlying55
  rw [cells_dim] at hl
  obtain ⟨x, hx, hxl⟩ := RC.text Try.underlying9 (h.field Try.underlying55 0 _ rfl)
  have f1 := h.field Try.underlying55 1 _ rfl
  obtain ⟨A, n, c, e1⟩ := f1.slice_shape Try.underlying23
  rw [e1] at f1
  obtain ⟨L, h1, k1⟩ := f1.texts Try.underlying23 Try.underlying9 cells_string
  have hx : (cs.drop 0).take (Try.prog.cellsOf 9) = [strV x] := hx
  have e1 : (cs.drop 1).take (Try.prog.cellsOf 23) = [.slice A n c] := e1
  rw [cells_string] at hx
  rw [cells_strings] at e1
  match cs, hl with
  | [u0, u1], _ =>
    simp at hx e1
    subst hx e1
    exact ⟨x, A, n, c, L, rfl, h1, hxl, k1⟩
/-- All texts of some dimensions are texts of a program. -/
def FitD (D : List PDim) : Prop := ∀ d ∈ D, d.1.length ≤ maxLen ∧ ∀ s ∈ d.2, s.length ≤ maxLen
theorem dims_of {w : World} {a : Option Addr} {n c : Nat} (h : RC Try.prog w 22 [.slice a n c]) :
    ∃ D, HasDs w w.heap.size a n c D ∧ FitD D := by
  have hs := h.slice Try.underlying22
  have hshape : n ≤ c ∧ c ≤ maxLen ∧ (a = none → c = 0) := by
    rcases hs with ⟨h1, h2, h3⟩ | ⟨ad, h1, h2, h3, _⟩
    · subst h2 h3; exact ⟨Nat.le_refl _, Nat.zero_le _, fun _ => rfl⟩
    · exact ⟨h2, h3, fun e => by rw [h1] at e; cases e⟩
  rcases Nat.eq_zero_or_pos n with h0 | h0
  · subst h0
    exact ⟨[], ⟨rfl, Nat.zero_le _, hshape.2.1, hshape.2.2, fun i hi => absurd hi (by omega)⟩, fun d hd => by simp at hd⟩
  · obtain ⟨b, o, rfl, hb, _, _, hi⟩ := h.rows Try.underlying22 (by rw [cells_dim]; decide) h0
    have key : ∀ i, ∃ q : PDim, (i < n → ∃ A n' c', w.cell? ⟨b, o + i * 2, none⟩ = some (strV q.1) ∧ w.cell? ⟨b, o + i * 2 + 1, none⟩ = some (.slice A n' c') ∧ HasT w w.heap.size A n' c' q.2) ∧ q.1.length ≤ maxLen ∧ ∀ s ∈ q.2, s.length ≤ maxLen := fun i => by
      by_cases hin : i < n
      · obtain ⟨cs, hl, hcell, hr⟩ := hi i hin
        rw [cells_dim] at hcell
        obtain ⟨x, A, n', c', L, rfl, hT, k1, k2⟩ := dim_of hr
        exact ⟨(x, L), fun _ => ⟨A, n', c', hcell 0 (by decide), hcell 1 (by decide), hT⟩, k1, k2⟩
      · exact ⟨zeroD, fun h => absurd h hin, Nat.zero_le _, fun s hs => by simp [zeroD] at hs⟩
    obtain ⟨g, hg⟩ := Classical.axiomOfChoice key
    refine ⟨(List.range n).map g, ⟨by simp, hshape.1, hshape.2.1, hshape.2.2, fun i hin => ?_⟩, fun d hd => ?_⟩
    · obtain ⟨A, n', c', h1, h2, h3⟩ := (hg i).1 hin
      have e : ((List.range n).map g).getD i zeroD = g i := by simp [List.getD_eq_getElem?_getD, hin]
      rw [e]
      exact ⟨b, o, A, n', c', rfl, hb, h1, h2, h3⟩
    · obtain ⟨i, _, rfl⟩ := List.mem_map.1 hd
      exact (hg i).2
/-- A schema that came in by value. -/
theorem schema_of {w : World} {cs : List Value} (h : RC Try.prog w 26 cs) : ∃ (A1 : Option Addr) (n1 c1 : Nat) (A2 : Option Addr) (n2 c2 : Nat) (A3 : Option Addr) (n3 c3 : Nat) (D : List PDim) (M : List Txt) (V : List (List Int)),
    cs = [.slice A1 n1 c1, .slice A2 n2 c2, .slice A3 n3 c3] ∧ HasS w w.heap.size A1 n1 c1 A2 n2 c2 A3 n3 c3 D M V ∧ FitD D ∧ ∀ s ∈ M, s.length ≤ maxLen := by
  have hl := h.len Try.underlying26
  rw [cells_schema] at hl
  have f1 := h.field Try.underlying26 0 _ rfl
  have f2 := h.field Try.underlying26 1 _ rfl
  have f3 := h.field Try.underlying26 2 _ rfl
  obtain ⟨A1, n1, c1, e1⟩ := f1.slice_shape Try.underlying22
  obtain ⟨A2, n2, c2, e2⟩ := f2.slice_shape Try.underlying23
  obtain ⟨A3, n3, c3, e3⟩ := f3.slice_shape Try.underlying24
  rw [e1] at f1
  rw [e2] at f2
  rw [e3] at f3
  obtain ⟨D, h1, k1⟩ := dims_of f1
  obtain ⟨M, h2, k2⟩ := f2.texts Try.underlying23 Try.underlying9 cells_string
  obtain ⟨V, h3, _⟩ := f3.lists Try.underlying24 Try.underlying32 Try.underlying3 cells_ints cells_int1
  have e1 : (cs.drop 0).take (Try.prog.cellsOf 22) = [.slice A1 n1 c1] := e1
  have e2 : (cs.drop 1).take (Try.prog.cellsOf 23) = [.slice A2 n2 c2] := e2
  have e3 : (cs.drop 2).take (Try.prog.cellsOf 24) = [.slice A3 n3 c3] := e3
  rw [cells_dims] at e1
  rw [cells_strings] at e2
  rw [cells_lists] at e3
  match cs, hl with
  | [u0, u1, u2], _ =>
    simp at e1 e2 e3
    subst e1 e2 e3
    exact ⟨A1, n1, c1, A2, n2, c2, A3, n3, c3, D, M, V, rfl, ⟨h1, h2, h3⟩, k1, k2⟩

/-! ### Rows of dimensions of the call's own, whose levels lie below C -/
def DimCells (w : World) (C : Nat) (xs : List Value) (D : List PDim) : Prop :=
  ∀ i d, D[i]? = some d → xs[2 * i]? = some (strV d.1) ∧ ∃ A n c, xs[2 * i + 1]? = some (.slice A n c) ∧ HasT w C A n c d.2
def OwnDs (w : World) (base C : Nat) (v : Value) (D : List PDim) : Prop :=
  ∃ xs, w.ownsRow base 55 2 v D.length xs ∧ DimCells w C xs D
section
variable {w w' : World} {base C : Nat} {v : Value} {D : List PDim}
theorem DimCells.keep {xs : List Value} (h : DimCells w C xs D) (hk : ∀ b o, b < C → w'.cell? ⟨b, o, none⟩ = w.cell? ⟨b, o, none⟩) : DimCells w' C xs D := fun i d hi => by
  obtain ⟨h1, A, n, c, h2, h3⟩ := h i d hi
  exact ⟨h1, A, n, c, h2, h3.keep hk⟩
theorem DimCells.snoc {xs : List Value} (h : DimCells w C xs D) (hl : xs.length = D.length * 2) {x : Txt} {A : Option Addr} {n c : Nat} {L : List Txt} (hT : HasT w C A n c L) : DimCells w C (xs ++ [strV x, .slice A n c]) (D ++ [(x, L)]) := fun i d hi => by
  by_cases hlt : i < D.length
  · rw [List.getElem?_append_left hlt] at hi
    obtain ⟨h1, A', n', c', h2, h3⟩ := h i d hi
    exact ⟨by rw [List.getElem?_append_left (by omega)]; exact h1, A', n', c', by rw [List.getElem?_append_left (by omega)]; exact h2, h3⟩
  · have hie : i = D.length := by
      have := (List.getElem?_eq_some_iff.1 hi).1
      simp at this
      omega
    subst hie
    simp at hi
    subst hi
    refine ⟨?_, A, n, c, ?_, hT⟩
    · rw [List.getElem?_append_right (by omega)]; simp [hl, Nat.mul_comm]
    · rw [List.getElem?_append_right (by omega), show 2 * D.length + 1 - xs.length = 1 by omega]; rfl
theorem OwnDs.nil_ (w : World) (base C : Nat) : OwnDs w base C (.slice none 0 0) [] := ⟨[], World.ownsRow_nil _ _ _ _, fun i d h => by simp at h⟩
theorem OwnDs.below {E : Nat} (h : OwnDs w base C v D) (hb : Below E w w') (hE : w.heap.size ≤ E) (hC : C ≤ w.heap.size) : OwnDs w' base C v D := by
  obtain ⟨xs, h1, h2⟩ := h
  exact ⟨xs, World.ownsRow.kept (row := none) h1 ⟨hb.os, hb.tape, hb.output, hb.size, fun k hk _ => hb.block k (by omega)⟩ (by cases v.ownBlock <;> simp), h2.keep fun b o hp => hb.cell (p := ⟨b, o, none⟩) (by show b < E; omega)⟩
theorem OwnDs.low {base' : Nat} (h : OwnDs w base C v D) (hb : base' ≤ base) : OwnDs w base' C v D := by
  obtain ⟨xs, h1, h2⟩ := h
  exact ⟨xs, row_low h1 hb, h2⟩
theorem OwnDs.lt (h : OwnDs w base C v D) : ∀ k, v.ownBlock = some k → base ≤ k ∧ k < w.heap.size := by
  obtain ⟨xs, h1, _⟩ := h
  exact h1.lt
theorem OwnDs.shape (h : OwnDs w base C v D) : ∃ A c, v = .slice A D.length c := by
  obtain ⟨xs, h1, _⟩ := h
  rcases h1.2 with ⟨rfl, h0⟩ | ⟨g, cap, cur, rfl, _⟩
  · exact ⟨none, 0, by rw [h0]⟩
  · exact ⟨_, cap, rfl⟩
theorem OwnDs.read (h : OwnDs w base C v D) (hC : C ≤ w.heap.size) : ∃ A c, v = .slice A D.length c ∧ HasDs w w.heap.size A D.length c D := by
  obtain ⟨xs, h1, h2⟩ := h
  rcases h1.2 with ⟨rfl, h0⟩ | ⟨g, cap, cur, rfl, hb, hg, hnc, hcm, _⟩
  · rw [h0]
    exact ⟨none, 0, rfl, h0, Nat.le_refl _, Nat.zero_le _, fun _ => rfl, fun i hi => absurd hi (by omega)⟩
  · refine ⟨_, cap, rfl, rfl, hnc, hcm, (fun h => by cases h), fun i hi => ?_⟩
    obtain ⟨e1, A, n, c, e2, hT⟩ := h2 i (D.getD i zeroD) (by rw [List.getD_eq_getElem?_getD, List.getElem?_eq_getElem hi]; rfl)
    have hcell := h1.cells (g := g) rfl
    refine ⟨g, 0, A, n, c, rfl, (Array.getElem?_eq_some_iff.1 hg).1, ?_, ?_, hT.more hC⟩
    · have := hcell _ _ e1
      rwa [add_flat, show 0 + 2 * i = 0 + i * 2 from by omega] at this
    · have := hcell _ _ e2
      rwa [add_flat, show 0 + (2 * i + 1) = 0 + i * 2 + 1 from by omega] at this
end
theorem info_dim : (Try.prog.info? 55).map (fun i => (i.zero, i.size, i.bytes)) = some (some (.agg #[.string ByteArray.empty, .slice none 0 0]), 2, 40) := by kernel_rfl
theorem info_schema : (Try.prog.info? 26).map (·.size) = some 3 := by kernel_rfl
theorem cell_two_d (w : World) (x y : Value) (t : TypeId) (g : Nat) (hg : g = w.heap.size) : ∀ j u, [x, y][j]? = some u → (w.alloc (.cells #[x, y] t)).cell? ((⟨g, 0, none⟩ : Addr).add j) = some u := by
  intro j u hj
  subst hg
  match j, hj with
  | 0, hj => simp at hj; subst hj; simp [Addr.add]
  | 1, hj => simp at hj; subst hj; simp [Addr.add]
  | (j + 2), hj => simp at hj
theorem dim_one (x : Txt) (A : Option Addr) (n c : Nat) : ∀ u ∈ [strV x, Value.slice A n c], u.oneCell' = true := by
  intro u hu
  simp at hu
  rcases hu with rfl | rfl <;> rfl
/-- One dimension more. -/
theorem wpList_appD {w : World} {ops : Array Oper} {rest : List Oper} {o : Oper} {a : Act} {Q : Exit → Act → World → Prop} (hgd : o.guard = none) (s x : Operand)
    (ho : o.op = .call { callee := .builtin .append, args := #[s, x], argTypes := #[22, 22] })
    (base C : Nat) (v : Value) (D : List PDim) (hs : a.eval s = v) (hown : OwnDs w base C v D) (g : Nat) (hx : a.eval x = .slice (some ⟨g, 0, none⟩) 1 1) (y : Txt) (A : Option Addr) (n c : Nat) (L : List Txt)
    (hy : ∀ j u, [strV y, .slice A n c][j]? = some u → w.cell? ((⟨g, 0, none⟩ : Addr).add j) = some u) (hl : HasT w C A n c L) (hlen : D.length ≤ 1000000) (hbase : base ≤ w.heap.size) (hC : C ≤ base)
    (h : ∀ v' w', OwnDs w' base C v' (D ++ [(y, L)]) → Grew w v w' v' → (∀ k, v.ownBlock = some k → base ≤ k) → wpList Try.prog ops Q rest (a.put o.dst v') w') : wpList Try.prog ops Q (o :: rest) a w := by
  obtain ⟨i, hi, hz0, hz1, hz2⟩ := info_parts info_dim
  obtain ⟨xs, hr, hxs⟩ := hown
  have hlo := fun k e => (hr.lt k e).1
  refine wpList_append_own_at w hgd s x 22 ho base 55 i _ 2 40 Try.underlying22 hi hz0 hz1 hz2 rfl (by decide) v D.length xs hs hr ⟨g, 0, none⟩ 1 1 [strV y, .slice A n c] hx rfl hy (dim_one y A n c) (by unfold maxLen; omega) (by omega) hbase ?_
  intro v' w' h1 h2 _ h4
  have hk : ∀ b o, b < C → w'.cell? ⟨b, o, none⟩ = w.cell? ⟨b, o, none⟩ := fun b o hb => World.cell?_of_block (h2.block b (by omega) (fun e => by have := hlo _ e.symm; omega))
  refine h v' w' ⟨_, by simpa using h1, (hxs.snoc hr.1 hl).keep hk⟩ ⟨h2, fun k hk => ?_⟩ hlo
  rcases h4 with h4 | h4
  · exact .inl (h4 ▸ hk)
  · rw [h4] at hk
    injection hk with hk
    exact .inr (Nat.le_of_eq hk)
end Go.Proofs.Ytfddaegepmdohaa
namespace Go.Proofs.Ytfddaegepmdohaa
set_option maxRecDepth 100000
open Go.RowKit

/-- A fact in two cells; one that the call itself made. -/
abbrev elFct : ElT Fct := elPair (elRow (elRow elText 1) 1) 1 (elRow elInt 1)
abbrev elFctO : ElT Fct := elPair (elOwn (elOwn elText 9 1) 23 1) 1 (elOwn elInt 3 1)
theorem elPath_ok : (elRow elText 1).Ok := elRow_ok elText_ok
theorem elPaths_ok : (elRow (elRow elText 1) 1).Ok := elRow_ok elPath_ok
theorem elVals_ok : (elRow elInt 1).Ok := elRow_ok elInt_ok
theorem elFct_ok : elFct.Ok := elPair_ok elPaths_ok elVals_ok
theorem elPathO_ok : (elOwn elText 9 1).Ok := elOwn_ok elText_ok
theorem elPathsO_ok : (elOwn (elOwn elText 9 1) 23 1).Ok := elOwn_ok elPathO_ok
theorem elValsO_ok : (elOwn elInt 3 1).Ok := elOwn_ok elInt_ok
theorem elFctO_ok : elFctO.Ok := elPair_ok elPathsO_ok elValsO_ok
theorem elFctO_read {w : World} {S : Nat → Prop} {us : List Value} {f : Fct} (h : elFctO w S us f) : elFct w S us f :=
  ⟨elOwn_row elPathO_ok (fun _ _ h => elOwn_row elText_ok (fun _ _ h => h) h) h.1, elOwn_row elInt_ok (fun _ _ h => h) h.2⟩
/-- Facts. -/
abbrev HasF (w : World) (S : Nat → Prop) (A : Option Addr) (n c : Nat) (L : List Fct) : Prop := Row elFct 2 w S A n c L
theorem info_fact : (Try.prog.info? 35).map (fun i => (i.zero, i.size, i.bytes)) = some (some (.agg #[.slice none 0 0, .slice none 0 0]), 2, 48) := by kernel_rfl
theorem info_rowT : (Try.prog.info? 23).map (fun i => (i.zero, i.size, i.bytes)) = some (some (.slice none 0 0), 1, 24) := by kernel_rfl
theorem info_rowI : (Try.prog.info? 32).map (fun i => (i.zero, i.size, i.bytes)) = some (some (.slice none 0 0), 1, 24) := by kernel_rfl

/-! ### Facts that came in -/
theorem cells_fact : Try.prog.cellsOf 35 = 2 := by kernel_rfl
theorem cells_paths : Try.prog.cellsOf 33 = 1 := by kernel_rfl
/-- What is true of all that came in. -/
def FctIn (f : Fct) : Prop := (∀ p ∈ f.1, ∀ s ∈ p, s.length ≤ maxLen) ∧ ∀ x ∈ f.2, -9223372036854775808 ≤ x ∧ x ≤ 9223372036854775807
theorem fact_of {w : World} {cs : List Value} (h : RC Try.prog w 35 cs) : ∃ f, elFct w (fun b => b < w.heap.size) cs f ∧ FctIn f := by
  have hl := h.len Try.underlying35
  rw [cells_fact] at hl
  have f1 := h.field Try.underlying35 0 _ rfl
  have f2 := h.field Try.underlying35 1 _ rfl
  obtain ⟨p, h1, k1⟩ := RC.elRow (E := elRow elText 1) (G := fun p => ∀ s ∈ p, s.length ≤ maxLen) Try.underlying33 cells_strings (by decide)
    (fun cs h => RC.elRow (E := elText) (G := fun s => s.length ≤ maxLen) Try.underlying23 cells_string (by decide) (fun cs h => RC.elText Try.underlying9 h) h) f1
  obtain ⟨v, h2, k2⟩ := RC.elRow (E := elInt) (G := fun x => -9223372036854775808 ≤ x ∧ x ≤ 9223372036854775807) Try.underlying32 cells_int1 (by decide) (fun cs h => RC.elInt Try.underlying3 h) f2
  refine ⟨(p, v), ⟨?_, ?_⟩, k1, k2⟩
  · have h1 : elRow (elRow elText 1) 1 w (fun b => b < w.heap.size) ((cs.drop 0).take (Try.prog.cellsOf 33)) p := h1
    rw [cells_paths] at h1
    exact h1
  · have h2 : elRow elInt 1 w (fun b => b < w.heap.size) ((cs.drop 1).take (Try.prog.cellsOf 32)) v := h2
    rw [cells_ints, List.take_of_length_le (by simp; omega)] at h2
    exact h2
theorem facts_of {w : World} {a : Option Addr} {n c : Nat} (h : RC Try.prog w 27 [.slice a n c]) : ∃ L, HasF w (fun b => b < w.heap.size) a n c L ∧ ∀ f ∈ L, FctIn f :=
  h.row Try.underlying27 cells_fact (by decide) fun _ h => fact_of h
end Go.Proofs.Ytfddaegepmdohaa
