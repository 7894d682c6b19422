/- Dims -/
import Derived.Test.YtmcccpbpijnbmaaDoorJ1
import Derived.Test.YtmcccpbpijnbmaaDoorJ10
import Derived.OneCell
namespace Go.Proofs.YtmcccpbpijnbmaaDoor
set_option maxRecDepth 100000
open Go.RowKit

structure HasDs (w : World) (B : Nat) (A : Option Addr) (n c : Nat) (D : List PDim) : Prop where
 len : D.length = n
 cap : n ≤ c
 fit : c ≤ maxLen
 void : A = none → c = 0
 has : ∀ i, i < n → ∃ b o A' n' c', A = some ⟨b, o, none⟩ ∧ b < B ∧ w.cell? ⟨b, o + i * 2, none⟩ = some (strV (D.getD i zeroD).1) ∧ w.cell? ⟨b, o + i * 2 + 1, none⟩ = some (.slice A' n' c') ∧ HasT w B A' n' c' (D.getD i zeroD).2
section
variable {w w' : World} {B B' n c : Nat} {A : Option Addr} {D : List PDim}
theorem HasDs.keep (h : HasDs w B A n c D) (hk : ∀ b o, b < B → w'.cell? ⟨b, o, none⟩ = w.cell? ⟨b, o, none⟩) : HasDs w' B A n c D :=
 ⟨h.len, h.cap, h.fit, h.void, fun i hi => by
  obtain ⟨b, o, A', n', c', h1, h2, h3, h4, h5⟩ := h.has i hi
  exact ⟨b, o, A', n', c', h1, h2, (hk b _ h2).trans h3, (hk b _ h2).trans h4, h5.keep hk⟩⟩
theorem HasDs.more (h : HasDs w B A n c D) (hB : B ≤ B') : HasDs w B' A n c D :=
 ⟨h.len, h.cap, h.fit, h.void, fun i hi => by
  obtain ⟨b, o, A', n', c', h1, h2, h3, h4, h5⟩ := h.has i hi
  exact ⟨b, o, A', n', c', h1, Nat.lt_of_lt_of_le h2 hB, h3, h4, h5.more hB⟩⟩
theorem HasDs.below {C : Nat} (h : HasDs w B A n c D) (hb : Below C w w') (hC : B ≤ C) : HasDs w' B A n c D :=
 h.keep fun b o hp => hb.cell (p := ⟨b, o, none⟩) (Nat.lt_of_lt_of_le hp hC)
theorem HasDs.belowS (h : HasDs w w.heap.size A n c D) (hb : Below w.heap.size w w') : HasDs w' w'.heap.size A n c D := (h.below hb (Nat.le_refl _)).more hb.size
theorem HasDs.lenMax (h : HasDs w B A n c D) : n ≤ 9223372036854775807 := by
 have h1 := h.cap; have h2 := h.fit
 unfold maxLen at h2; omega
theorem HasDs.capMax (h : HasDs w B A n c D) : c ≤ 9223372036854775807 := by
 have h2 := h.fit
 unfold maxLen at h2; omega
theorem HasDs.at_ (h : HasDs w B A n c D) {k : Nat} (hk : k < n) : ∃ b o x A' n' c' L, A = some ⟨b, o, none⟩ ∧ b < B ∧
  w.cell? ⟨b, o + k * 2, none⟩ = some (.string ⟨x.toArray⟩) ∧ w.cell? ⟨b, o + k * 2 + 1, none⟩ = some (.slice A' n' c') ∧ HasT w B A' n' c' L ∧ Hid (D.getD k zeroD = (x, L)) := by
 obtain ⟨b, o, A', n', c', h1, h2, h3, h4, h5⟩ := h.has k hk
 exact ⟨b, o, _, A', n', c', _, h1, h2, h3, h4, h5, Lib.hid rfl⟩
theorem HasDs.take_ (h : HasDs w B A n c D) (k : Nat) (hk : k ≤ n) : HasDs w B A k c (D.take k) :=
 ⟨by rw [List.length_take, h.len]; omega, Nat.le_trans hk h.cap, h.fit, h.void, fun i hi => by
  have e : (D.take k).getD i zeroD = D.getD i zeroD := by simp [List.getD_eq_getElem?_getD, hi]
  rw [e]
  exact h.has i (by omega)⟩
end

/-! ### A schema by value -/
abbrev schV (A1 : Option Addr) (n1 c1 : Nat) (A2 : Option Addr) (n2 c2 : Nat) (A3 : Option Addr) (n3 c3 : Nat) : Value :=
 .agg #[.slice A1 n1 c1, .slice A2 n2 c2, .slice A3 n3 c3]
structure HasS (w : World) (B : Nat) (A1 : Option Addr) (n1 c1 : Nat) (A2 : Option Addr) (n2 c2 : Nat) (A3 : Option Addr) (n3 c3 : Nat) (D : List PDim) (M : List Txt) (V : List (List Int)) : Prop where
 d : HasDs w B A1 n1 c1 D
 m : HasT w B A2 n2 c2 M
 v : HasL w B A3 n3 c3 V
section
variable {w w' : World} {B B' n1 c1 n2 c2 n3 c3 : Nat} {A1 A2 A3 : Option Addr} {D : List PDim} {M : List Txt} {V : List (List Int)}
theorem HasS.more (h : HasS w B A1 n1 c1 A2 n2 c2 A3 n3 c3 D M V) (hB : B ≤ B') : HasS w B' A1 n1 c1 A2 n2 c2 A3 n3 c3 D M V := ⟨h.d.more hB, h.m.more hB, h.v.more hB⟩
theorem HasS.below {C : Nat} (h : HasS w B A1 n1 c1 A2 n2 c2 A3 n3 c3 D M V) (hb : Below C w w') (hC : B ≤ C) : HasS w' B A1 n1 c1 A2 n2 c2 A3 n3 c3 D M V := ⟨h.d.below hb hC, h.m.below hb hC, h.v.below hb hC⟩
theorem HasS.belowS (h : HasS w w.heap.size A1 n1 c1 A2 n2 c2 A3 n3 c3 D M V) (hb : Below w.heap.size w w') : HasS w' w'.heap.size A1 n1 c1 A2 n2 c2 A3 n3 c3 D M V := (h.below hb (Nat.le_refl _)).more hb.size
end

/-! ### What came in -/
theorem cells_dim : Tryd.prog.cellsOf 65 = 2 := by kernel_rfl
theorem cells_string : Tryd.prog.cellsOf 9 = 1 := by kernel_rfl
theorem cells_strings : Tryd.prog.cellsOf 41 = 1 := by kernel_rfl
theorem cells_int1 : Tryd.prog.cellsOf 3 = 1 := by kernel_rfl
theorem cells_ints : Tryd.prog.cellsOf 29 = 1 := by kernel_rfl
theorem cells_dims : Tryd.prog.cellsOf 40 = 1 := by kernel_rfl
theorem cells_lists : Tryd.prog.cellsOf 42 = 1 := by kernel_rfl
theorem cells_schema : Tryd.prog.cellsOf 44 = 3 := by kernel_rfl
theorem dim_of {w : World} {cs : List Value} (h : RC Tryd.prog w 65 cs) : ∃ (x : Txt) (A : Option Addr) (n c : Nat) (L : List Txt), cs = [strV x, .slice A n c] ∧ HasT w w.heap.size A n c L ∧ x.length ≤ maxLen ∧ ∀ s ∈ L, s.length ≤ maxLen := by
 have hl := h.len Tryd.underlying65
 rw [cells_dim] at hl
 obtain ⟨x, hx, hxl⟩ := RC.text Tryd.underlying9 (h.field Tryd.underlying65 0 _ rfl)
 have f1 := h.field Tryd.underlying65 1 _ rfl
 obtain ⟨A, n, c, e1⟩ := f1.slice_shape Tryd.underlying41
 rw [e1] at f1
 obtain ⟨L, h1, k1⟩ := f1.texts Tryd.underlying41 Tryd.underlying9 cells_string
 have hx : (cs.drop 0).take (Tryd.prog.cellsOf 9) = [strV x] := hx
 have e1 : (cs.drop 1).take (Tryd.prog.cellsOf 41) = [.slice A n c] := e1
 rw [cells_string] at hx
 rw [cells_strings] at e1
 match cs, hl with
 | [u0, u1], _ =>
  simp at hx e1
  subst hx e1
  exact ⟨x, A, n, c, L, rfl, h1, hxl, k1⟩
def FitD (D : List PDim) : Prop := ∀ d ∈ D, d.1.length ≤ maxLen ∧ ∀ s ∈ d.2, s.length ≤ maxLen
theorem dims_of {w : World} {a : Option Addr} {n c : Nat} (h : RC Tryd.prog w 40 [.slice a n c]) :
  ∃ D, HasDs w w.heap.size a n c D ∧ FitD D := by
 have hs := h.slice Tryd.underlying40
 have hshape : n ≤ c ∧ c ≤ maxLen ∧ (a = none → c = 0) := by
  rcases hs with ⟨h1, h2, h3⟩ | ⟨ad, h1, h2, h3, _⟩
  ·subst h2 h3; exact ⟨Nat.le_refl _, Nat.zero_le _, fun _ => rfl⟩
  ·exact ⟨h2, h3, fun e => by rw [h1] at e; cases e⟩
 rcases Nat.eq_zero_or_pos n with h0 | h0
 ·subst h0
  exact ⟨[], ⟨rfl, Nat.zero_le _, hshape.2.1, hshape.2.2, fun i hi => absurd hi (by omega)⟩, fun d hd => by simp at hd⟩
 ·obtain ⟨b, o, rfl, hb, _, _, hi⟩ := h.rows Tryd.underlying40 (by rw [cells_dim]; decide) h0
  have key : ∀ i, ∃ q : PDim, (i < n → ∃ A n' c', w.cell? ⟨b, o + i * 2, none⟩ = some (strV q.1) ∧ w.cell? ⟨b, o + i * 2 + 1, none⟩ = some (.slice A n' c') ∧ HasT w w.heap.size A n' c' q.2) ∧ q.1.length ≤ maxLen ∧ ∀ s ∈ q.2, s.length ≤ maxLen := fun i => by
   by_cases hin : i < n
   ·obtain ⟨cs, hl, hcell, hr⟩ := hi i hin
    rw [cells_dim] at hcell
    obtain ⟨x, A, n', c', L, rfl, hT, k1, k2⟩ := dim_of hr
    exact ⟨(x, L), fun _ => ⟨A, n', c', hcell 0 (by decide), hcell 1 (by decide), hT⟩, k1, k2⟩
   ·exact ⟨zeroD, fun h => absurd h hin, Nat.zero_le _, fun s hs => by simp [zeroD] at hs⟩
  obtain ⟨g, hg⟩ := Classical.axiomOfChoice key
  refine ⟨(List.range n).map g, ⟨by simp, hshape.1, hshape.2.1, hshape.2.2, fun i hin => ?_⟩, fun d hd => ?_⟩
  ·obtain ⟨A, n', c', h1, h2, h3⟩ := (hg i).1 hin
   have e : ((List.range n).map g).getD i zeroD = g i := by simp [List.getD_eq_getElem?_getD, hin]
   rw [e]
   exact ⟨b, o, A, n', c', rfl, hb, h1, h2, h3⟩
  ·obtain ⟨i, _, rfl⟩ := List.mem_map.1 hd
   exact (hg i).2
theorem schema_of {w : World} {cs : List Value} (h : RC Tryd.prog w 44 cs) : ∃ (A1 : Option Addr) (n1 c1 : Nat) (A2 : Option Addr) (n2 c2 : Nat) (A3 : Option Addr) (n3 c3 : Nat) (D : List PDim) (M : List Txt) (V : List (List Int)),
  cs = [.slice A1 n1 c1, .slice A2 n2 c2, .slice A3 n3 c3] ∧ HasS w w.heap.size A1 n1 c1 A2 n2 c2 A3 n3 c3 D M V ∧ FitD D ∧ ∀ s ∈ M, s.length ≤ maxLen := by
 have hl := h.len Tryd.underlying44
 rw [cells_schema] at hl
 have f1 := h.field Tryd.underlying44 0 _ rfl
 have f2 := h.field Tryd.underlying44 1 _ rfl
 have f3 := h.field Tryd.underlying44 2 _ rfl
 obtain ⟨A1, n1, c1, e1⟩ := f1.slice_shape Tryd.underlying40
 obtain ⟨A2, n2, c2, e2⟩ := f2.slice_shape Tryd.underlying41
 obtain ⟨A3, n3, c3, e3⟩ := f3.slice_shape Tryd.underlying42
 rw [e1] at f1
 rw [e2] at f2
 rw [e3] at f3
 obtain ⟨D, h1, k1⟩ := dims_of f1
 obtain ⟨M, h2, k2⟩ := f2.texts Tryd.underlying41 Tryd.underlying9 cells_string
 obtain ⟨V, h3, _⟩ := f3.lists Tryd.underlying42 Tryd.underlying29 Tryd.underlying3 cells_ints cells_int1
 have e1 : (cs.drop 0).take (Tryd.prog.cellsOf 40) = [.slice A1 n1 c1] := e1
 have e2 : (cs.drop 1).take (Tryd.prog.cellsOf 41) = [.slice A2 n2 c2] := e2
 have e3 : (cs.drop 2).take (Tryd.prog.cellsOf 42) = [.slice A3 n3 c3] := e3
 rw [cells_dims] at e1
 rw [cells_strings] at e2
 rw [cells_lists] at e3
 match cs, hl with
 | [u0, u1, u2], _ =>
  simp at e1 e2 e3
  subst e1 e2 e3
  exact ⟨A1, n1, c1, A2, n2, c2, A3, n3, c3, D, M, V, rfl, ⟨h1, h2, h3⟩, k1, k2⟩

/-! ### Rows of dimensions of the call's own, whose levels lie below C -/
section
variable {w w' : World} {base C : Nat} {v : Value} {D : List PDim}
end
end Go.Proofs.YtmcccpbpijnbmaaDoor
