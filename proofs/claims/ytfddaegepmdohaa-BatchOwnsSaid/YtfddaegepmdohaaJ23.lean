/- Cells -/
import Derived.Test.YtfddaegepmdohaaJ2
import Derived.Test.YtfddaegepmdohaaJ5
import Derived.Test.YtfddaegepmdohaaJ10
import Derived.OneCell
import Derived.Outline
namespace Go.Proofs.Ytfddaegepmdohaa
set_option maxRecDepth 100000
open Go.RowKit

/-! ### A cell's three lists -/
/-- Three slices that read as a cell's lists. -/
structure HasC (w : World) (B : Nat) (A1 : Option Addr) (n1 c1 : Nat) (A2 : Option Addr) (n2 c2 : Nat) (A3 : Option Addr) (n3 c3 : Nat) (S M X : List Int) : Prop where
  s : HasI w B A1 n1 c1 S
  m : HasI w B A2 n2 c2 M
  x : HasI w B A3 n3 c3 X
section
variable {w w' : World} {B B' n1 c1 n2 c2 n3 c3 : Nat} {A1 A2 A3 : Option Addr} {S M X : List Int}
theorem HasC.keep (h : HasC w B A1 n1 c1 A2 n2 c2 A3 n3 c3 S M X) (hk : ∀ b o, b < B → w'.cell? ⟨b, o, none⟩ = w.cell? ⟨b, o, none⟩) : HasC w' B A1 n1 c1 A2 n2 c2 A3 n3 c3 S M X := ⟨h.s.keep hk, h.m.keep hk, h.x.keep hk⟩
theorem HasC.more (h : HasC w B A1 n1 c1 A2 n2 c2 A3 n3 c3 S M X) (hB : B ≤ B') : HasC w B' A1 n1 c1 A2 n2 c2 A3 n3 c3 S M X := ⟨h.s.more hB, h.m.more hB, h.x.more hB⟩
theorem HasC.below {C : Nat} (h : HasC w B A1 n1 c1 A2 n2 c2 A3 n3 c3 S M X) (hb : Below C w w') (hC : B ≤ C) : HasC w' B A1 n1 c1 A2 n2 c2 A3 n3 c3 S M X := ⟨h.s.below hb hC, h.m.below hb hC, h.x.below hb hC⟩
theorem HasC.belowS (h : HasC w w.heap.size A1 n1 c1 A2 n2 c2 A3 n3 c3 S M X) (hb : Below w.heap.size w w') : HasC w' w'.heap.size A1 n1 c1 A2 n2 c2 A3 n3 c3 S M X := (h.below hb (Nat.le_refl _)).more hb.size
theorem HasC.allocS (h : HasC w w.heap.size A1 n1 c1 A2 n2 c2 A3 n3 c3 S M X) (o : Obj) : HasC (w.alloc o) (w.alloc o).heap.size A1 n1 c1 A2 n2 c2 A3 n3 c3 S M X := ⟨h.s.allocS o, h.m.allocS o, h.x.allocS o⟩
theorem HasC.drewN (h : HasC w B A1 n1 c1 A2 n2 c2 A3 n3 c3 S M X) (k : Nat) : HasC (w.drewN k) B A1 n1 c1 A2 n2 c2 A3 n3 c3 S M X := h.keep fun _ _ _ => rfl
theorem HasC.drew (h : HasC w B A1 n1 c1 A2 n2 c2 A3 n3 c3 S M X) : HasC w.drew B A1 n1 c1 A2 n2 c2 A3 n3 c3 S M X := h.keep fun _ _ _ => rfl
end
/-- A cell as the model has it, by value. -/
abbrev cellV (n : Int) (A1 : Option Addr) (n1 c1 : Nat) (A2 : Option Addr) (n2 c2 : Nat) (A3 : Option Addr) (n3 c3 : Nat) : Value :=
  .agg #[.int .i64 n, .slice A1 n1 c1, .slice A2 n2 c2, .slice A3 n3 c3]
/-- What came in as a cell by value. -/
theorem cells_cell : Try.prog.cellsOf 83 = 4 := by kernel_rfl
theorem cells_intC : Try.prog.cellsOf 3 = 1 := by kernel_rfl
theorem cells_intsC : Try.prog.cellsOf 32 = 1 := by kernel_rfl
def I64 (l : List Int) : Prop := ∀ x ∈ l, -9223372036854775808 ≤ x ∧ x ≤ 9223372036854775807
theorem cell_of {w : World} {cs : List Value} (h : RC Try.prog w 83 cs) : ∃ (n : Int) (A1 : Option Addr) (n1 c1 : Nat) (A2 : Option Addr) (n2 c2 : Nat) (A3 : Option Addr) (n3 c3 : Nat) (S M X : List Int),
    cs = [.int .i64 n, .slice A1 n1 c1, .slice A2 n2 c2, .slice A3 n3 c3] ∧ HasC w w.heap.size A1 n1 c1 A2 n2 c2 A3 n3 c3 S M X ∧ -9223372036854775808 ≤ n ∧ n ≤ 9223372036854775807 ∧ I64 S ∧ I64 M ∧ I64 X := by
  have hl := h.len Try.underlying83
  rw [cells_cell] at hl
  obtain ⟨n, hn, wn⟩ := RC.int Try.underlying3 (h.field Try.underlying83 0 _ rfl)
  have f1 := h.field Try.underlying83 1 _ rfl
  have f2 := h.field Try.underlying83 2 _ rfl
  have f3 := h.field Try.underlying83 3 _ rfl
  obtain ⟨A1, n1, c1, e1⟩ := f1.slice_shape Try.underlying32
  obtain ⟨A2, n2, c2, e2⟩ := f2.slice_shape Try.underlying32
  obtain ⟨A3, n3, c3, e3⟩ := f3.slice_shape Try.underlying32
  rw [e1] at f1
  rw [e2] at f2
  rw [e3] at f3
  obtain ⟨S, h1, k1⟩ := f1.ints Try.underlying32 Try.underlying3 cells_intC
  obtain ⟨M, h2, k2⟩ := f2.ints Try.underlying32 Try.underlying3 cells_intC
  obtain ⟨X, h3, k3⟩ := f3.ints Try.underlying32 Try.underlying3 cells_intC
  have hn : (cs.drop 0).take (Try.prog.cellsOf 3) = [.int .i64 n] := hn
  have e1 : (cs.drop 1).take (Try.prog.cellsOf 32) = [.slice A1 n1 c1] := e1
  have e2 : (cs.drop 2).take (Try.prog.cellsOf 32) = [.slice A2 n2 c2] := e2
  have e3 : (cs.drop 3).take (Try.prog.cellsOf 32) = [.slice A3 n3 c3] := e3
  rw [cells_intC] at hn
  rw [cells_intsC] at e1 e2 e3
  match cs, hl with
  | [u0, u1, u2, u3], _ =>
    simp at hn e1 e2 e3
    subst hn e1 e2 e3
    obtain ⟨a, b⟩ := i64_of_wf wn
    exact ⟨n, A1, n1, c1, A2, n2, c2, A3, n3, c3, S, M, X, rfl, ⟨h1, h2, h3⟩, a, b, k1, k2, k3⟩

/-! ### Rows of cells -/
/-- The slice value '.slice A n c' reads as cells. -/
structure HasCs (w : World) (B : Nat) (A : Option Addr) (n c : Nat) (L : List PC) : Prop where
  len : L.length = n
  cap : n ≤ c
  fit : c ≤ maxLen
  void : A = none → c = 0
  has : ∀ i, i < n → ∃ b o A1 n1 c1 A2 n2 c2 A3 n3 c3, A = some ⟨b, o, none⟩ ∧ b < B ∧
    (w.cell? ⟨b, o + i * 4, none⟩ = some (.int .i64 (L.getD i zeroC).1) ∧ w.cell? ⟨b, o + i * 4 + 1, none⟩ = some (.slice A1 n1 c1) ∧ w.cell? ⟨b, o + i * 4 + 2, none⟩ = some (.slice A2 n2 c2) ∧ w.cell? ⟨b, o + i * 4 + 3, none⟩ = some (.slice A3 n3 c3)) ∧
    HasC w B A1 n1 c1 A2 n2 c2 A3 n3 c3 (L.getD i zeroC).2.1 (L.getD i zeroC).2.2.1 (L.getD i zeroC).2.2.2
section
variable {w w' : World} {B B' n c : Nat} {A : Option Addr} {L : List PC}
theorem HasCs.keep (h : HasCs w B A n c L) (hk : ∀ b o, b < B → w'.cell? ⟨b, o, none⟩ = w.cell? ⟨b, o, none⟩) : HasCs w' B A n c L :=
  ⟨h.len, h.cap, h.fit, h.void, fun i hi => by
    obtain ⟨b, o, A1, n1, c1, A2, n2, c2, A3, n3, c3, h1, h2, ⟨h3, h4, h5, h6⟩, h7⟩ := h.has i hi
    exact ⟨b, o, A1, n1, c1, A2, n2, c2, A3, n3, c3, h1, h2, ⟨(hk b _ h2).trans h3, (hk b _ h2).trans h4, (hk b _ h2).trans h5, (hk b _ h2).trans h6⟩, h7.keep hk⟩⟩
theorem HasCs.more (h : HasCs w B A n c L) (hB : B ≤ B') : HasCs w B' A n c L :=
  ⟨h.len, h.cap, h.fit, h.void, fun i hi => by
    obtain ⟨b, o, A1, n1, c1, A2, n2, c2, A3, n3, c3, h1, h2, h3, h7⟩ := h.has i hi
    exact ⟨b, o, A1, n1, c1, A2, n2, c2, A3, n3, c3, h1, Nat.lt_of_lt_of_le h2 hB, h3, h7.more hB⟩⟩
theorem HasCs.below {C : Nat} (h : HasCs w B A n c L) (hb : Below C w w') (hC : B ≤ C) : HasCs w' B A n c L :=
  h.keep fun b o hp => hb.cell (p := ⟨b, o, none⟩) (Nat.lt_of_lt_of_le hp hC)
theorem HasCs.belowS (h : HasCs w w.heap.size A n c L) (hb : Below w.heap.size w w') : HasCs w' w'.heap.size A n c L := (h.below hb (Nat.le_refl _)).more hb.size
theorem HasCs.drewN (h : HasCs w B A n c L) (k : Nat) : HasCs (w.drewN k) B A n c L := h.keep fun _ _ _ => rfl
theorem HasCs.lenMax (h : HasCs w B A n c L) : n ≤ 9223372036854775807 := by
  have h1 := h.cap; have h2 := h.fit
  unfold maxLen at h2; omega
theorem HasCs.capMax (h : HasCs w B A n c L) : c ≤ 9223372036854775807 := by
  have h2 := h.fit
  unfold maxLen at h2; omega
/-- The i-th one, in letters. -/
theorem HasCs.at_ (h : HasCs w B A n c L) {k : Nat} (hk : k < n) : ∃ b o q A1 n1 c1 A2 n2 c2 A3 n3 c3 S M X, A = some ⟨b, o, none⟩ ∧ b < B ∧
    w.cell? ⟨b, o + k * 4, none⟩ = some (.int .i64 q) ∧ w.cell? ⟨b, o + k * 4 + 1, none⟩ = some (.slice A1 n1 c1) ∧ w.cell? ⟨b, o + k * 4 + 2, none⟩ = some (.slice A2 n2 c2) ∧ w.cell? ⟨b, o + k * 4 + 3, none⟩ = some (.slice A3 n3 c3) ∧
    HasC w B A1 n1 c1 A2 n2 c2 A3 n3 c3 S M X ∧ Hid (L.getD k zeroC = (q, S, M, X)) := by
  obtain ⟨b, o, A1, n1, c1, A2, n2, c2, A3, n3, c3, h1, h2, ⟨h3, h4, h5, h6⟩, h7⟩ := h.has k hk
  exact ⟨b, o, _, A1, n1, c1, A2, n2, c2, A3, n3, c3, _, _, _, h1, h2, h3, h4, h5, h6, h7, Lib.hid rfl⟩
theorem HasCs.take_ (h : HasCs w B A n c L) (k : Nat) (hk : k ≤ n) : HasCs w B A k c (L.take k) :=
  ⟨by rw [List.length_take, h.len]; omega, Nat.le_trans hk h.cap, h.fit, h.void, fun i hi => by
    have e : (L.take k).getD i zeroC = L.getD i zeroC := by simp [List.getD_eq_getElem?_getD, hi]
    rw [e]
    exact h.has i (by omega)⟩
/-- What a cut leaves: its address is the model's. -/
theorem HasCs.cut (h : HasCs w B A n c L) {k : Nat} (hk : k ≤ n) (_ : ¬ c = k) : HasCs w B (A.map (·.add (k * 4))) (n - k) (c - k) (L.drop k) := by
  have hcap := h.cap; have hf := h.fit
  refine ⟨by rw [List.length_drop, h.len], by omega, by omega, fun hA => ?_, fun i hi => ?_⟩
  · rcases A with _ | a
    · have := h.void rfl; omega
    · cases hA
  · obtain ⟨b, o, A1, n1, c1, A2, n2, c2, A3, n3, c3, rfl, h2, h3, h7⟩ := h.has (k + i) (by omega)
    have e : (L.drop k).getD i zeroC = L.getD (k + i) zeroC := by simp [List.getD_eq_getElem?_getD]
    rw [e]
    rw [show o + (k + i) * 4 = o + k * 4 + i * 4 from by omega] at h3
    exact ⟨b, o + k * 4, A1, n1, c1, A2, n2, c2, A3, n3, c3, by simp [add_flat], h2, h3, h7⟩
end
/-- What came in as a row of cells. -/
theorem cells_of {w : World} {a : Option Addr} {n c : Nat} (h : RC Try.prog w 92 [.slice a n c]) :
    ∃ L, HasCs w w.heap.size a n c L := by
  have hs := h.slice Try.underlying92
  have hshape : n ≤ c ∧ c ≤ maxLen ∧ (a = none → c = 0) := by
    rcases hs with ⟨h1, h2, h3⟩ | ⟨ad, h1, h2, h3, _⟩
    · subst h2 h3; exact ⟨Nat.le_refl _, Nat.zero_le _, fun _ => rfl⟩
    · exact ⟨h2, h3, fun e => by rw [h1] at e; cases e⟩
  rcases Nat.eq_zero_or_pos n with h0 | h0
  · subst h0
    exact ⟨[], ⟨rfl, Nat.zero_le _, hshape.2.1, hshape.2.2, fun i hi => absurd hi (by omega)⟩⟩
  · obtain ⟨b, o, rfl, hb, _, _, hi⟩ := h.rows Try.underlying92 (by rw [cells_cell]; decide) h0
    have key : ∀ i, ∃ q : PC, i < n → ∃ A1 n1 c1 A2 n2 c2 A3 n3 c3,
        (w.cell? ⟨b, o + i * 4, none⟩ = some (.int .i64 q.1) ∧ w.cell? ⟨b, o + i * 4 + 1, none⟩ = some (.slice A1 n1 c1) ∧ w.cell? ⟨b, o + i * 4 + 2, none⟩ = some (.slice A2 n2 c2) ∧ w.cell? ⟨b, o + i * 4 + 3, none⟩ = some (.slice A3 n3 c3)) ∧
        HasC w w.heap.size A1 n1 c1 A2 n2 c2 A3 n3 c3 q.2.1 q.2.2.1 q.2.2.2 := fun i => by
      by_cases hin : i < n
      · obtain ⟨cs, hl, hcell, hr⟩ := hi i hin
        rw [cells_cell] at hcell
        obtain ⟨q, A1, n1, c1, A2, n2, c2, A3, n3, c3, S, M, X, rfl, hC, _⟩ := cell_of hr
        exact ⟨(q, S, M, X), fun _ => ⟨A1, n1, c1, A2, n2, c2, A3, n3, c3, ⟨hcell 0 (by decide), hcell 1 (by decide), hcell 2 (by decide), hcell 3 (by decide)⟩, hC⟩⟩
      · exact ⟨zeroC, fun h => absurd h hin⟩
    obtain ⟨g, hg⟩ := Classical.axiomOfChoice key
    refine ⟨(List.range n).map g, ⟨by simp, hshape.1, hshape.2.1, hshape.2.2, fun i hin => ?_⟩⟩
    obtain ⟨A1, n1, c1, A2, n2, c2, A3, n3, c3, h1, h2⟩ := hg i hin
    have e : ((List.range n).map g).getD i zeroC = g i := by simp [List.getD_eq_getElem?_getD, hin]
    rw [e]
    exact ⟨b, o, A1, n1, c1, A2, n2, c2, A3, n3, c3, rfl, hb, h1, h2⟩

/-! ### Cells of the call's own -/
/-- Three lists of the call's own. -/
structure OwnC (w : World) (base : Nat) (v1 v2 v3 : Value) (S M X : List Int) : Prop where
  s : OwnI w base v1 S
  m : OwnI w base v2 M
  x : OwnI w base v3 X
section
variable {w w' : World} {base base' : Nat} {v1 v2 v3 : Value} {S M X : List Int}
theorem OwnC.below {C : Nat} (h : OwnC w base v1 v2 v3 S M X) (hb : Below C w w') (hC : w.heap.size ≤ C) : OwnC w' base v1 v2 v3 S M X := ⟨h.s.below hb hC, h.m.below hb hC, h.x.below hb hC⟩
theorem OwnC.low (h : OwnC w base v1 v2 v3 S M X) (hb : base' ≤ base) : OwnC w base' v1 v2 v3 S M X := ⟨h.s.low hb, h.m.low hb, h.x.low hb⟩
theorem OwnC.alloc (h : OwnC w base v1 v2 v3 S M X) (o : Obj) : OwnC (w.alloc o) base v1 v2 v3 S M X := ⟨h.s.alloc o, h.m.alloc o, h.x.alloc o⟩
theorem OwnC.form (h : OwnC w base v1 v2 v3 S M X) : ∃ A1 n1 c1 A2 n2 c2 A3 n3 c3, v1 = .slice A1 n1 c1 ∧ v2 = .slice A2 n2 c2 ∧ v3 = .slice A3 n3 c3 ∧ HasC w w.heap.size A1 n1 c1 A2 n2 c2 A3 n3 c3 S M X := by
  obtain ⟨A1, n1, c1, e1, h1, _⟩ := h.s.formN
  obtain ⟨A2, n2, c2, e2, h2, _⟩ := h.m.formN
  obtain ⟨A3, n3, c3, e3, h3, _⟩ := h.x.formN
  exact ⟨A1, n1, c1, A2, n2, c2, A3, n3, c3, e1, e2, e3, h1, h2, h3⟩
end
/-- What a call tells that tells a cell and a number: a cell that is new. -/
def TellC (w : World) (r : PC × Int) (e : Ending) (w' : World) : Prop :=
  (∃ v1 v2 v3, e = .returned (.tuple #[.agg #[.int .i64 r.1.1, v1, v2, v3], .int .i64 r.2]) ∧ OwnC w' w.heap.size v1 v2 v3 r.1.2.1 r.1.2.2.1 r.1.2.2.2) ∧ Below w.heap.size w w'
/-- The same, of a cell that need not be new. -/
def TellH (w : World) (r : PC × Int) (e : Ending) (w' : World) : Prop :=
  (∃ A1 n1 c1 A2 n2 c2 A3 n3 c3, e = .returned (.tuple #[cellV r.1.1 A1 n1 c1 A2 n2 c2 A3 n3 c3, .int .i64 r.2]) ∧ HasC w' w'.heap.size A1 n1 c1 A2 n2 c2 A3 n3 c3 r.1.2.1 r.1.2.2.1 r.1.2.2.2) ∧ Below w.heap.size w w'
theorem TellC.toH {w w' : World} {r : PC × Int} {e : Ending} (h : TellC w r e w') : TellH w r e w' := by
  obtain ⟨⟨v1, v2, v3, rfl, ho⟩, hb⟩ := h
  obtain ⟨A1, n1, c1, A2, n2, c2, A3, n3, c3, rfl, rfl, rfl, hh⟩ := ho.form
  exact ⟨⟨_, _, _, _, _, _, _, _, _, rfl, hh⟩, hb⟩
theorem TellH.of {w w' : World} {r : PC × Int} {e : Ending} (h : TellH w r e w') {n : Int} {S M X : List Int} {x : Int} (hr : r = ((n, S, M, X), x)) :
    ∃ A1 n1 c1 A2 n2 c2 A3 n3 c3, e = .returned (.tuple #[.agg #[.int .i64 n, .slice A1 n1 c1, .slice A2 n2 c2, .slice A3 n3 c3], .int .i64 x]) ∧ HasC w' w'.heap.size A1 n1 c1 A2 n2 c2 A3 n3 c3 S M X ∧ Below w.heap.size w w' := by
  subst hr
  obtain ⟨⟨A1, n1, c1, A2, n2, c2, A3, n3, c3, h1, h2⟩, h3⟩ := h
  exact ⟨A1, n1, c1, A2, n2, c2, A3, n3, c3, h1, h2, h3⟩
/-- .. in a round that begins in a world that has drawn. -/
theorem quietQ {P : Program} {f : FuncId} {args : Array Value} {w : World} {q : Nat} {v : Value}
    (h : ∀ W, Calls P f args W fun e w' => e = .returned v ∧ W = w') (j : Nat) : Calls P f args (w.drewN (q + j)) fun e w'' => e = .returned v ∧ ∃ m, w'' = w.drewN (q + m) :=
  (h _).mono fun _ _ ⟨he, hm⟩ => ⟨he, j, hm.symm⟩
theorem zeroC_own (w : World) (base : Nat) : OwnC w base (.slice none 0 0) (.slice none 0 0) (.slice none 0 0) [] [] [] := ⟨OwnI.nil_ _ _, OwnI.nil_ _ _, OwnI.nil_ _ _⟩
theorem info_cell : (Try.prog.info? 83).map (·.size) = some 4 := by kernel_rfl
theorem info_cell3 : (Try.prog.info? 83).map (fun i => (i.zero, i.size, i.bytes)) = some (some (.agg #[.int .i64 0, .slice none 0 0, .slice none 0 0, .slice none 0 0]), 4, 80) := by kernel_rfl
end Go.Proofs.Ytfddaegepmdohaa
