/- Cells, FootC, FootR -/
import Derived.Test.YtmepdkdeanbbaaaGreatJ2
import Derived.Test.YtmepdkdeanbbaaaGreatJ7
import Derived.Test.YtmepdkdeanbbaaaGreatJ10
import Derived.OneCell
import Derived.Outline
namespace Go.Proofs.YtmepdkdeanbbaaaGreat
set_option maxRecDepth 100000
open Go.RowKit

/-! ### A cell's three lists -/
structure HasC (w : World) (B : Nat) (A1 : Option Addr) (n1 c1 : Nat) (A2 : Option Addr) (n2 c2 : Nat) (A3 : Option Addr) (n3 c3 : Nat) (S M X : List Int) : Prop where
 s : HasI w B A1 n1 c1 S
 m : HasI w B A2 n2 c2 M
 x : HasI w B A3 n3 c3 X
section
variable {w w' : World} {B B' n1 c1 n2 c2 n3 c3 : Nat} {A1 A2 A3 : Option Addr} {S M X : List Int}
theorem HasC.keep (h : HasC w B A1 n1 c1 A2 n2 c2 A3 n3 c3 S M X) (hk : ∀ b o, b < B → w'.cell? ⟨b, o, none⟩ = w.cell? ⟨b, o, none⟩) : HasC w' B A1 n1 c1 A2 n2 c2 A3 n3 c3 S M X := ⟨h.s.keep hk, h.m.keep hk, h.x.keep hk⟩
theorem HasC.more (h : HasC w B A1 n1 c1 A2 n2 c2 A3 n3 c3 S M X) (hB : B ≤ B') : HasC w B' A1 n1 c1 A2 n2 c2 A3 n3 c3 S M X := ⟨h.s.more hB, h.m.more hB, h.x.more hB⟩
theorem HasC.below {C : Nat} (h : HasC w B A1 n1 c1 A2 n2 c2 A3 n3 c3 S M X) (hb : Below C w w') (hC : B ≤ C) : HasC w' B A1 n1 c1 A2 n2 c2 A3 n3 c3 S M X := ⟨h.s.below hb hC, h.m.below hb hC, h.x.below hb hC⟩
theorem HasC.belowS (h : HasC w w.heap.size A1 n1 c1 A2 n2 c2 A3 n3 c3 S M X) (hb : Below w.heap.size w w') : HasC w' w'.heap.size A1 n1 c1 A2 n2 c2 A3 n3 c3 S M X := (h.below hb (Nat.le_refl _)).more hb.size
theorem HasC.allocS (h : HasC w w.heap.size A1 n1 c1 A2 n2 c2 A3 n3 c3 S M X) (o : Obj) : HasC (w.alloc o) (w.alloc o).heap.size A1 n1 c1 A2 n2 c2 A3 n3 c3 S M X := ⟨h.s.allocS o, h.m.allocS o, h.x.allocS o⟩
theorem HasC.drew (h : HasC w B A1 n1 c1 A2 n2 c2 A3 n3 c3 S M X) : HasC w.drew B A1 n1 c1 A2 n2 c2 A3 n3 c3 S M X := h.keep fun _ _ _ => rfl
end
abbrev cellV (n : Int) (A1 : Option Addr) (n1 c1 : Nat) (A2 : Option Addr) (n2 c2 : Nat) (A3 : Option Addr) (n3 c3 : Nat) : Value :=
 .agg #[.int .i64 n, .slice A1 n1 c1, .slice A2 n2 c2, .slice A3 n3 c3]
def I64 (l : List Int) : Prop := ∀ x ∈ l, -9223372036854775808 ≤ x ∧ x ≤ 9223372036854775807
/-! ### Rows of cells -/
structure HasCs (w : World) (B : Nat) (A : Option Addr) (n c : Nat) (L : List PC) : Prop where
 len : L.length = n
 cap : n ≤ c
 fit : c ≤ maxLen
 void : A = none → c = 0
 has : ∀ i, i < n → ∃ b o A1 n1 c1 A2 n2 c2 A3 n3 c3, A = some ⟨b, o, none⟩ ∧ b < B ∧
  (w.cell? ⟨b, o + i * 4, none⟩ = some (.int .i64 (L.getD i zeroC).1) ∧ w.cell? ⟨b, o + i * 4 + 1, none⟩ = some (.slice A1 n1 c1) ∧ w.cell? ⟨b, o + i * 4 + 2, none⟩ = some (.slice A2 n2 c2) ∧ w.cell? ⟨b, o + i * 4 + 3, none⟩ = some (.slice A3 n3 c3)) ∧
  HasC w B A1 n1 c1 A2 n2 c2 A3 n3 c3 (L.getD i zeroC).2.1 (L.getD i zeroC).2.2.1 (L.getD i zeroC).2.2.2
section
variable {w w' : World} {B B' n c : Nat} {A : Option Addr} {L : List PC}
theorem HasCs.keep (h : HasCs w B A n c L) (hk : ∀ b o, b < B → w'.cell? ⟨b, o, none⟩ = w.cell? ⟨b, o, none⟩) : HasCs w' B A n c L :=
 ⟨h.len, h.cap, h.fit, h.void, fun i hi => by
  obtain ⟨b, o, A1, n1, c1, A2, n2, c2, A3, n3, c3, h1, h2, ⟨h3, h4, h5, h6⟩, h7⟩ := h.has i hi
  exact ⟨b, o, A1, n1, c1, A2, n2, c2, A3, n3, c3, h1, h2, ⟨(hk b _ h2).trans h3, (hk b _ h2).trans h4, (hk b _ h2).trans h5, (hk b _ h2).trans h6⟩, h7.keep hk⟩⟩
theorem HasCs.more (h : HasCs w B A n c L) (hB : B ≤ B') : HasCs w B' A n c L :=
 ⟨h.len, h.cap, h.fit, h.void, fun i hi => by
  obtain ⟨b, o, A1, n1, c1, A2, n2, c2, A3, n3, c3, h1, h2, h3, h7⟩ := h.has i hi
  exact ⟨b, o, A1, n1, c1, A2, n2, c2, A3, n3, c3, h1, Nat.lt_of_lt_of_le h2 hB, h3, h7.more hB⟩⟩
theorem HasCs.below {C : Nat} (h : HasCs w B A n c L) (hb : Below C w w') (hC : B ≤ C) : HasCs w' B A n c L :=
 h.keep fun b o hp => hb.cell (p := ⟨b, o, none⟩) (Nat.lt_of_lt_of_le hp hC)
theorem HasCs.belowS (h : HasCs w w.heap.size A n c L) (hb : Below w.heap.size w w') : HasCs w' w'.heap.size A n c L := (h.below hb (Nat.le_refl _)).more hb.size
theorem HasCs.drewN (h : HasCs w B A n c L) (k : Nat) : HasCs (w.drewN k) B A n c L := h.keep fun _ _ _ => rfl
theorem HasCs.lenMax (h : HasCs w B A n c L) : n ≤ 9223372036854775807 := by
 have h1 := h.cap; have h2 := h.fit
 unfold maxLen at h2; omega
theorem HasCs.capMax (h : HasCs w B A n c L) : c ≤ 9223372036854775807 := by
 have h2 := h.fit
 unfold maxLen at h2; omega
theorem HasCs.at_ (h : HasCs w B A n c L) {k : Nat} (hk : k < n) : ∃ b o q A1 n1 c1 A2 n2 c2 A3 n3 c3 S M X, A = some ⟨b, o, none⟩ ∧ b < B ∧
  w.cell? ⟨b, o + k * 4, none⟩ = some (.int .i64 q) ∧ w.cell? ⟨b, o + k * 4 + 1, none⟩ = some (.slice A1 n1 c1) ∧ w.cell? ⟨b, o + k * 4 + 2, none⟩ = some (.slice A2 n2 c2) ∧ w.cell? ⟨b, o + k * 4 + 3, none⟩ = some (.slice A3 n3 c3) ∧
  HasC w B A1 n1 c1 A2 n2 c2 A3 n3 c3 S M X ∧ Hid (L.getD k zeroC = (q, S, M, X)) := by
 obtain ⟨b, o, A1, n1, c1, A2, n2, c2, A3, n3, c3, h1, h2, ⟨h3, h4, h5, h6⟩, h7⟩ := h.has k hk
 exact ⟨b, o, _, A1, n1, c1, A2, n2, c2, A3, n3, c3, _, _, _, h1, h2, h3, h4, h5, h6, h7, Lib.hid rfl⟩
theorem HasCs.cut (h : HasCs w B A n c L) {k : Nat} (hk : k ≤ n) (_ : ¬ c = k) : HasCs w B (A.map (·.add (k * 4))) (n - k) (c - k) (L.drop k) := by
 have hcap := h.cap; have hf := h.fit
 refine ⟨by rw [List.length_drop, h.len], by omega, by omega, fun hA => ?_, fun i hi => ?_⟩
 ·rcases A with _ | a
  ·have := h.void rfl; omega
  ·cases hA
 ·obtain ⟨b, o, A1, n1, c1, A2, n2, c2, A3, n3, c3, rfl, h2, h3, h7⟩ := h.has (k + i) (by omega)
  have e : (L.drop k).getD i zeroC = L.getD (k + i) zeroC := by simp [List.getD_eq_getElem?_getD]
  rw [e]
  rw [show o + (k + i) * 4 = o + k * 4 + i * 4 from by omega] at h3
  exact ⟨b, o + k * 4, A1, n1, c1, A2, n2, c2, A3, n3, c3, by simp [add_flat], h2, h3, h7⟩
end
/-! ### Cells of the call's own -/
structure OwnC (w : World) (base : Nat) (v1 v2 v3 : Value) (S M X : List Int) : Prop where
 s : OwnI w base v1 S
 m : OwnI w base v2 M
 x : OwnI w base v3 X
section
variable {w w' : World} {base base' : Nat} {v1 v2 v3 : Value} {S M X : List Int}
theorem OwnC.below {C : Nat} (h : OwnC w base v1 v2 v3 S M X) (hb : Below C w w') (hC : w.heap.size ≤ C) : OwnC w' base v1 v2 v3 S M X := ⟨h.s.below hb hC, h.m.below hb hC, h.x.below hb hC⟩
theorem OwnC.low (h : OwnC w base v1 v2 v3 S M X) (hb : base' ≤ base) : OwnC w base' v1 v2 v3 S M X := ⟨h.s.low hb, h.m.low hb, h.x.low hb⟩
theorem OwnC.form (h : OwnC w base v1 v2 v3 S M X) : ∃ A1 n1 c1 A2 n2 c2 A3 n3 c3, v1 = .slice A1 n1 c1 ∧ v2 = .slice A2 n2 c2 ∧ v3 = .slice A3 n3 c3 ∧ HasC w w.heap.size A1 n1 c1 A2 n2 c2 A3 n3 c3 S M X := by
 obtain ⟨A1, n1, c1, e1, h1, _⟩ := h.s.formN
 obtain ⟨A2, n2, c2, e2, h2, _⟩ := h.m.formN
 obtain ⟨A3, n3, c3, e3, h3, _⟩ := h.x.formN
 exact ⟨A1, n1, c1, A2, n2, c2, A3, n3, c3, e1, e2, e3, h1, h2, h3⟩
end
def TellC (w : World) (r : PC × Int) (e : Ending) (w' : World) : Prop :=
 (∃ v1 v2 v3, e = .returned (.tuple #[.agg #[.int .i64 r.1.1, v1, v2, v3], .int .i64 r.2]) ∧ OwnC w' w.heap.size v1 v2 v3 r.1.2.1 r.1.2.2.1 r.1.2.2.2) ∧ Below w.heap.size w w'
def TellH (w : World) (r : PC × Int) (e : Ending) (w' : World) : Prop :=
 (∃ A1 n1 c1 A2 n2 c2 A3 n3 c3, e = .returned (.tuple #[cellV r.1.1 A1 n1 c1 A2 n2 c2 A3 n3 c3, .int .i64 r.2]) ∧ HasC w' w'.heap.size A1 n1 c1 A2 n2 c2 A3 n3 c3 r.1.2.1 r.1.2.2.1 r.1.2.2.2) ∧ Below w.heap.size w w'
theorem TellC.toH {w w' : World} {r : PC × Int} {e : Ending} (h : TellC w r e w') : TellH w r e w' := by
 obtain ⟨⟨v1, v2, v3, rfl, ho⟩, hb⟩ := h
 obtain ⟨A1, n1, c1, A2, n2, c2, A3, n3, c3, rfl, rfl, rfl, hh⟩ := ho.form
 exact ⟨⟨_, _, _, _, _, _, _, _, _, rfl, hh⟩, hb⟩
theorem TellH.of {w w' : World} {r : PC × Int} {e : Ending} (h : TellH w r e w') {n : Int} {S M X : List Int} {x : Int} (hr : r = ((n, S, M, X), x)) :
  ∃ A1 n1 c1 A2 n2 c2 A3 n3 c3, e = .returned (.tuple #[.agg #[.int .i64 n, .slice A1 n1 c1, .slice A2 n2 c2, .slice A3 n3 c3], .int .i64 x]) ∧ HasC w' w'.heap.size A1 n1 c1 A2 n2 c2 A3 n3 c3 S M X ∧ Below w.heap.size w w' := by
 subst hr
 obtain ⟨⟨A1, n1, c1, A2, n2, c2, A3, n3, c3, h1, h2⟩, h3⟩ := h
 exact ⟨A1, n1, c1, A2, n2, c2, A3, n3, c3, h1, h2, h3⟩
theorem quietQ {P : Program} {f : FuncId} {args : Array Value} {w : World} {q : Nat} {v : Value}
  (h : ∀ W, Calls P f args W fun e w' => e = .returned v ∧ W = w') (j : Nat) : Calls P f args (w.drewN (q + j)) fun e w'' => e = .returned v ∧ ∃ m, w'' = w.drewN (q + m) :=
 (h _).mono fun _ _ ⟨he, hm⟩ => ⟨he, j, hm.symm⟩
theorem zeroC_own (w : World) (base : Nat) : OwnC w base (.slice none 0 0) (.slice none 0 0) (.slice none 0 0) [] [] [] := ⟨OwnI.nil_ _ _, OwnI.nil_ _ _, OwnI.nil_ _ _⟩
theorem info_cell : (Tryz.prog.info? 71).map (·.size) = some 4 := by kernel_rfl
theorem info_cell3 : (Tryz.prog.info? 71).map (fun i => (i.zero, i.size, i.bytes)) = some (some (.agg #[.int .i64 0, .slice none 0 0, .slice none 0 0, .slice none 0 0]), 4, 80) := by kernel_rfl
end Go.Proofs.YtmepdkdeanbbaaaGreat
namespace Go.Proofs.YtmepdkdeanbbaaaGreat
set_option maxRecDepth 100000
open Go.RowKit

abbrev elInts : ElT (List Int) := elRow elInt 1
abbrev elIntsO : ElT (List Int) := elOwn elInt 3 1
abbrev elCell : ElT PC := elPair elInt 1 (elPair elInts 1 (elPair elInts 1 elInts))
abbrev elCellO : ElT PC := elPair elInt 1 (elPair elIntsO 1 (elPair elIntsO 1 elIntsO))
theorem elInts_ok : elInts.Ok := elRow_ok elInt_ok
theorem elIntsO_ok : elIntsO.Ok := elOwn_ok elInt_ok
theorem elCell_ok : elCell.Ok := elPair_ok elInt_ok (elPair_ok elInts_ok (elPair_ok elInts_ok elInts_ok))
theorem elCellO_ok : elCellO.Ok := elPair_ok elInt_ok (elPair_ok elIntsO_ok (elPair_ok elIntsO_ok elIntsO_ok))
section
variable {w : World} {S : Nat → Prop} {us : List Value} {x : PC}
theorem elIntsO_read {l : List Int} (h : elIntsO w S us l) : elInts w S us l := elOwn_row elInt_ok (fun _ _ h => h) h
theorem elCellO_read (h : elCellO w S us x) : elCell w S us x := ⟨h.1, elIntsO_read h.2.1, elIntsO_read h.2.2.1, elIntsO_read h.2.2.2⟩
theorem four_of {a : Value} {b c d : Value} (h0 : us.take 1 = [a]) (h1 : (us.drop 1).take 1 = [b]) (h2 : ((us.drop 1).drop 1).take 1 = [c]) (h3 : ((us.drop 1).drop 1).drop 1 = [d]) : us = [a, b, c, d] := by
 rcases us with _ | ⟨u0, _ | ⟨u1, _ | ⟨u2, us⟩⟩⟩
 ·cases h0
 ·cases h1
 ·cases h2
 ·simp at h0 h1 h2 h3
  rw [h0, h1, h2, h3]
theorem elCell_open (h : elCell w S us x) : ∃ n A1 n1 c1 A2 n2 c2 A3 n3 c3 Su M X, us = [.int .i64 n, .slice A1 n1 c1, .slice A2 n2 c2, .slice A3 n3 c3] ∧ Row elInt 1 w S A1 n1 c1 Su ∧ Row elInt 1 w S A2 n2 c2 M ∧ Row elInt 1 w S A3 n3 c3 X ∧ x = (n, Su, M, X) := by
 obtain ⟨e0, ⟨A1, n1, c1, e1, h1⟩, ⟨A2, n2, c2, e2, h2⟩, A3, n3, c3, e3, h3⟩ := h
 exact ⟨x.1, A1, n1, c1, A2, n2, c2, A3, n3, c3, x.2.1, x.2.2.1, x.2.2.2, four_of e0 e1 e2 e3, h1, h2, h3, rfl⟩
theorem elCell_mk {n : Int} {A1 A2 A3 : Option Addr} {n1 c1 n2 c2 n3 c3 : Nat} {Su M X : List Int} (h1 : Row elInt 1 w S A1 n1 c1 Su) (h2 : Row elInt 1 w S A2 n2 c2 M) (h3 : Row elInt 1 w S A3 n3 c3 X) :
  elCell w S [.int .i64 n, .slice A1 n1 c1, .slice A2 n2 c2, .slice A3 n3 c3] (n, Su, M, X) := ⟨rfl, ⟨A1, n1, c1, rfl, h1⟩, ⟨A2, n2, c2, rfl, h2⟩, A3, n3, c3, rfl, h3⟩
theorem elCell_has (h : elCell w S us x) : ∃ n A1 n1 c1 A2 n2 c2 A3 n3 c3 Su M X, us = [.int .i64 n, .slice A1 n1 c1, .slice A2 n2 c2, .slice A3 n3 c3] ∧ HasC w w.heap.size A1 n1 c1 A2 n2 c2 A3 n3 c3 Su M X ∧ x = (n, Su, M, X) := by
 obtain ⟨n, A1, n1, c1, A2, n2, c2, A3, n3, c3, Su, M, X, e, h1, h2, h3, ex⟩ := elCell_open h
 exact ⟨n, A1, n1, c1, A2, n2, c2, A3, n3, c3, Su, M, X, e, ⟨h1.hasI, h2.hasI, h3.hasI⟩, ex⟩
theorem Row.hasCs {A : Option Addr} {n c : Nat} {L : List PC} (h : Row elCell 4 w S A n c L) : HasCs w w.heap.size A n c L := by
 refine ⟨h.len, h.cap, h.fit, h.void, fun i hi => ?_⟩
 obtain ⟨b, o, us, x, e, _, hl, _, hc, hx, hL⟩ := h.at_ hi
 obtain ⟨q, A1, n1, c1, A2, n2, c2, A3, n3, c3, Su, M, X, rfl, h1, rfl⟩ := elCell_has hx
 have e1 : L.getD i zeroC = (q, Su, M, X) := by rw [List.getD_eq_getElem?_getD, hL.out]; rfl
 rw [e1]
 exact ⟨b, o, A1, n1, c1, A2, n2, c2, A3, n3, c3, e, hl, ⟨hc 0 _ rfl, hc 1 _ rfl, hc 2 _ rfl, hc 3 _ rfl⟩, h1⟩
theorem OwnR.ints {base : Nat} {v : Value} {L : List Int} (h : OwnR elInt 3 1 w base S v L) : OwnI w base v L := by
 obtain ⟨vs, h1, h2⟩ := h
 have e : vs = L.map i64v := by
  apply List.ext_getElem?
  intro i
  rw [List.getElem?_map]
  have hlen : vs.length = L.length := by have := h1.1; omega
  by_cases hi : i < L.length
  ·have hL : L[i]? = some (L[i]'hi) := List.getElem?_eq_getElem hi
   have h3 : (vs.drop (i * 1)).take 1 = [i64v (L[i]'hi)] := h2 i _ hL
   have h4 := congrArg (fun l => l[0]?) h3
   simp only [Nat.mul_one, List.getElem?_take, List.getElem?_drop, Nat.lt_one_iff, if_true, Nat.add_zero, List.getElem?_cons_zero] at h4
   rw [h4, hL]
   rfl
  ·rw [List.getElem?_eq_none (by omega), List.getElem?_eq_none (by omega)]
   rfl
 rw [e] at h1
 exact h1
theorem OwnC.el {base : Nat} {n : Int} {v1 v2 v3 : Value} {Su M X : List Int} (h : OwnC w base v1 v2 v3 Su M X) (hS : ∀ k, base ≤ k → k < w.heap.size → S k) : elCellO w S [.int .i64 n, v1, v2, v3] (n, Su, M, X) :=
 ⟨rfl, ⟨v1, rfl, h.s.ownR.low (Nat.zero_le _), fun k hk => hS k (h.s.lt k hk).1 (h.s.lt k hk).2⟩, ⟨v2, rfl, h.m.ownR.low (Nat.zero_le _), fun k hk => hS k (h.m.lt k hk).1 (h.m.lt k hk).2⟩, v3, rfl, h.x.ownR.low (Nat.zero_le _), fun k hk => hS k (h.x.lt k hk).1 (h.x.lt k hk).2⟩
end
/-! ### What came in -/
end Go.Proofs.YtmepdkdeanbbaaaGreat
namespace Go.Proofs.YtmepdkdeanbbaaaGreat
set_option maxRecDepth 100000
open Go.RowKit

abbrev elPathR : ElT (List Txt) := elRow elText 1
abbrev elKeyR : ElT PKey := elRow elPathR 1
abbrev elRw : ElT (PKey × PC) := elPair elKeyR 1 elCell
theorem elPathR_ok : elPathR.Ok := elRow_ok elText_ok
theorem elKeyR_ok : elKeyR.Ok := elRow_ok elPathR_ok
theorem elRw_ok : elRw.Ok := elPair_ok elKeyR_ok elCell_ok
theorem elRw_open {w : World} {S : Nat → Prop} {us : List Value} {d : PKey × PC} (h : elRw w S us d) : ∃ A0 n0 c0 n A1 n1 c1 A2 n2 c2 A3 n3 c3 K Su M X, us = [.slice A0 n0 c0, .int .i64 n, .slice A1 n1 c1, .slice A2 n2 c2, .slice A3 n3 c3] ∧ Row elPathR 1 w S A0 n0 c0 K ∧
  Row elInt 1 w S A1 n1 c1 Su ∧ Row elInt 1 w S A2 n2 c2 M ∧ Row elInt 1 w S A3 n3 c3 X ∧ d = (K, n, Su, M, X) := by
 obtain ⟨⟨A0, n0, c0, e0, h0⟩, hc⟩ := h
 obtain ⟨n, A1, n1, c1, A2, n2, c2, A3, n3, c3, Su, M, X, e, h1, h2, h3, ex⟩ := elCell_open hc
 refine ⟨A0, n0, c0, n, A1, n1, c1, A2, n2, c2, A3, n3, c3, d.1, Su, M, X, ?_, h0, h1, h2, h3, Prod.ext rfl ex⟩
 have e' := List.take_append_drop 1 us
 rw [e0, e] at e'
 exact e'.symm
theorem elRw_mk {w : World} {S : Nat → Prop} {n : Int} {A0 A1 A2 A3 : Option Addr} {n0 c0 n1 c1 n2 c2 n3 c3 : Nat} {K : PKey} {Su M X : List Int} (h0 : Row elPathR 1 w S A0 n0 c0 K) (h1 : Row elInt 1 w S A1 n1 c1 Su) (h2 : Row elInt 1 w S A2 n2 c2 M) (h3 : Row elInt 1 w S A3 n3 c3 X) :
  elRw w S [.slice A0 n0 c0, .int .i64 n, .slice A1 n1 c1, .slice A2 n2 c2, .slice A3 n3 c3] (K, n, Su, M, X) := ⟨⟨A0, n0, c0, rfl, h0⟩, elCell_mk h1 h2 h3⟩
theorem Row.atR {w : World} {S : Nat → Prop} {A : Option Addr} {n c : Nat} {L : Rws} (h : Row elRw 5 w S A n c L) {k : Nat} (hk : k < n) : ∃ b o A0 n0 c0 q A1 n1 c1 A2 n2 c2 A3 n3 c3 K Su M X, A = some ⟨b, o, none⟩ ∧ S b ∧ b < w.heap.size ∧
  w.cell? ⟨b, o + k * 5, none⟩ = some (.slice A0 n0 c0) ∧ w.cell? ⟨b, o + k * 5 + 1, none⟩ = some (.int .i64 q) ∧ w.cell? ⟨b, o + k * 5 + 2, none⟩ = some (.slice A1 n1 c1) ∧ w.cell? ⟨b, o + k * 5 + 3, none⟩ = some (.slice A2 n2 c2) ∧ w.cell? ⟨b, o + k * 5 + 4, none⟩ = some (.slice A3 n3 c3) ∧
  Row elPathR 1 w S A0 n0 c0 K ∧ Row elInt 1 w S A1 n1 c1 Su ∧ Row elInt 1 w S A2 n2 c2 M ∧ Row elInt 1 w S A3 n3 c3 X ∧ Hid (L[k]? = some (K, q, Su, M, X)) := by
 obtain ⟨b, o, us, x, e, hb, hl, _, hc, hx, hL⟩ := h.at_ hk
 obtain ⟨A0, n0, c0, q, A1, n1, c1, A2, n2, c2, A3, n3, c3, K, Su, M, X, rfl, h0, h1, h2, h3, rfl⟩ := elRw_open hx
 exact ⟨b, o, A0, n0, c0, q, A1, n1, c1, A2, n2, c2, A3, n3, c3, K, Su, M, X, e, hb, hl, hc 0 _ rfl, hc 1 _ rfl, hc 2 _ rfl, hc 3 _ rfl, hc 4 _ rfl, h0, h1, h2, h3, hL⟩

abbrev ObT (α : Type) := World → (Nat → Prop) → Nat → α → Prop
def ObT.Ok {α : Type} (O : ObT α) : Prop := ∀ w S w' S' g x, Mv w S w' S' → S g → g < w.heap.size → O w S g x → O w' S' g x
end Go.Proofs.YtmepdkdeanbbaaaGreat
