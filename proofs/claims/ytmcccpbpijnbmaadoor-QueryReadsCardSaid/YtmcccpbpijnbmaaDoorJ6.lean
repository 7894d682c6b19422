/- Lists -/
import Derived.Test.YtmcccpbpijnbmaaDoorJ1
import Derived.Test.YtmcccpbpijnbmaaDoorJ4
namespace Go.Proofs.YtmcccpbpijnbmaaDoor
set_option maxRecDepth 100000
open Go.RowKit

theorem RC.ints {P : Program} {w : World} {t e : TypeId} {a : Option Addr} {n c : Nat} (ht : P.underlying t = some (.slice e)) (he : P.underlying e = some (.int .i64)) (hc : P.cellsOf e = 1) (h : RC P w t [.slice a n c]) :
  ∃ l, HasI w w.heap.size a n c l ∧ ∀ x ∈ l, -9223372036854775808 ≤ x ∧ x ≤ 9223372036854775807 := by
 have hs := h.slice ht
 have hshape : n ≤ c ∧ c ≤ maxLen ∧ (a = none → c = 0) := by
  rcases hs with ⟨h1, h2, h3⟩ | ⟨ad, h1, h2, h3, _⟩
  ·subst h2 h3; exact ⟨Nat.le_refl _, Nat.zero_le _, fun _ => rfl⟩
  ·exact ⟨h2, h3, fun e => by rw [h1] at e; cases e⟩
 rcases Nat.eq_zero_or_pos n with h0 | h0
 ·subst h0
  exact ⟨[], ⟨rfl, Nat.zero_le _, hshape.2.1, hshape.2.2, Has.nil_⟩, fun x hx => by simp at hx⟩
 ·obtain ⟨b, o, rfl, hb, _, _, hi⟩ := h.rows ht (by omega) h0
  have key : ∀ i, i < n → ∃ x : Int, w.cell? ⟨b, o + i, none⟩ = some (i64v x) ∧ -9223372036854775808 ≤ x ∧ x ≤ 9223372036854775807 := fun i hin => by
   obtain ⟨cs, hl, hcell, hr⟩ := hi i hin
   obtain ⟨x, rfl, hw⟩ := hr.int he
   have h1 := hcell 0 (by omega)
   rw [hc, Nat.mul_one, Nat.add_zero] at h1
   exact ⟨x, by rw [h1]; rfl, i64_of_wf hw⟩
  refine ⟨(List.range n).map fun i => match w.cell? ⟨b, o + i, none⟩ with | some (.int .i64 x) => x | _ => 0, ⟨by simp, hshape.1, hshape.2.1, hshape.2.2, fun _ => ⟨b, o, rfl, hb, fun j u hu => ?_⟩⟩, fun x hx => ?_⟩
  ·rw [List.map_map, List.getElem?_map] at hu
   by_cases hj : j < n
   ·obtain ⟨v, hv, _⟩ := key j hj
    rw [List.getElem?_range hj] at hu
    simp only [Option.map_some, Function.comp, hv, i64v, Option.some.injEq] at hu
    rw [hv, ← hu]
    rfl
   ·rw [List.getElem?_eq_none (by simp; omega)] at hu
    cases hu
  ·obtain ⟨i, hi1, rfl⟩ := List.mem_map.1 hx
   obtain ⟨v, hv, h1, h2⟩ := key i (List.mem_range.1 hi1)
   simp only [hv, i64v]
   exact ⟨h1, h2⟩

structure HasL (w : World) (B : Nat) (A : Option Addr) (n c : Nat) (L : List (List Int)) : Prop where
 len : L.length = n
 cap : n ≤ c
 fit : c ≤ maxLen
 void : A = none → c = 0
 has : ∀ i, i < n → ∃ b o A' n' c', A = some ⟨b, o, none⟩ ∧ b < B ∧ w.cell? ⟨b, o + i, none⟩ = some (.slice A' n' c') ∧ HasI w B A' n' c' (L.getD i [])

section
variable {w w' : World} {B B' n c : Nat} {A : Option Addr} {L : List (List Int)}
theorem HasL.more (h : HasL w B A n c L) (hB : B ≤ B') : HasL w B' A n c L :=
 ⟨h.len, h.cap, h.fit, h.void, fun i hi => by obtain ⟨b, o, A', n', c', h1, h2, h3, h4⟩ := h.has i hi; exact ⟨b, o, A', n', c', h1, Nat.lt_of_lt_of_le h2 hB, h3, h4.more hB⟩⟩
theorem HasL.keep (h : HasL w B A n c L) (hk : ∀ b o, b < B → w'.cell? ⟨b, o, none⟩ = w.cell? ⟨b, o, none⟩) : HasL w' B A n c L :=
 ⟨h.len, h.cap, h.fit, h.void, fun i hi => by obtain ⟨b, o, A', n', c', h1, h2, h3, h4⟩ := h.has i hi; exact ⟨b, o, A', n', c', h1, h2, (hk b _ h2).trans h3, h4.keep hk⟩⟩
theorem HasL.below {C : Nat} (h : HasL w B A n c L) (hb : Below C w w') (hC : B ≤ C) : HasL w' B A n c L :=
 h.keep fun b o hp => hb.cell (p := ⟨b, o, none⟩) (Nat.lt_of_lt_of_le hp hC)
theorem HasL.capMax (h : HasL w B A n c L) : c ≤ 9223372036854775807 := by
 have h2 := h.fit
 unfold maxLen at h2; omega
theorem HasL.at_ (h : HasL w B A n c L) {k : Nat} (hk : k < n) : ∃ b o A' n' c' l, A = some ⟨b, o, none⟩ ∧ b < B ∧ w.cell? ⟨b, o + k, none⟩ = some (.slice A' n' c') ∧ HasI w B A' n' c' l ∧ Hid (l = L.getD k []) := by
 obtain ⟨b, o, A', n', c', h1, h2, h3, h4⟩ := h.has k hk
 exact ⟨b, o, A', n', c', _, h1, h2, h3, h4, Lib.hid rfl⟩
theorem HasL.take_ (h : HasL w B A n c L) (k : Nat) (hk : k ≤ n) : HasL w B A k c (L.take k) :=
 ⟨by rw [List.length_take, h.len]; omega, Nat.le_trans hk h.cap, h.fit, h.void, fun i hi => by
  obtain ⟨b, o, A', n', c', h1, h2, h3, h4⟩ := h.has i (by omega)
  refine ⟨b, o, A', n', c', h1, h2, h3, ?_⟩
  have e : (L.take k).getD i [] = L.getD i [] := by simp [List.getD_eq_getElem?_getD, hi]
  rwa [e]⟩
end
theorem RC.lists {P : Program} {w : World} {t e f : TypeId} {a : Option Addr} {n c : Nat} (ht : P.underlying t = some (.slice e)) (he : P.underlying e = some (.slice f)) (hf : P.underlying f = some (.int .i64)) (hc : P.cellsOf e = 1) (hc' : P.cellsOf f = 1) (h : RC P w t [.slice a n c]) :
  ∃ L, HasL w w.heap.size a n c L ∧ ∀ l ∈ L, ∀ x ∈ l, -9223372036854775808 ≤ x ∧ x ≤ 9223372036854775807 := by
 have hs := h.slice ht
 have hshape : n ≤ c ∧ c ≤ maxLen ∧ (a = none → c = 0) := by
  rcases hs with ⟨h1, h2, h3⟩ | ⟨ad, h1, h2, h3, _⟩
  ·subst h2 h3; exact ⟨Nat.le_refl _, Nat.zero_le _, fun _ => rfl⟩
  ·exact ⟨h2, h3, fun e => by rw [h1] at e; cases e⟩
 rcases Nat.eq_zero_or_pos n with h0 | h0
 ·subst h0
  exact ⟨[], ⟨rfl, Nat.zero_le _, hshape.2.1, hshape.2.2, fun i hi => absurd hi (by omega)⟩, fun l hl => by simp at hl⟩
 ·obtain ⟨b, o, rfl, hb, _, _, hi⟩ := h.rows ht (by omega) h0
  have key : ∀ i, ∃ l : List Int, (i < n → ∃ A' n' c', w.cell? ⟨b, o + i, none⟩ = some (.slice A' n' c') ∧ HasI w w.heap.size A' n' c' l) ∧ ∀ x ∈ l, -9223372036854775808 ≤ x ∧ x ≤ 9223372036854775807 := fun i => by
   by_cases hin : i < n
   ·obtain ⟨cs, hl, hcell, hr⟩ := hi i hin
    obtain ⟨A', n', c', rfl⟩ := hr.slice_shape he
    obtain ⟨l, h1, h2⟩ := hr.ints he hf hc'
    have h3 := hcell 0 (by omega)
    rw [hc, Nat.mul_one, Nat.add_zero] at h3
    exact ⟨l, fun _ => ⟨A', n', c', h3, h1⟩, h2⟩
   ·exact ⟨[], fun h => absurd h hin, fun x hx => by simp at hx⟩
  obtain ⟨g, hg⟩ := Classical.axiomOfChoice key
  refine ⟨(List.range n).map g, ⟨by simp, hshape.1, hshape.2.1, hshape.2.2, fun i hin => ?_⟩, fun l hl => ?_⟩
  ·obtain ⟨A', n', c', h1, h2⟩ := (hg i).1 hin
   refine ⟨b, o, A', n', c', rfl, hb, h1, ?_⟩
   have e : ((List.range n).map g).getD i [] = g i := by simp [List.getD_eq_getElem?_getD, hin]
   rwa [e]
  ·obtain ⟨i, _, rfl⟩ := List.mem_map.1 hl
   exact (hg i).2

section
variable {w w' : World} {base C : Nat} {T : TypeId} {v : Value} {L : List (List Int)}
end
end Go.Proofs.YtmcccpbpijnbmaaDoor
