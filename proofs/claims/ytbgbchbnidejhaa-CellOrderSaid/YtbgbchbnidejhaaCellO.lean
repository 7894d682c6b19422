/- Layer 5: rows of rows that grow side by side, and values in another order. -/
import Derived.Test.YtbgbchbnidejhaaCellL
import Derived.Test.YtbgbchbnidejhaaAcc
namespace Go.Proofs.Ytbgbchbnidejhaa
open Go.RowKit

theorem takeL_snoc {l : List (List Int)} {k : Nat} (h : k < l.length) {y : List Int} (hy : l.getD k [] = y) : l.take k ++ [y] = l.take (k + 1) := by
  rw [List.take_add_one, ← hy, List.getD_eq_getElem?_getD, List.getElem?_eq_getElem h]
  rfl
/-- Turned round from a place on. -/
def rotL (l : List (List Int)) (t : Nat) : List (List Int) := l.drop t ++ l.take t
theorem rotL_length (l : List (List Int)) (t : Nat) : (rotL l t).length = l.length := by
  unfold rotL
  rw [List.length_append, List.length_drop, List.length_take]
  omega
theorem rotL_get {l : List (List Int)} {t k : Nat} (ht : t ≤ l.length) (hk : k < l.length) : (rotL l t).getD k [] = l.getD ((k + t) % l.length) [] := by
  unfold rotL
  rw [List.getD_eq_getElem?_getD, List.getD_eq_getElem?_getD]
  by_cases h : k < l.length - t
  · rw [List.getElem?_append_left (by rw [List.length_drop]; exact h), List.getElem?_drop, Nat.mod_eq_of_lt (by omega), Nat.add_comm]
  · rw [List.getElem?_append_right (by rw [List.length_drop]; omega), List.length_drop, List.getElem?_take, if_pos (by omega)]
    rw [show (k + t) % l.length = k - (l.length - t) from by
      rw [Nat.mod_eq_sub_mod (by omega), Nat.mod_eq_of_lt (by omega)]; omega]
theorem revL_get {l : List (List Int)} {k : Nat} (hk : k < l.length) : l.reverse.getD k [] = l.getD (l.length - 1 - k) [] := by
  rw [List.getD_eq_getElem?_getD, List.getD_eq_getElem?_getD, List.getElem?_reverse hk]

theorem cell_litS (w : World) (y : Value) (t : TypeId) (g : Nat) (hg : g = w.heap.size) : (w.alloc (.cells #[y] t)).cell? ⟨g, 0, none⟩ = some y := by
  subst hg
  rw [cell_new]; rfl
/-- One row more. -/
theorem wpList_appL {w : World} {ops : Array Oper} {rest : List Oper} {o : Oper} {a : Act} {Q : Exit → Act → World → Prop} (hgd : o.guard = none) (s x : Operand)
    (ho : o.op = .call { callee := .builtin .append, args := #[s, x], argTypes := #[22, 22] })
    (base C : Nat) (v : Value) (L : List (List Int)) (hs : a.eval s = v) (hown : OwnL w base C 24 v L) (g : Nat) (hx : a.eval x = .slice (some ⟨g, 0, none⟩) 1 1) (A : Option Addr) (n c : Nat) (l : List Int)
    (hy : w.cell? ⟨g, 0, none⟩ = some (.slice A n c)) (hl : HasI w C A n c l) (hlen : L.length ≤ 1000000) (hbase : base ≤ w.heap.size) (hC : C ≤ base)
    (h : ∀ v' w', OwnL w' base C 24 v' (L ++ [l]) → Grew w v w' v' → (∀ k, v.ownBlock = some k → base ≤ k) → wpList Try.prog ops Q rest (a.put o.dst v') w') : wpList Try.prog ops Q (o :: rest) a w := by
  obtain ⟨i, hi, hz0, hz1, hz2⟩ := info_parts info_ints
  obtain ⟨xs, hr, hxs⟩ := hown
  have hlo := fun k e => (hr.lt k e).1
  refine wpList_append_own_at w hgd s x 22 ho base 24 i _ 1 24 Try.underlying22 hi hz0 hz1 hz2 rfl (by decide) v L.length xs hs hr ⟨g, 0, none⟩ 1 1 [.slice A n c] hx rfl (fun j u hj => ?_) (one_slice A n c) (by unfold maxLen; omega) (by omega) hbase ?_
  · match j, hj with
    | 0, hj => simp at hj; subst hj; rw [add_flat]; exact hy
    | (j + 1), hj => simp at hj
  · intro v' w' h1 h2 _ h4
    have hk : ∀ b o, b < C → w'.cell? ⟨b, o, none⟩ = w.cell? ⟨b, o, none⟩ := fun b o hb => World.cell?_of_block (h2.block b (by omega) (fun e => by have := hlo _ e.symm; omega))
    refine h v' w' (OwnL.snoc hxs (by rw [hr.1, Nat.mul_one]) hl h1 hk) ⟨h2, fun k hk => ?_⟩ hlo
    rcases h4 with h4 | h4
    · exact .inl (h4 ▸ hk)
    · rw [h4] at hk
      injection hk with hk
      exact .inr (Nat.le_of_eq hk)
/-- Another row that grows leaves it. -/
theorem OwnL.kept_ {w w' : World} {base C : Nat} {u v v' : Value} {M : List (List Int)} (h : OwnL w base C 24 u M) (hG : Grew w v w' v') (hne : u.ownBlock = none ∨ u.ownBlock ≠ v.ownBlock) (hlo : ∀ k, v.ownBlock = some k → base ≤ k) (hb : base ≤ w.heap.size) (hC : C ≤ base) : OwnL w' base C 24 u M := by
  obtain ⟨xs, hr, hxs⟩ := h
  refine ⟨xs, hr.kept hG.1 hne, fun i l hi => ?_⟩
  obtain ⟨A, n, c, e, hh⟩ := hxs i l hi
  exact ⟨A, n, c, e, hh.keep fun b o hb => World.cell?_of_block (hG.1.block b (by omega) (fun e => by have := hlo _ e.symm; omega))⟩
theorem OwnL.alloc_ {w : World} {base C : Nat} {T : TypeId} {v : Value} {L : List (List Int)} (h : OwnL w base C T v L) (o : Obj) (hC : C ≤ w.heap.size) : OwnL (w.alloc o) base C T v L := h.below (below_a1 w o) (Nat.le_refl _) hC
theorem OwnL.ltB {w : World} {base C : Nat} {T : TypeId} {v : Value} {L : List (List Int)} (h : OwnL w base C T v L) : ∀ k, v.ownBlock = some k → base ≤ k ∧ k < w.heap.size := by
  obtain ⟨xs, hr, _⟩ := h
  exact hr.lt
theorem OwnL.shape {w : World} {base C : Nat} {T : TypeId} {v : Value} {L : List (List Int)} (h : OwnL w base C T v L) : ∃ A n c, v = .slice A n c := by
  obtain ⟨xs, hr, _⟩ := h
  rcases hr.2 with ⟨rfl, _⟩ | ⟨g, cap, cur, rfl, _⟩
  · exact ⟨_, _, _, rfl⟩
  · exact ⟨_, _, _, rfl⟩
end Go.Proofs.Ytbgbchbnidejhaa
