/- CubU -/
import Derived.Test.YteifhgcjmjihgaaJ14
import Derived.Test.YteifhgcjmjihgaaJ33
import Derived.Shelf.SlMaps.Clone
namespace Go.Proofs.Yteifhgcjmjihgaa
set_option maxRecDepth 100000
open Go.RowKit Go.Maps

theorem key_part {W : Nat} {k : List Int} (h : k.length = W) (hW : W ≤ 3) {x y z : Int} (e : Hid (kc3 k = [.int .i64 x, .int .i64 y, .int .i64 z])) : ∀ (j : Nat) (u : Value), (k.map i64v)[j]? = some u → (#[Value.int .i64 x, .int .i64 y, .int .i64 z])[0 + j]? = some u := by
  intro j u hu
  have hj : j < k.length := by have := (List.getElem?_eq_some_iff.1 hu).1; simpa using this
  rw [Nat.zero_add]
  have e2 : (#[Value.int .i64 x, .int .i64 y, .int .i64 z])[j]? = (kc3 k)[j]? := by rw [e.out]; simp
  rw [e2, ← hu, List.getElem?_map, List.getElem?_eq_getElem hj]
  match j, hj with
  | 0, hj => simp [kc3, i64v, List.getD_eq_getElem?_getD, List.getElem?_eq_getElem hj]
  | 1, hj => simp [kc3, i64v, List.getD_eq_getElem?_getD, List.getElem?_eq_getElem hj]
  | 2, hj => simp [kc3, i64v, List.getD_eq_getElem?_getD, List.getElem?_eq_getElem hj]
  | j + 3, hj => omega
theorem kc3_letters (k : List Int) : ∃ x y z, Hid (kc3 k = [.int .i64 x, .int .i64 y, .int .i64 z]) := ⟨_, _, _, Lib.hid rfl⟩
theorem take_more {α : Type} {L : List α} {k : Nat} {x : α} (h : L[k]? = some x) : L.take k ++ [x] = L.take (k + 1) := by
  rw [List.take_add_one, h]
  rfl
/-! ### Copy -/
theorem MapK.to_ {w w' : World} {W b b' : Nat} {C : Cub} (h : MapK W w b C) (hb : w'.heap[b']? = w.heap[b]?) : MapK W w' b' C := by
  obtain ⟨F, ⟨⟨D, ⟨es, clock, h1, h2, h3, h4⟩, h5⟩, n1, n2, n3, n4⟩, h6⟩ := h
  exact ⟨F, ⟨⟨D, ⟨es, clock, hb.trans h1, h2, h3, h4⟩, h5⟩, n1, n2, n3, n4⟩, h6⟩
end Go.Proofs.Yteifhgcjmjihgaa
