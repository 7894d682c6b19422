/- CubL6, CubL7, CubL10 -/
import Derived.Test.YteifhgcjmjihgaaJ6
import Derived.Test.YteifhgcjmjihgaaJ30
import Derived.Test.YteifhgcjmjihgaaJ34
import Derived.Test.YteifhgcjmjihgaaJ37
import Derived.Test.YteifhgcjmjihgaaJ41
import Derived.Test.YteifhgcjmjihgaaJ42
import Derived.Deep.RegionHeld3
namespace Go.Proofs.Yteifhgcjmjihgaa
set_option maxRecDepth 100000
open Go.RowKit

theorem getC_at {W m : Nat} {C : Cub} (hC : Cuboid W m C) {t : Nat} {K : List Int} {u : PC} (h : C[t]? = some (K, u)) : getC W C K = some u := by
  unfold getC
  have hm := List.mem_of_getElem? h
  rw [if_pos (hC.key _ hm)]
  exact getK_of_mem hC.ris hm
theorem getC_is {W m : Nat} {C : Cub} (hC : Cuboid W m C) (K : List Int) : getC W C K = getK C K := by
  unfold getC
  by_cases hk : isKey W K
  · rw [if_pos hk]
  · rw [if_neg hk]
    rcases hg : getK C K with _ | u
    · rfl
    · exact absurd (hC.key _ (getK_mem hg)) hk
end Go.Proofs.Yteifhgcjmjihgaa
namespace Go.Proofs.Yteifhgcjmjihgaa
set_option maxRecDepth 100000
open Go.RowKit

theorem cells_deed : Try.prog.cellsOf 49 = 5 := by kernel_rfl
theorem deed_of {w : World} {cs : List Value} (h : RC Try.prog w 49 cs) : ∃ x, elUnd w (fun b => b < w.heap.size) cs x ∧ True := by
  have hl := h.len Try.underlying49
  rw [cells_deed] at hl
  have f0 := h.field Try.underlying49 0 _ rfl
  have f1 := h.field Try.underlying49 1 _ rfl
  obtain ⟨A, n, c, e0⟩ := f0.slice_shape Try.underlying33
  rw [e0] at f0
  obtain ⟨K, hK, _⟩ := f0.ints Try.underlying33 Try.underlying3 cells_intC
  obtain ⟨x, hx, _⟩ := cell_el f1
  have e0 : (cs.drop 0).take (Try.prog.cellsOf 33) = [.slice A n c] := e0
  rw [cells_intsC] at e0
  have hx : elCell w (fun b => b < w.heap.size) ((cs.drop 1).take (Try.prog.cellsOf 42)) x := hx
  rw [cells_cell, List.take_of_length_le (by simp; omega)] at hx
  refine ⟨(K, x), ⟨⟨A, n, c, by simpa using e0, hK.row⟩, hx⟩, trivial⟩
theorem deeds_of {w : World} {a : Option Addr} {n c : Nat} (h : RC Try.prog w 22 [.slice a n c]) : ∃ L, Row elUnd 5 w (fun b => b < w.heap.size) a n c L := by
  obtain ⟨L, h1, _⟩ := h.row Try.underlying22 cells_deed (by decide) (G := fun _ => True) fun _ h => deed_of h
  exact ⟨L, h1⟩
theorem ups_of {w : World} {a : Option Addr} {n c : Nat} (h : RC Try.prog w 23 [.slice a n c]) : ∃ L, HasL w w.heap.size a n c L := by
  obtain ⟨L, h1, _⟩ := h.lists Try.underlying23 Try.underlying33 Try.underlying3 cells_intsC cells_intC
  exact ⟨L, h1⟩
theorem addsK_len (W m : Nat) (D : Cub) : ∀ t, (addsK W m D t).length ≤ t
  | 0 => by simp [addsK]
  | t + 1 => by
    have h := addsK_len W m D t
    rw [addsK]
    split
    · rename_i d _
      have h2 : (addK W m (addsK W m D t) d.1 d.2).1.length ≤ (addsK W m D t).length + 1 := by
        unfold addK
        split
        · split
          · exact setK_atmost _ _ _
          · split
            · exact setK_atmost _ _ _
            · simp
        · simp
      omega
    · omega
theorem rollK_none {W : Nat} {C : Cub} {us : List (List Int)} {x : Int} (h : rollK W C us = (none, x)) : x = 1 ∨ x = 14 := by
  unfold rollK at h
  split at h
  · injection h with _ h; exact .inl h.symm
  · split at h
    · injection h with _ h; exact .inr h.symm
    · cases h
theorem rollK_some {W : Nat} {C D : Cub} {us : List (List Int)} {x : Int} (h : rollK W C us = (some D, x)) : x = 0 := by
  unfold rollK at h
  split at h
  · cases h
  · split at h
    · cases h
    · injection h with _ h; exact h.symm
theorem TellRo.below {w w' : World} {W m : Nat} {r : Option Cub × Int} {e : Ending} (h : TellRo w W m r e w') : Below w.heap.size w w' := h.2
end Go.Proofs.Yteifhgcjmjihgaa
namespace Go.Proofs.Yteifhgcjmjihgaa
set_option maxRecDepth 100000
open Go.RowKit

theorem bothW_at : ∀ {us vs : List (List Int)} {t : Nat} {u v : List Int}, us[t]? = some u → vs[t]? = some v → (bothW us vs)[t]? = some (bothU u v)
  | [], _, _, _, _, h, _ => by simp at h
  | _ :: _, [], _, _, _, _, h => by simp at h
  | a :: us, b :: vs, 0, u, v, h, h' => by
    simp at h h'
    subst h h'
    rfl
  | a :: us, b :: vs, t + 1, u, v, h, h' => by
    simp at h h'
    rw [bothW, List.getElem?_cons_succ]
    exact bothW_at h h'
theorem bothU_at {u v : List Int} {s : Nat} {x : Int} (h : u[s]? = some x) : (bothU u v)[s]? = some (if 0 ≤ x ∧ x < (v.length : Int) then v.getD x.toNat 0 else -1) := by
  unfold bothU
  rw [List.getElem?_map, h]
  rfl
theorem bothU_len (u v : List Int) : (bothU u v).length = u.length := by unfold bothU; rw [List.length_map]
theorem fewU_in {us : List (List Int)} {t : Nat} {u : List Int} (h : (fewU us)[t]? = some u) : u.length ≤ 45 := by
  unfold fewU fewP at h
  rw [List.getElem?_map] at h
  rcases hh : (us.take 5)[t]? with _ | l
  · rw [hh] at h; cases h
  · rw [hh] at h
    injection h with h
    rw [← h, List.length_take]
    omega
theorem roll_len {W : Nat} {A : Cub} {vs : List (List Int)} (h : (rollK W A vs).2 ≠ 1) : vs.length = W := Classical.byContradiction fun hn => h (by rw [rollK_arg (.inl hn)])
theorem takeG_more {α : Type} {L : List α} {k : Nat} {x : α} (h : L[k]? = some x) : L.take k ++ [x] = L.take (k + 1) := by
  rw [List.take_add_one, h]
  rfl
end Go.Proofs.Yteifhgcjmjihgaa
