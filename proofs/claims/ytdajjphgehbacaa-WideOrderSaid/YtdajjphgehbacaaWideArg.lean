/- Layer 4: a wide number that comes in by value. -/
import Derived.Test.YtdajjphgehbacaaWideLives
import Derived.Test.YtdajjphgehbacaaReads
namespace Go.Proofs.Ytdajjphgehbacaa
open Go.RowKit

theorem cells_wide : Try.prog.cellsOf 23 = 2 := by kernel_rfl
theorem cells_int4 : Try.prog.cellsOf 3 = 1 := by kernel_rfl
theorem wide_of {w : World} {cs : Array Value} (h : RC Try.prog w 23 cs.toList) : ∃ hi lo, cs = #[.int .i64 hi, .int .i64 lo] ∧ -9223372036854775808 ≤ hi ∧ hi ≤ 9223372036854775807 ∧ -9223372036854775808 ≤ lo ∧ lo ≤ 9223372036854775807 := by
  have hl := h.len Try.underlying23
  rw [cells_wide] at hl
  obtain ⟨x, hx, wx⟩ := RC.int Try.underlying3 (h.field Try.underlying23 0 _ rfl)
  obtain ⟨y, hy, wy⟩ := RC.int Try.underlying3 (h.field Try.underlying23 1 _ rfl)
  have hx : (cs.toList.drop 0).take (Try.prog.cellsOf 3) = [.int .i64 x] := hx
  have hy : (cs.toList.drop 1).take (Try.prog.cellsOf 3) = [.int .i64 y] := hy
  rw [cells_int4] at hx hy
  obtain ⟨l⟩ := cs
  match l, hl with
  | [u0, u1], _ =>
    simp at hx hy
    subst hx hy
    obtain ⟨a, b⟩ := i64_of_wf wx
    obtain ⟨c, d⟩ := i64_of_wf wy
    exact ⟨x, y, rfl, a, b, c, d⟩
theorem wNum_lt {ah al bh bl : Int} (ha : wMay ah al) (hb : wMay bh bl) : wNum ah al < wNum bh bl ↔ ah < bh ∨ (ah = bh ∧ al < bl) := by
  unfold wMay at ha hb
  unfold wNum
  omega
theorem wMay_far {hi lo : Int} (h : wMay hi lo) : wFar (wNum hi lo) := by have := wMay_in h; unfold wIn at this; unfold wFar; omega
/-- Two that may be, and their sum too. -/
theorem add_num (s y : Int) (w : World) (hs : wIn s) (hy : wIn y) (hsy : wIn (s + y)) :
    Calls Try.prog 18 #[.agg #[.int .i64 (s / 4294967296), .int .i64 (s % 4294967296)], .agg #[.int .i64 (y / 4294967296), .int .i64 (y % 4294967296)]] w fun e w' => e = .returned (.tuple #[.agg #[.int .i64 ((s + y) / 4294967296), .int .i64 ((s + y) % 4294967296)], .int .i64 0]) ∧ Below w.heap.size w w' := by
  have e1 : s / 4294967296 + y / 4294967296 + (s % 4294967296 + y % 4294967296) / 4294967296 = (s + y) / 4294967296 := by omega
  have e2 : (s % 4294967296 + y % 4294967296) % 4294967296 = (s + y) % 4294967296 := by omega
  exact add_sum (s / 4294967296) (s % 4294967296) (y / 4294967296) (y % 4294967296) w ((wIn_may s).2 hs) ((wIn_may y).2 hy) _ _ _ (.inl ⟨by rw [e1, e2]; exact (wIn_may _).2 hsy, e1.symm, e2.symm, rfl⟩)
/-- Turned round from place t on. -/
def rotI (l : List Int) (t : Nat) : List Int := l.drop t ++ l.take t
theorem rotI_length (l : List Int) (t : Nat) : (rotI l t).length = l.length := by
  unfold rotI
  rw [List.length_append, List.length_drop, List.length_take]
  omega
theorem rotI_sum (l : List Int) (t : Nat) : sumI (rotI l t) = sumI l := by
  unfold rotI
  rw [sumI_app]
  conv => rhs; rw [← List.take_append_drop t l, sumI_app]
  omega
theorem rotI_mem {l : List Int} {t : Nat} {x : Int} (h : x ∈ rotI l t) : x ∈ l := by
  rcases List.mem_append.1 h with h | h
  · exact List.mem_of_mem_drop h
  · exact List.mem_of_mem_take h
theorem rotI_get {l : List Int} {t k : Nat} (ht : t ≤ l.length) (hk : k < l.length) : (rotI l t).getD k 0 = l.getD ((k + t) % l.length) 0 := by
  unfold rotI
  rw [List.getD_eq_getElem?_getD, List.getD_eq_getElem?_getD]
  by_cases h : k < l.length - t
  · rw [List.getElem?_append_left (by rw [List.length_drop]; exact h), List.getElem?_drop, Nat.mod_eq_of_lt (by omega), Nat.add_comm]
  · rw [List.getElem?_append_right (by rw [List.length_drop]; omega), List.length_drop, List.getElem?_take, if_pos (by omega)]
    rw [show (k + t) % l.length = k - (l.length - t) from by
      rw [Nat.mod_eq_sub_mod (by omega), Nat.mod_eq_of_lt (by omega)]; omega]
theorem part_in {l : List Int} (hx : ∀ x ∈ l, -9223372036854775808 ≤ x ∧ x ≤ 9223372036854775807) (hl : l.length ≤ 40) (k : Nat) : wIn (sumI (l.take k)) := by
  have h1 := sumI_bounds (l := l.take k) fun x h => hx x (List.mem_of_mem_take h)
  have h3 : (l.take k).length ≤ l.length := List.length_take_le' k l
  unfold wIn
  omega
end Go.Proofs.Ytdajjphgehbacaa
