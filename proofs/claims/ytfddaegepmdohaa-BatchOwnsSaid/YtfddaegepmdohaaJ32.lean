/- NamesS -/
import Derived.Test.YtfddaegepmdohaaJ1
import Derived.Test.YtfddaegepmdohaaJ20
import Derived.Shelf.Strings.Split
namespace Go.Proofs.Ytfddaegepmdohaa
set_option maxRecDepth 100000
open Go.RowKit

/-! ### Plain -/
theorem index47_none : ∀ {l : Txt}, (47 : UInt8) ∉ l → Lib.index l [47] = -1 := by
  intro l
  rw [Lib.index_one]
  induction l with
  | nil => intro _; rfl
  | cons b l ih =>
    intro h
    have h1 : (b == 47) = false := by rw [beq_eq_false_iff_ne]; rintro rfl; exact h (by simp)
    have h2 := ih fun hm => h (List.mem_cons_of_mem _ hm)
    unfold Lib.indexByte
    rw [h1, h2]
    rfl
theorem index47_hit {a r : Txt} (h : (47 : UInt8) ∉ a) : Lib.index (a ++ 47 :: r) [47] = a.length := by
  rw [Lib.index_one]
  induction a with
  | nil => rfl
  | cons b a ih =>
    have h1 : (b == 47) = false := by rw [beq_eq_false_iff_ne]; rintro rfl; exact h (by simp)
    have h2 := ih fun hm => h (List.mem_cons_of_mem _ hm)
    rw [List.cons_append]
    unfold Lib.indexByte
    rw [h1, h2]
    have h3 : ((a.length : Int) == -1) = false := by rw [beq_eq_false_iff_ne]; omega
    rw [h3]
    simp
/-- The text cut at the first k '/'. -/
def cutsT (k : Nat) (l : Txt) : List Txt := Lib.splitK [47] 0 k l
theorem cutsT_none {l : Txt} (h : (47 : UInt8) ∉ l) : ∀ k, cutsT k l = [l]
  | 0 => rfl
  | k + 1 => by
    unfold cutsT Lib.splitK
    rw [index47_none h]
    rfl
theorem cutsT_hit {a r : Txt} (h : (47 : UInt8) ∉ a) (k : Nat) : cutsT (k + 1) (a ++ 47 :: r) = a :: cutsT k r := by
  unfold cutsT
  rw [Lib.splitK, index47_hit h]
  have h3 : ((a.length : Int) == -1) = false := by rw [beq_eq_false_iff_ne]; omega
  rw [h3, if_neg (by simp), Int.toNat_natCast, Nat.add_zero, List.take_left]
  congr 2
  simp [List.drop_append]
theorem cutsT_all : ∀ (k : Nat) (l : Txt), (splitT l).length ≤ k + 1 → cutsT k l = splitT l := by
  intro k
  induction k with
  | zero =>
    intro l h
    by_cases hm : (47 : UInt8) ∈ l
    · obtain ⟨a, r, rfl, ha⟩ := List.eq_append_cons_of_mem hm
      rw [splitT_app ha] at h
      rcases hs : splitT r with _ | ⟨b, q⟩
      · exact absurd hs (splitT_ne r)
      · rw [hs] at h; simp at h
    · rw [splitT_name hm]; rfl
  | succ k ih =>
    intro l h
    by_cases hm : (47 : UInt8) ∈ l
    · obtain ⟨a, r, rfl, ha⟩ := List.eq_append_cons_of_mem hm
      rw [splitT_app ha] at h ⊢
      rw [cutsT_hit ha, ih r (by simpa using h)]
    · rw [splitT_name hm, cutsT_none hm]
theorem cutsT_more : ∀ (k : Nat) (l : Txt), k + 1 ≤ (splitT l).length → (cutsT k l).length = k + 1 := by
  intro k
  induction k with
  | zero => intro l _; rfl
  | succ k ih =>
    intro l h
    by_cases hm : (47 : UInt8) ∈ l
    · obtain ⟨a, r, rfl, ha⟩ := List.eq_append_cons_of_mem hm
      rw [splitT_app ha] at h
      rw [cutsT_hit ha, List.length_cons, ih r (by simpa using h)]
    · rw [splitT_name hm] at h; simp at h
theorem splitT_length (l : Txt) : (splitT l).length ≤ l.length + 1 := by
  induction l with
  | nil => simp [splitT]
  | cons b l ih =>
    unfold splitT
    split
    · simp; omega
    · split <;> rename_i h
      · simp
      · rw [h] at ih; simp at ih ⊢; omega
/-- What the program splits off is a path just where the whole is, and then it is the whole. -/
theorem cuts_may (l : Txt) : (mayP (cutsT (min 4 (l.length + 1) - 1) l) ↔ mayP (splitT l)) ∧ (mayP (splitT l) → cutsT (min 4 (l.length + 1) - 1) l = splitT l) := by
  have hl := splitT_length l
  by_cases h : (splitT l).length ≤ min 4 (l.length + 1) - 1 + 1
  · rw [cutsT_all _ l h]
    exact ⟨Iff.rfl, fun _ => rfl⟩
  · have h4 : min 4 (l.length + 1) - 1 = 3 := by omega
    rw [h4] at h ⊢
    have hc := cutsT_more 3 l (by omega)
    exact ⟨⟨fun hm => by have := hm.1; omega, fun hm => by have := hm.1; omega⟩, fun hm => by have := hm.1; omega⟩

/-! ### The program's -/
theorem info_text : (Try.prog.info? 9).map (fun i => (i.zero, i.size, i.bytes)) = some (some (.string ByteArray.empty), 1, 16) := by kernel_rfl
/-- A new row, of texts and room behind them. -/
theorem HasT.cellsOf (w : World) (P : List ByteArray) (N : Nat) (e : TypeId) (h : P.length ≤ N) (hN : N ≤ 1000000) :
    HasT (w.alloc (.cells (Lib.cellsOf P N) e)) (w.alloc (.cells (Lib.cellsOf P N) e)).heap.size (some ⟨w.heap.size, 0, none⟩) P.length N (P.map (·.data.toList)) := by
  refine ⟨by simp, h, by unfold maxLen; omega, (fun h => by cases h), fun _ => ⟨w.heap.size, 0, rfl, by simp, fun j u hu => ?_⟩⟩
  rw [List.map_map, List.getElem?_map] at hu
  rw [Nat.zero_add, cell_new, Lib.cellsOf, List.getElem?_toArray]
  rcases hj : P[j]? with _ | x
  · rw [hj] at hu; cases hu
  · rw [hj] at hu
    have hlt : j < P.length := by
      rcases Nat.lt_or_ge j P.length with h | h
      · exact h
      · rw [List.getElem?_eq_none h] at hj; cases hj
    rw [List.getElem?_append_left (by simpa using hlt), List.getElem?_map, hj]
    simpa [strV] using hu
end Go.Proofs.Ytfddaegepmdohaa
