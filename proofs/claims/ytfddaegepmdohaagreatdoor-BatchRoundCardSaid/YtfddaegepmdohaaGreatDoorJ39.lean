/- NamesS -/
import Derived.Test.YtfddaegepmdohaaGreatDoorJ17
import Derived.Test.YtfddaegepmdohaaGreatDoorJ22
import Derived.Shelf.Strings.Split
namespace Go.Proofs.YtfddaegepmdohaaGreatDoor
set_option maxRecDepth 100000
open Go.RowKit

/-! ### Plain -/
theorem index47_none : ∀ {l : Txt}, (47 : UInt8) ∉ l → Lib.index l [47] = -1 := by
  intro l
  rw [Lib.index_one]
  induction l with
  | nil => intro _; rfl
  | cons b l ih =>
    intro h
    have h1 : (b == 47) = false := by rw [beq_eq_false_iff_ne]; rintro rfl; exact h (by simp)
    have h2 := ih fun hm => h (List.mem_cons_of_mem _ hm)
    unfold Lib.indexByte
    rw [h1, h2]
    rfl
theorem index47_hit {a r : Txt} (h : (47 : UInt8) ∉ a) : Lib.index (a ++ 47 :: r) [47] = a.length := by
  rw [Lib.index_one]
  induction a with
  | nil => rfl
  | cons b a ih =>
    have h1 : (b == 47) = false := by rw [beq_eq_false_iff_ne]; rintro rfl; exact h (by simp)
    have h2 := ih fun hm => h (List.mem_cons_of_mem _ hm)
    rw [List.cons_append]
    unfold Lib.indexByte
    rw [h1, h2]
    have h3 : ((a.length : Int) == -1) = false := by rw [beq_eq_false_iff_ne]; omega
    rw [h3]
    simp
/-- The text cut at the first k '/'. -/
def cutsT (k : Nat) (l : Txt) : List Txt := Lib.splitK [47] 0 k l
theorem cutsT_none {l : Txt} (h : (47 : UInt8) ∉ l) : ∀ k, cutsT k l = [l]
  | 0 => rfl
  | k + 1 => by
    unfold cutsT Lib.splitK
    rw [index47_none h]
    rfl
theorem cutsT_hit {a r : Txt} (h : (47 : UInt8) ∉ a) (k : Nat) : cutsT (k + 1) (a ++ 47 :: r) = a :: cutsT k r := by
  unfold cutsT
  rw [Lib.splitK, index47_hit h]
  have h3 : ((a.length : Int) == -1) = false := by rw [beq_eq_false_iff_ne]; omega
  rw [h3, if_neg (by simp), Int.toNat_natCast, Nat.add_zero, List.take_left]
  congr 2
  simp [List.drop_append]
theorem cutsT_all : ∀ (k : Nat) (l : Txt), (splitT l).length ≤ k + 1 → cutsT k l = splitT l := by
  intro k
  induction k with
  | zero =>
    intro l h
    by_cases hm : (47 : UInt8) ∈ l
    · obtain ⟨a, r, rfl, ha⟩ := List.eq_append_cons_of_mem hm
      rw [splitT_app ha] at h
      rcases hs : splitT r with _ | ⟨b, q⟩
      · exact absurd hs (splitT_ne r)
      · rw [hs] at h; simp at h
    · rw [splitT_name hm]; rfl
  | succ k ih =>
    intro l h
    by_cases hm : (47 : UInt8) ∈ l
    · obtain ⟨a, r, rfl, ha⟩ := List.eq_append_cons_of_mem hm
      rw [splitT_app ha] at h ⊢
      rw [cutsT_hit ha, ih r (by simpa using h)]
    · rw [splitT_name hm, cutsT_none hm]
theorem cutsT_more : ∀ (k : Nat) (l : Txt), k + 1 ≤ (splitT l).length → (cutsT k l).length = k + 1 := by
  intro k
  induction k with
  | zero => intro l _; rfl
  | succ k ih =>
    intro l h
    by_cases hm : (47 : UInt8) ∈ l
    · obtain ⟨a, r, rfl, ha⟩ := List.eq_append_cons_of_mem hm
      rw [splitT_app ha] at h
      rw [cutsT_hit ha, List.length_cons, ih r (by simpa using h)]
    · rw [splitT_name hm] at h; simp at h
theorem splitT_length (l : Txt) : (splitT l).length ≤ l.length + 1 := by
  induction l with
  | nil => simp [splitT]
  | cons b l ih =>
    unfold splitT
    split
    · simp; omega
    · split <;> rename_i h
      · simp
      · rw [h] at ih; simp at ih ⊢; omega
/-- What the program splits off is a path just where the whole is, and then it is the whole. -/
theorem cuts_may (l : Txt) : (mayP (cutsT (min 4 (l.length + 1) - 1) l) ↔ mayP (splitT l)) ∧ (mayP (splitT l) → cutsT (min 4 (l.length + 1) - 1) l = splitT l) := by
  have hl := splitT_length l
  by_cases h : (splitT l).length ≤ min 4 (l.length + 1) - 1 + 1
  · rw [cutsT_all _ l h]
    exact ⟨Iff.rfl, fun _ => rfl⟩
  · have h4 : min 4 (l.length + 1) - 1 = 3 := by omega
    rw [h4] at h ⊢
    have hc := cutsT_more 3 l (by omega)
    exact ⟨⟨fun hm => by have := hm.1; omega, fun hm => by have := hm.1; omega⟩, fun hm => by have := hm.1; omega⟩

/-! ### The program's -/
theorem info_text : (Tryz.prog.info? 9).map (fun i => (i.zero, i.size, i.bytes)) = some (some (.string ByteArray.empty), 1, 16) := by kernel_rfl
theorem genSplit_any (s : ByteArray) (w : World) (hs : s.size < 4294967281) :
    Calls Tryz.prog 64 #[.string s, .string ⟨#[47]⟩, .int .i64 0, .int .i64 4] w fun e w' => e = .returned (.slice (some ⟨w.heap.size, 0, none⟩) (Lib.splitB ⟨#[47]⟩ 0 (min 4 (s.size + 1) - 1) s).length (min 4 (s.size + 1))) ∧ w' = w.alloc (.cells (Lib.cellsOf (Lib.splitB ⟨#[47]⟩ 0 (min 4 (s.size + 1) - 1) s) (min 4 (s.size + 1))) 9) :=
  Any.strings_genSplit_core Tryz.lays221 info_text s ⟨#[47]⟩ 0 4 (min 4 (s.size + 1)) w hs (by decide) (by decide)
    (fun x c hx => (Tryz.strings_Index_one x 47 _).mono fun e w' ⟨he, hw⟩ => ⟨by rw [he]; show _ = Ending.returned (Value.int .i64 (Lib.index x.data.toList [47])); rw [Lib.index_one], hw⟩)
    ((Tryz.strings_Count_one s 47 w).mono fun e w' ⟨he, hw⟩ => ⟨by rw [he]; show _ = Ending.returned (Value.int .i64 ((Lib.count s.data.toList [47] : Nat) : Int)); rw [Lib.count_one]; rfl, hw⟩)
    (by decide) (by decide) (by rw [if_neg (by decide)]; omega)
/-- A new row, of texts and room behind them. -/
theorem HasT.cellsOf (w : World) (P : List ByteArray) (N : Nat) (e : TypeId) (h : P.length ≤ N) (hN : N ≤ 1000000) :
    HasT (w.alloc (.cells (Lib.cellsOf P N) e)) (w.alloc (.cells (Lib.cellsOf P N) e)).heap.size (some ⟨w.heap.size, 0, none⟩) P.length N (P.map (·.data.toList)) := by
  refine ⟨by simp, h, by unfold maxLen; omega, (fun h => by cases h), fun _ => ⟨w.heap.size, 0, rfl, by simp, fun j u hu => ?_⟩⟩
  rw [List.map_map, List.getElem?_map] at hu
  rw [Nat.zero_add, cell_new, Lib.cellsOf, List.getElem?_toArray]
  rcases hj : P[j]? with _ | x
  · rw [hj] at hu; cases hu
  · rw [hj] at hu
    have hlt : j < P.length := by
      rcases Nat.lt_or_ge j P.length with h | h
      · exact h
      · rw [List.getElem?_eq_none h] at hj; cases hj
    rw [List.getElem?_append_left (by simpa using hlt), List.getElem?_map, hj]
    simpa [strV] using hu
set_option maxRecDepth 100000 in
/-- strings.SplitN at '/' and 4. -/
theorem splitN_any (s : ByteArray) (w : World) (hs : s.size < 4294967281) :
    Calls Tryz.prog 55 #[.string s, .string ⟨#[47]⟩, .int .i64 4] w fun e w' => (∃ B j d, e = .returned (.slice B j d) ∧ HasT w' w'.heap.size B j d (cutsT (min 4 (s.size + 1) - 1) s.data.toList) ∧ ∀ a, B = some a → w.heap.size ≤ a.block) ∧ Below w.heap.size w w' := by
  have hE := Lib.hid (Lib.splitB_data ⟨#[47]⟩ 0 (min 4 (s.size + 1) - 1) s)
  have hL := Lib.splitB_length_le ⟨#[47]⟩ 0 (min 4 (s.size + 1) - 1) s
  have H := HasT.cellsOf w (Lib.splitB ⟨#[47]⟩ 0 (min 4 (s.size + 1) - 1) s) (min 4 (s.size + 1)) 9 (by omega) (by omega)
  rw [hE.out] at H
  have H2 := Lib.hid H
  have HC := Lib.hid (genSplit_any s w hs)
  clear H hL hE
  go_enter Tryz.func55, Tryz.ntmps55
  go_wp2_with fail
  refine HC.out.mono ?_
  rintro e v ⟨rfl, hw⟩
  obtain ⟨k, hk⟩ : ∃ k, (Lib.splitB ⟨#[47]⟩ 0 (min 4 (s.size + 1) - 1) s).length = k := ⟨_, rfl⟩
  obtain ⟨d, hd⟩ : ∃ d, min 4 (s.size + 1) = d := ⟨_, rfl⟩
  have HT : Hid (HasT v v.heap.size (some ⟨w.heap.size, 0, none⟩) k d (cutsT (min 4 (s.size + 1) - 1) s.data.toList)) := Lib.hid (by rw [← hk, ← hd, hw]; exact H2.out)
  have HB : Hid (Below w.heap.size w v) := Lib.hid (by rw [hw]; exact (Below.refl _ _).alloc (Nat.le_refl _) _)
  clear H2 hw HC
  rw [hk, hd]
  clear hk
  go_wp2_with fail
  go_ret
  exact ⟨⟨_, _, _, rfl, HT.out, fun a ha => by injection ha with ha; subst ha; exact Nat.le_refl _⟩, HB.out⟩
end Go.Proofs.YtfddaegepmdohaaGreatDoor
