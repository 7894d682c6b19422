/- NamesS, NamesJ, NamesR -/
import Derived.Test.YtmcccpbpijnbmaaDoorJ13
import Derived.Test.YtmcccpbpijnbmaaDoorJ22
import Derived.Test.YtmcccpbpijnbmaaDoorJ29
import Derived.Lib.Join
import Derived.Shelf.Strings.Split
namespace Go.Proofs.YtmcccpbpijnbmaaDoor
set_option maxRecDepth 100000
open Go.RowKit

/-! ### Plain -/
theorem index47_none : ∀ {l : Txt}, (47 : UInt8) ∉ l → Lib.index l [47] = -1 := by
 intro l
 rw [Lib.index_one]
 induction l with
 | nil => intro _; rfl
 | cons b l ih =>
  intro h
  have h1 : (b == 47) = false := by rw [beq_eq_false_iff_ne]; rintro rfl; exact h (by simp)
  have h2 := ih fun hm => h (List.mem_cons_of_mem _ hm)
  unfold Lib.indexByte
  rw [h1, h2]
  rfl
theorem index47_hit {a r : Txt} (h : (47 : UInt8) ∉ a) : Lib.index (a ++ 47 :: r) [47] = a.length := by
 rw [Lib.index_one]
 induction a with
 | nil => rfl
 | cons b a ih =>
  have h1 : (b == 47) = false := by rw [beq_eq_false_iff_ne]; rintro rfl; exact h (by simp)
  have h2 := ih fun hm => h (List.mem_cons_of_mem _ hm)
  rw [List.cons_append]
  unfold Lib.indexByte
  rw [h1, h2]
  have h3 : ((a.length : Int) == -1) = false := by rw [beq_eq_false_iff_ne]; omega
  rw [h3]
  simp
def cutsT (k : Nat) (l : Txt) : List Txt := Lib.splitK [47] 0 k l
theorem cutsT_none {l : Txt} (h : (47 : UInt8) ∉ l) : ∀ k, cutsT k l = [l]
 | 0 => rfl
 | k + 1 => by
  unfold cutsT Lib.splitK
  rw [index47_none h]
  rfl
theorem cutsT_hit {a r : Txt} (h : (47 : UInt8) ∉ a) (k : Nat) : cutsT (k + 1) (a ++ 47 :: r) = a :: cutsT k r := by
 unfold cutsT
 rw [Lib.splitK, index47_hit h]
 have h3 : ((a.length : Int) == -1) = false := by rw [beq_eq_false_iff_ne]; omega
 rw [h3, if_neg (by simp), Int.toNat_natCast, Nat.add_zero, List.take_left]
 congr 2
 simp [List.drop_append]
theorem cutsT_all : ∀ (k : Nat) (l : Txt), (splitT l).length ≤ k + 1 → cutsT k l = splitT l := by
 intro k
 induction k with
 | zero =>
  intro l h
  by_cases hm : (47 : UInt8) ∈ l
  ·obtain ⟨a, r, rfl, ha⟩ := List.eq_append_cons_of_mem hm
   rw [splitT_app ha] at h
   rcases hs : splitT r with _ | ⟨b, q⟩
   ·exact absurd hs (splitT_ne r)
   ·rw [hs] at h; simp at h
  ·rw [splitT_name hm]; rfl
 | succ k ih =>
  intro l h
  by_cases hm : (47 : UInt8) ∈ l
  ·obtain ⟨a, r, rfl, ha⟩ := List.eq_append_cons_of_mem hm
   rw [splitT_app ha] at h ⊢
   rw [cutsT_hit ha, ih r (by simpa using h)]
  ·rw [splitT_name hm, cutsT_none hm]
theorem cutsT_more : ∀ (k : Nat) (l : Txt), k + 1 ≤ (splitT l).length → (cutsT k l).length = k + 1 := by
 intro k
 induction k with
 | zero => intro l _; rfl
 | succ k ih =>
  intro l h
  by_cases hm : (47 : UInt8) ∈ l
  ·obtain ⟨a, r, rfl, ha⟩ := List.eq_append_cons_of_mem hm
   rw [splitT_app ha] at h
   rw [cutsT_hit ha, List.length_cons, ih r (by simpa using h)]
  ·rw [splitT_name hm] at h; simp at h
theorem splitT_length (l : Txt) : (splitT l).length ≤ l.length + 1 := by
 induction l with
 | nil => simp [splitT]
 | cons b l ih =>
  unfold splitT
  split
  ·simp; omega
  ·split <;> rename_i h
   ·simp
   ·rw [h] at ih; simp at ih ⊢; omega
theorem cuts_may (l : Txt) : (mayP (cutsT (min 4 (l.length + 1) - 1) l) ↔ mayP (splitT l)) ∧ (mayP (splitT l) → cutsT (min 4 (l.length + 1) - 1) l = splitT l) := by
 have hl := splitT_length l
 by_cases h : (splitT l).length ≤ min 4 (l.length + 1) - 1 + 1
 ·rw [cutsT_all _ l h]
  exact ⟨Iff.rfl, fun _ => rfl⟩
 ·have h4 : min 4 (l.length + 1) - 1 = 3 := by omega
  rw [h4] at h ⊢
  have hc := cutsT_more 3 l (by omega)
  exact ⟨⟨fun hm => by have := hm.1; omega, fun hm => by have := hm.1; omega⟩, fun hm => by have := hm.1; omega⟩

/-! ### The program's -/
theorem info_text : (Tryd.prog.info? 9).map (fun i => (i.zero, i.size, i.bytes)) = some (some (.string ByteArray.empty), 1, 16) := by kernel_rfl
theorem genSplit_any (s : ByteArray) (w : World) (hs : s.size < 4294967281) :
  Calls Tryd.prog 75 #[.string s, .string ⟨#[47]⟩, .int .i64 0, .int .i64 4] w fun e w' => e = .returned (.slice (some ⟨w.heap.size, 0, none⟩) (Lib.splitB ⟨#[47]⟩ 0 (min 4 (s.size + 1) - 1) s).length (min 4 (s.size + 1))) ∧ w' = w.alloc (.cells (Lib.cellsOf (Lib.splitB ⟨#[47]⟩ 0 (min 4 (s.size + 1) - 1) s) (min 4 (s.size + 1))) 9) :=
 Any.strings_genSplit_core Tryd.lays221 info_text s ⟨#[47]⟩ 0 4 (min 4 (s.size + 1)) w hs (by decide) (by decide)
  (fun x c hx => (Tryd.strings_Index_one x 47 _).mono fun e w' ⟨he, hw⟩ => ⟨by rw [he]; show _ = Ending.returned (Value.int .i64 (Lib.index x.data.toList [47])); rw [Lib.index_one], hw⟩)
  ((Tryd.strings_Count_one s 47 w).mono fun e w' ⟨he, hw⟩ => ⟨by rw [he]; show _ = Ending.returned (Value.int .i64 ((Lib.count s.data.toList [47] : Nat) : Int)); rw [Lib.count_one]; rfl, hw⟩)
  (by decide) (by decide) (by rw [if_neg (by decide)]; omega)
theorem HasT.cellsOf (w : World) (P : List ByteArray) (N : Nat) (e : TypeId) (h : P.length ≤ N) (hN : N ≤ 1000000) :
  HasT (w.alloc (.cells (Lib.cellsOf P N) e)) (w.alloc (.cells (Lib.cellsOf P N) e)).heap.size (some ⟨w.heap.size, 0, none⟩) P.length N (P.map (·.data.toList)) := by
 refine ⟨by simp, h, by unfold maxLen; omega, (fun h => by cases h), fun _ => ⟨w.heap.size, 0, rfl, by simp, fun j u hu => ?_⟩⟩
 rw [List.map_map, List.getElem?_map] at hu
 rw [Nat.zero_add, cell_new, Lib.cellsOf, List.getElem?_toArray]
 rcases hj : P[j]? with _ | x
 ·rw [hj] at hu; cases hu
 ·rw [hj] at hu
  have hlt : j < P.length := by
   rcases Nat.lt_or_ge j P.length with h | h
   ·exact h
   ·rw [List.getElem?_eq_none h] at hj; cases hj
  rw [List.getElem?_append_left (by simpa using hlt), List.getElem?_map, hj]
  simpa [strV] using hu
set_option maxRecDepth 100000 in
theorem splitN_any (s : ByteArray) (w : World) (hs : s.size < 4294967281) :
  Calls Tryd.prog 70 #[.string s, .string ⟨#[47]⟩, .int .i64 4] w fun e w' => (∃ B j d, e = .returned (.slice B j d) ∧ HasT w' w'.heap.size B j d (cutsT (min 4 (s.size + 1) - 1) s.data.toList) ∧ ∀ a, B = some a → w.heap.size ≤ a.block) ∧ Below w.heap.size w w' := by
 have hE := Lib.hid (Lib.splitB_data ⟨#[47]⟩ 0 (min 4 (s.size + 1) - 1) s)
 have hL := Lib.splitB_length_le ⟨#[47]⟩ 0 (min 4 (s.size + 1) - 1) s
 have H := HasT.cellsOf w (Lib.splitB ⟨#[47]⟩ 0 (min 4 (s.size + 1) - 1) s) (min 4 (s.size + 1)) 9 (by omega) (by omega)
 rw [hE.out] at H
 have H2 := Lib.hid H
 have HC := Lib.hid (genSplit_any s w hs)
 clear H hL hE
 go_enter Tryd.func70, Tryd.ntmps70
 go_wp2_with fail
 refine HC.out.mono ?_
 rintro e v ⟨rfl, hw⟩
 obtain ⟨k, hk⟩ : ∃ k, (Lib.splitB ⟨#[47]⟩ 0 (min 4 (s.size + 1) - 1) s).length = k := ⟨_, rfl⟩
 obtain ⟨d, hd⟩ : ∃ d, min 4 (s.size + 1) = d := ⟨_, rfl⟩
 have HT : Hid (HasT v v.heap.size (some ⟨w.heap.size, 0, none⟩) k d (cutsT (min 4 (s.size + 1) - 1) s.data.toList)) := Lib.hid (by rw [← hk, ← hd, hw]; exact H2.out)
 have HB : Hid (Below w.heap.size w v) := Lib.hid (by rw [hw]; exact (Below.refl _ _).alloc (Nat.le_refl _) _)
 clear H2 hw HC
 rw [hk, hd]
 clear hk
 go_wp2_with fail
 go_ret
 exact ⟨⟨_, _, _, rfl, HT.out, fun a ha => by injection ha with ha; subst ha; exact Nat.le_refl _⟩, HB.out⟩
end Go.Proofs.YtmcccpbpijnbmaaDoor
namespace Go.Proofs.YtmcccpbpijnbmaaDoor
set_option maxRecDepth 100000
open Go.RowKit

theorem may_yes {A : Option Addr} {n c : Nat} {L : List Txt} {w : World} (h : HasT w w.heap.size A n c L) (hm : mayP L) :
  Calls Tryd.prog 61 #[.slice A n c] w fun e w' => e = .returned (.bool true) ∧ Below w.heap.size w w' := by
 have := may_any h
 rwa [decide_eq_true hm] at this
theorem may_no {A : Option Addr} {n c : Nat} {L : List Txt} {w : World} (h : HasT w w.heap.size A n c L) (hm : ¬ mayP L) :
  Calls Tryd.prog 61 #[.slice A n c] w fun e w' => e = .returned (.bool false) ∧ Below w.heap.size w w' := by
 have := may_any h
 rwa [decide_eq_false hm] at this
def TellP (w : World) (p : Option (List Txt)) (e : Ending) (w' : World) : Prop :=
 (match p with
  | some p => ∃ B j d, e = .returned (.tuple #[.slice B j d, .int .i64 0]) ∧ HasT w' w'.heap.size B j d p ∧ ∀ a, B = some a → w.heap.size ≤ a.block
  | none => e = .returned (.tuple #[.slice none 0 0, .int .i64 10])) ∧ Below w.heap.size w w'
theorem TellP.fresh {w w' : World} {p : List Txt} {e : Ending} (h : TellP w (some p) e w') : ∃ B j d, e = .returned (.tuple #[.slice B j d, .int .i64 0]) ∧ HasT w' w'.heap.size B j d p ∧ (∀ a, B = some a → w.heap.size ≤ a.block) ∧ Below w.heap.size w w' := by
 obtain ⟨⟨B, j, d, h1, h2, h4⟩, h3⟩ := h
 exact ⟨B, j, d, h1, h2, h4, h3⟩
theorem TellP.no {w w' : World} {e : Ending} (h : TellP w none e w') : e = .returned (.tuple #[.slice none 0 0, .int .i64 10]) ∧ Below w.heap.size w w' := h
theorem pathP_star {l : Txt} (h : l = [42]) : pathP l = some [] := by unfold pathP; rw [if_pos h]
theorem pathP_yes {l : Txt} (h : ¬ l = [42]) (hm : mayP (splitT l)) : pathP l = some (splitT l) := by unfold pathP; rw [if_neg h, if_pos hm]
theorem pathP_no {l : Txt} (h : ¬ l = [42]) (hm : ¬ mayP (splitT l)) : pathP l = none := by unfold pathP; rw [if_neg h, if_neg hm]
theorem HasT.none_ (w : World) (B : Nat) : HasT w B none 0 0 [] := ⟨rfl, Nat.le_refl _, Nat.zero_le _, fun _ => rfl, Has.nil_⟩

set_option maxRecDepth 100000 in
set_option maxHeartbeats 1000000 in
theorem pathS_any (s : ByteArray) (w : World) (hs : s.size < 4294967281) : Calls Tryd.prog 55 #[.string s] w fun e w' => TellP w (pathP s.data.toList) e w' := by
 by_cases h0 : s.data.toList = [42]
 ·have HP := Lib.hid (pathP_star h0)
  have h1 : (s.toList == [42]) = true := by rw [ByteArray.toList_eq, h0]; rfl
  clear h0
  go_enter Tryd.func55, Tryd.ntmps55
  go_wp2
  go_ret2
  rw [HP.out]
  exact ⟨⟨none, 0, 0, rfl, HasT.none_ _ _, fun _ h => by cases h⟩, Below.refl _ _⟩
 ·have h1 : (s.toList == [42]) = false := by rw [ByteArray.toList_eq, beq_eq_false_iff_ne]; exact h0
  have hsz : s.data.toList.length = s.size := by simp
  obtain ⟨hc1, hc2⟩ := cuts_may s.data.toList
  rw [hsz] at hc1 hc2
  by_cases hm : mayP (splitT s.data.toList)
  ·have HP := Lib.hid (pathP_yes h0 hm)
   have HC := Lib.hid (hc2 hm)
   have HM := Lib.hid (hc1.2 hm)
   clear h0 hm hc1 hc2 hsz
   go_enter Tryd.func55, Tryd.ntmps55
   go_wp2_with fail
   refine (splitN_any s w hs).mono ?_
   rintro e v ⟨⟨B, j, d, rfl, hv, hfr⟩, hb1⟩
   go_wp2_with fail
   refine (may_yes hv HM.out).mono ?_
   rintro e v2 ⟨rfl, hb2⟩
   have hv2 := hv.belowS hb2
   rw [HC.out] at hv2
   have HB := hb1.trans (hb2.mono hb1.size)
   clear hv
   go_wp2_with fail
   go_ret2
   rw [HP.out]
   exact ⟨⟨B, j, d, rfl, hv2, hfr⟩, HB⟩
  ·have HP := Lib.hid (pathP_no h0 hm)
   have HM := Lib.hid (fun h => hm (hc1.1 h))
   clear h0 hm hc1 hc2 hsz
   go_enter Tryd.func55, Tryd.ntmps55
   go_wp2_with fail
   refine (splitN_any s w hs).mono ?_
   rintro e v ⟨⟨B, j, d, rfl, hv, hfr⟩, hb1⟩
   go_wp2_with fail
   refine (may_no hv HM.out).mono ?_
   rintro e v2 ⟨rfl, hb2⟩
   have HB := hb1.trans (hb2.mono hb1.size)
   clear hv
   go_wp2_with fail
   go_ret2
   rw [HP.out]
   exact ⟨rfl, HB⟩
theorem path_any (x : Txt) (w : World) (hs : x.length < 4294967281) : Calls Tryd.prog 55 #[.string ⟨x.toArray⟩] w fun e w' => TellP w (pathP x) e w' := by
 have := pathS_any ⟨x.toArray⟩ w (by simpa [ByteArray.size] using hs)
 simpa using this

/-! ### Text -/
theorem joinT_join : ∀ {L : List Txt}, L ≠ [] → Lib.join L [47] = joinT L := by
 intro L
 induction L with
 | nil => intro h; exact absurd rfl h
 | cons a p ih =>
  intro _
  by_cases hp : p = []
  ·subst hp
   simp [Lib.join, joinT, List.intercalate]
  ·rw [joinT_cons a hp, ← ih hp]
   cases p with
   | nil => exact absurd rfl hp
   | cons b q => simp [Lib.join, List.intercalate]
theorem joinT_length : ∀ {L : List Txt}, (∀ s ∈ L, s.length ≤ 12) → (joinT L).length ≤ 13 * L.length := by
 intro L
 induction L with
 | nil => intro _; simp [joinT]
 | cons a p ih =>
  intro h
  have h1 := h a (by simp)
  have h2 := ih fun s hs => h s (List.mem_cons_of_mem _ hs)
  by_cases hp : p = []
  ·subst hp
   simp [joinT]; omega
  ·rw [joinT_cons a hp]
   simp; omega
theorem mayP_join {L : List Txt} (h : mayP L) : (joinT L).length ≤ 39 := by
 have h1 := joinT_length (L := L) fun s hs => (h.2 s hs).2.1
 have h2 := h.1
 omega
theorem join_any {A : Option Addr} {n c : Nat} {L : List Txt} {w : World} (h : HasT w w.heap.size A n c L) (hn : L ≠ []) (hm : mayP L) :
  Calls Tryd.prog 62 #[.slice A n c, .string ⟨#[47]⟩] w fun e w' => e = .returned (.string ⟨(joinT L).toArray⟩) ∧ Below w.heap.size w w' := by
 have hl := h.len
 have hpos : 0 < L.length := List.length_pos_iff.2 hn
 obtain ⟨b, o, rfl, hb, hc⟩ := h.has (by simpa using hpos)
 have e1 : (L.map fun x => (⟨x.toArray⟩ : ByteArray)).map (·.data.toList) = L := by rw [List.map_map]; exact (List.map_congr_left fun u _ => rfl).trans (List.map_id L)
 have hj : Lib.join ((L.map fun x => (⟨x.toArray⟩ : ByteArray)).map (·.data.toList)) (⟨#[47]⟩ : ByteArray).data.toList = joinT L := by rw [e1]; exact joinT_join hn
 have h39 := mayP_join hm
 have hcap := h.cap
 have hcm := h.fit
 unfold maxLen at hcm
 have := Tryd.strings_Join b o c (L.map fun x => (⟨x.toArray⟩ : ByteArray)) ⟨#[47]⟩ w (fun j x hx => hc j (.string x) (by
  rw [List.getElem?_map] at hx ⊢
  rcases hlj : L[j]? with _ | y
  ·rw [hlj] at hx; cases hx
  ·rw [hlj] at hx
   simp only [Option.map_some, Option.some.injEq] at hx ⊢
   rw [← hx]; rfl)) hb (by have := hm.1; simp; omega) (by simp; omega) (by rw [hj]; omega)
 rw [hj] at this
 simpa [hl] using this
theorem textP_ne {L : List Txt} (h : L ≠ []) : textP L = joinT L := by unfold textP; rw [if_neg h]

set_option maxRecDepth 100000 in
set_option maxHeartbeats 1000000 in
theorem text_yes {A : Option Addr} {n c : Nat} {L : List Txt} {w : World} (h : HasT w w.heap.size A n c L) (hm : mayP L) :
  Calls Tryd.prog 47 #[.slice A n c] w fun e w' => e = .returned (.tuple #[.string ⟨(textP L).toArray⟩, .int .i64 0]) ∧ Below w.heap.size w w' := by
 have hl := h.len
 by_cases hn : L = []
 ·subst hn
  obtain rfl : n = 0 := by simpa using hl.symm
  clear hl
  have HM := Lib.hid hm
  clear hm
  go_enter Tryd.func47, Tryd.ntmps47
  go_wp2_with fail
  refine (may_yes h HM.out).mono ?_
  rintro e v ⟨rfl, hb1⟩
  go_wp2_with fail
  go_ret2
  exact ⟨rfl, hb1⟩
 ·have hpos : 0 < n := by have := List.length_pos_iff.2 hn; omega
  have hn0 : ((n : Int) == 0) = false := by rw [beq_eq_false_iff_ne]; omega
  have HN := Lib.hid (textP_ne hn)
  have HJ := Lib.hid (fun (v : World) (hv : HasT v v.heap.size A n c L) => join_any hv hn hm)
  have HM := Lib.hid hm
  clear hl hm hn
  go_enter Tryd.func47, Tryd.ntmps47
  go_wp2_with fail
  refine (may_yes h HM.out).mono ?_
  rintro e v ⟨rfl, hb1⟩
  have hv := h.belowS hb1
  clear h
  go_wp2_with fail
  refine (HJ.out v hv).mono ?_
  rintro e v2 ⟨rfl, hb2⟩
  have HB := hb1.trans (hb2.mono hb1.size)
  go_wp2_with fail
  go_ret2
  exact ⟨by rw [HN.out]; rfl, HB⟩
end Go.Proofs.YtmcccpbpijnbmaaDoor
namespace Go.Proofs.YtmcccpbpijnbmaaDoor
set_option maxRecDepth 100000
open Go.RowKit

theorem refMay_yes {A : Option Addr} {n c B : Nat} {L : List Txt} {w : World} (h : HasT w B A n c L) (hm : mayP L) :
  Calls Tryd.prog 39 #[.slice A n c] w fun e w' => e = .returned (.bool true) ∧ w = w' := by
 have := refMay_any h
 rwa [decide_eq_true hm] at this
theorem refMay_no {A : Option Addr} {n c B : Nat} {L : List Txt} {w : World} (h : HasT w B A n c L) (hm : ¬ mayP L) :
  Calls Tryd.prog 39 #[.slice A n c] w fun e w' => e = .returned (.bool false) ∧ w = w' := by
 have := refMay_any h
 rwa [decide_eq_false hm] at this

/-! ### Text -/
/-! ### Path -/
def InvR (l : Txt) (k f : Nat) (P : List Txt) : Prop := if k ≤ l.length then (47 : UInt8) ∉ (l.drop f).take (k - f) ∧ splitT l = P ++ splitT (l.drop f) else splitT l = P
theorem InvR.start (l : Txt) : InvR l 0 0 [] := by
 unfold InvR
 rw [if_pos (Nat.zero_le _)]
 simp
theorem drop_at {l : Txt} {k : Nat} {b : UInt8} (hk : k < l.length) (hb : l[k]'hk = b) : l.drop k = b :: l.drop (k + 1) := by
 rw [List.drop_eq_getElem_cons hk, hb]
theorem cut_at {l : Txt} {k f : Nat} {b : UInt8} (hk : k < l.length) (hf : f ≤ k) (hb : l[k]'hk = b) : l.drop f = (l.drop f).take (k - f) ++ b :: l.drop (k + 1) := by
 have h := List.take_append_drop (k - f) (l.drop f)
 rw [List.drop_drop, show f + (k - f) = k by omega, drop_at hk hb] at h
 exact h.symm
theorem take_more {l : Txt} {k f : Nat} {b : UInt8} (hk : k < l.length) (hf : f ≤ k) (hb : l[k]'hk = b) : (l.drop f).take (k + 1 - f) = (l.drop f).take (k - f) ++ [b] := by
 rw [show k + 1 - f = k - f + 1 by omega, List.take_succ_eq_append_getElem (by rw [List.length_drop]; omega)]
 congr 2
 rw [List.getElem_drop]
 simp only [show f + (k - f) = k by omega]
 exact hb
theorem InvR.go {l : Txt} {k f : Nat} {P : List Txt} (h : InvR l k f P) (hk : k < l.length) (hf : f ≤ k) {b : UInt8} (hb : l[k]'hk = b) (hne : ¬ b = 47) : InvR l (k + 1) f P := by
 unfold InvR at h ⊢
 rw [if_pos (by omega)] at h ⊢
 refine ⟨?_, h.2⟩
 rw [take_more hk hf hb]
 intro hm
 rcases List.mem_append.1 hm with hm | hm
 ·exact h.1 hm
 ·exact hne (List.mem_singleton.1 hm).symm
theorem InvR.cut {l : Txt} {k f : Nat} {P : List Txt} (h : InvR l k f P) (hk : k < l.length) (hf : f ≤ k) (hb : l[k]'hk = 47) : InvR l (k + 1) (k + 1) (P ++ [(l.drop f).take (k - f)]) := by
 unfold InvR at h ⊢
 rw [if_pos (by omega)] at h ⊢
 refine ⟨by simp, ?_⟩
 have h2 := h.2
 rw [cut_at hk hf hb, splitT_app h.1] at h2
 simpa using h2
theorem InvR.last {l : Txt} {f : Nat} {P : List Txt} (h : InvR l l.length f P) : InvR l (l.length + 1) (l.length + 1) (P ++ [(l.drop f).take (l.length - f)]) := by
 unfold InvR at h ⊢
 rw [if_pos (Nat.le_refl _)] at h
 rw [if_neg (by omega)]
 have e : (l.drop f).take (l.length - f) = l.drop f := List.take_of_length_le (by simp)
 rw [e] at h ⊢
 rw [h.2, splitT_name h.1]
theorem InvR.many {l : Txt} {k f : Nat} {P : List Txt} (h : InvR l k f P) (hk : k ≤ l.length) (h3 : 3 < P.length) : ¬ mayP (splitT l) := by
 unfold InvR at h
 rw [if_pos hk] at h
 intro hm
 have := hm.1
 rw [h.2] at this
 simp at this
 omega
theorem InvR.done {l : Txt} {k f : Nat} {P : List Txt} (h : InvR l k f P) (hk : ¬ k ≤ l.length) : P = splitT l := by
 unfold InvR at h
 rw [if_neg hk] at h
 exact h.symm
theorem extract_txt (s : ByteArray) (f k : Nat) : s.extract f k = ⟨((s.data.toList.drop f).take (k - f)).toArray⟩ := by
 have h : (s.extract f k).data.toList = (s.data.toList.drop f).take (k - f) := Lib.extract_data s f k
 rw [← h]

set_option maxRecDepth 100000 in
set_option maxHeartbeats 2000000 in
theorem refPathS_any (s : ByteArray) (w : World) (hs : s.size ≤ 1000000) : Calls Tryd.prog 23 #[.string s] w fun e w' => TellP w (pathP s.data.toList) e w' := by
 by_cases h0 : s.data.toList = [42]
 ·have HP := Lib.hid (pathP_star h0)
  have h1 : (s.toList == [42]) = true := by rw [ByteArray.toList_eq, h0]; rfl
  clear h0
  go_enter Tryd.func23, Tryd.ntmps23
  go_wp2
  go_ret2
  rw [HP.out]
  exact ⟨⟨none, 0, 0, rfl, HasT.none_ _ _, fun _ h => by cases h⟩, Below.refl _ _⟩
 ·have h1 : (s.toList == [42]) = false := by rw [ByteArray.toList_eq, beq_eq_false_iff_ne]; exact h0
  have HSZ : Hid (s.data.toList.length = s.size) := Lib.hid (by simp)
  have H0 := Lib.hid h0
  clear h0
  go_enter Tryd.func23, Tryd.ntmps23
  go_wp2
  clear h1
  go_loopw [4, 5, 6] (fun v f i wr => ∃ (k f' : Nat) (P : List Txt), k ≤ s.size + 1 ∧ f' ≤ k ∧ P.length ≤ 4 ∧ i = .int .i64 k ∧ f = .int .i64 f' ∧ OwnT wr w.heap.size v P ∧ Below w.heap.size w wr ∧ Hid (InvR s.data.toList k f' P)) (fun _ _ i _ => s.size + 1 - (intOf i).toNat)
  case atStart => exact ⟨0, 0, [], Nat.zero_le _, Nat.zero_le _, Nat.zero_le _, rfl, rfl, OwnT.nil_ w _, Below.refl _ _, Lib.hid (InvR.start _)⟩
  case round =>
   obtain ⟨k, f, P, hk, hf, hP4, rfl, rfl, hO, hB, hI⟩ := hrel
   have hz := hB.size
   by_cases hlt : k ≤ s.size
   · -- whether here a name ends, and the rest of the round where it does
    have fin : (k = s.size ∨ ∃ h : k < s.size, s[k]'h = 47) → InvR s.data.toList (k + 1) (k + 1) (P ++ [(s.data.toList.drop f).take (k - f)]) := by
     rintro (rfl | ⟨h, hb⟩)
     ·have := hI.out
      have e := HSZ.out
      rw [← e] at this ⊢
      exact this.last
     ·exact hI.out.cut (by have := HSZ.out; omega) hf (by rw [getElem_data s h]; exact hb)
    by_cases hend : k = s.size ∨ ∃ h : k < s.size, s[k]'h = 47
    ·have HF := Lib.hid (fin hend)
     clear fin
     by_cases h4 : 3 < P.length
     ·have HM := Lib.hid (pathP_no H0.out (hI.out.many (by have := HSZ.out; omega) h4))
      obtain ⟨A, c, rfl, hv, _⟩ := hO.form
      rcases hend with hend | ⟨h, hb⟩
      ·have g1 : ((k : Int) == (s.size : Int)) = true := by rw [beq_iff_eq]; omega
       clear hend
       go_wp2
       go_ret2
       rw [HM.out]
       exact ⟨rfl, hB⟩
      ·have g1 : ((k : Int) == (s.size : Int)) = false := by rw [beq_eq_false_iff_ne]; omega
       have g2 : (((s[k]'h).toNat : Int) == 47) = true := by rw [hb]; rfl
       clear hb
       go_wp2
       go_ret2
       rw [HM.out]
       exact ⟨rfl, hB⟩
     ·obtain ⟨A, c, rfl, hv, _⟩ := hO.form
      have hlo := fun g e => (hO.lt g e).1
      have HX := Lib.hid (extract_txt s f k)
      have hlb : P.length ≤ 1000000 := by omega
      have hO1 := hO.alloc (.cells #[.string (s.extract f k)] 9)
      have hB1 := hB.alloc hz (.cells #[.string (s.extract f k)] 9)
      have HY : Hid ((wr.alloc (.cells #[.string (s.extract f k)] 9)).cell? ⟨wr.heap.size, 0, none⟩ = some (strV ((s.data.toList.drop f).take (k - f)))) := Lib.hid (by rw [cell_litT _ _ _ _ rfl, HX.out]; rfl)
      clear hv
      rcases hend with hend | ⟨h, hb⟩
      ·have g1 : ((k : Int) == (s.size : Int)) = true := by rw [beq_iff_eq]; omega
       have g3 : k ≤ s.size := by omega
       clear hend
       go_wp2_with (at_builtin; refine wpList_appT rfl _ _ rfl w.heap.size _ P rfl hO1 _ rfl _ HY.out hlb (by rw [World.size_alloc]; omega) ?_)
       intro v' w2 hO2 hG2
       have hB2 := Lib.hid (hB1.trans (hG2.below_ (by rw [World.size_alloc]; omega) hlo))
       have hO3 := Lib.hid hO2
       clear hO hO1 hO2 hG2 hlo hB hB1 HY
       go_wp2_with fail
       go_roundw
       case rel => exact ⟨k + 1, k + 1, _, by omega, by omega, by simp; omega, by go_num, by go_num, hO3.out, hB2.out, HF⟩
       case measure => simp [intOf]; omega
      ·have g1 : ((k : Int) == (s.size : Int)) = false := by rw [beq_eq_false_iff_ne]; omega
       have g2 : (((s[k]'h).toNat : Int) == 47) = true := by rw [hb]; rfl
       clear hb
       go_wp2_with (at_builtin; refine wpList_appT rfl _ _ rfl w.heap.size _ P rfl hO1 _ rfl _ HY.out hlb (by rw [World.size_alloc]; omega) ?_)
       intro v' w2 hO2 hG2
       have hB2 := Lib.hid (hB1.trans (hG2.below_ (by rw [World.size_alloc]; omega) hlo))
       have hO3 := Lib.hid hO2
       clear hO hO1 hO2 hG2 hlo hB hB1 HY
       go_wp2_with fail
       go_roundw
       case rel => exact ⟨k + 1, k + 1, _, by omega, by omega, by simp; omega, by go_num, by go_num, hO3.out, hB2.out, HF⟩
       case measure => simp [intOf]; omega
    ·clear fin
     have hlt2 : k < s.size := by
      rcases Nat.lt_or_ge k s.size with h | h
      ·exact h
      ·exact absurd (.inl (by omega)) hend
     have hb : ¬ s[k]'hlt2 = 47 := fun e => hend (.inr ⟨hlt2, e⟩)
     have HF := Lib.hid (hI.out.go (by have := HSZ.out; omega) hf (getElem_data s hlt2) hb)
     have g1 : ((k : Int) == (s.size : Int)) = false := by rw [beq_eq_false_iff_ne]; omega
     have g2 : (((s[k]'hlt2).toNat : Int) == 47) = false := by
      rw [beq_eq_false_iff_ne]
      intro e
      exact hb (UInt8.toNat_inj.1 (by have : (47 : UInt8).toNat = 47 := rfl; omega))
     clear hb hend
     go_wp2
     go_roundw
     case rel => exact ⟨k + 1, f, P, by omega, by omega, hP4, by go_num, rfl, hO, hB, HF⟩
     case measure => simp [intOf]; omega
   ·have HD := Lib.hid (hI.out.done (by have := HSZ.out; omega))
    obtain ⟨A, n, c, rfl, hv, hfr⟩ := hO.formN
    rw [HD.out] at hv
    clear hO
    by_cases hm : mayP (splitT s.data.toList)
    ·have HP := Lib.hid (pathP_yes H0.out hm)
     have HM := Lib.hid hm
     clear hm
     go_wp2_with fail
     refine (refMay_yes hv HM.out).mono ?_
     rintro e v ⟨rfl, rfl⟩
     go_wp2_with fail
     go_ret2
     rw [HP.out]
     exact ⟨⟨A, n, c, rfl, hv, hfr⟩, hB⟩
    ·have HP := Lib.hid (pathP_no H0.out hm)
     have HM := Lib.hid hm
     clear hm
     go_wp2_with fail
     refine (refMay_no hv HM.out).mono ?_
     rintro e v ⟨rfl, rfl⟩
     go_wp2_with fail
     go_ret2
     rw [HP.out]
     exact ⟨rfl, hB⟩
theorem refPath_any (x : Txt) (w : World) (hs : x.length ≤ 1000000) : Calls Tryd.prog 23 #[.string ⟨x.toArray⟩] w fun e w' => TellP w (pathP x) e w' := by
 have := refPathS_any ⟨x.toArray⟩ w (by simpa [ByteArray.size] using hs)
 simpa using this
end Go.Proofs.YtmcccpbpijnbmaaDoor
