/- Layer 3, plainly: a frame's bytes, what bytes begin with, and what a scan of them tells. -/
import Derived.Test.YtpegmingmcedmaaCrc
import Derived.Test.YtpegmingmcedmaaCrcBits
namespace Go.Proofs.Ytpegmingmcedmaa
open Go.RowKit

/-- What stands ahead of a body. -/
def frHd (n k : Nat) : List UInt8 := [UInt8.ofNat n, UInt8.ofNat (n / 256), UInt8.ofNat (n / 65536), UInt8.ofNat (n / 16777216), UInt8.ofNat k]
/-- A frame's bytes. -/
def frOf (k : Nat) (body : List UInt8) : List UInt8 := (frHd body.length k ++ body) ++ le4 (more 0 (frHd body.length k ++ body))
/-- The length that the first four bytes say. -/
def frLen (l : List UInt8) : Nat := (l.getD 0 0).toNat + 256 * (l.getD 1 0).toNat + 65536 * (l.getD 2 0).toNat + 16777216 * (l.getD 3 0).toNat
abbrev Fr := Nat × List UInt8
/-- What bytes begin with: the frame, its bytes, the error. -/
def frGot (l : List UInt8) : Fr × Nat × Nat :=
  if l.length < 4 then ((0, []), 0, 3)
  else if 65536 < frLen l then ((0, []), 0, 2)
  else if l.length < frLen l + 9 then ((0, []), 0, 3)
  else if wholeB (l.take (frLen l + 9)) = true then (((l.getD 4 0).toNat, (l.drop 5).take (frLen l)), frLen l + 9, 0)
  else ((0, []), 0, 4)

theorem frHd_length (n k : Nat) : (frHd n k).length = 5 := rfl
theorem le4_len (s : Nat) : (le4 s).length = 4 := rfl
theorem frOf_length (k : Nat) (body : List UInt8) : (frOf k body).length = body.length + 9 := by
  simp only [frOf, List.length_append, frHd_length, le4_len]; omega

section
variable {l : List UInt8}
theorem frGot_short (h : l.length < 4) : frGot l = ((0, []), 0, 3) := if_pos h
theorem frGot_far (h : ¬ l.length < 4) (h1 : 65536 < frLen l) : frGot l = ((0, []), 0, 2) := by unfold frGot; rw [if_neg h, if_pos h1]
theorem frGot_cut (h : ¬ l.length < 4) (h1 : ¬ 65536 < frLen l) (h2 : l.length < frLen l + 9) : frGot l = ((0, []), 0, 3) := by unfold frGot; rw [if_neg h, if_neg h1, if_pos h2]
theorem frGot_bad (h : ¬ l.length < 4) (h1 : ¬ 65536 < frLen l) (h2 : ¬ l.length < frLen l + 9) (h3 : wholeB (l.take (frLen l + 9)) = false) : frGot l = ((0, []), 0, 4) := by
  unfold frGot; rw [if_neg h, if_neg h1, if_neg h2, if_neg (by rw [h3]; decide)]
theorem frGot_ok (h : ¬ l.length < 4) (h1 : ¬ 65536 < frLen l) (h2 : ¬ l.length < frLen l + 9) (h3 : wholeB (l.take (frLen l + 9)) = true) : frGot l = (((l.getD 4 0).toNat, (l.drop 5).take (frLen l)), frLen l + 9, 0) := by
  unfold frGot; rw [if_neg h, if_neg h1, if_neg h2, if_pos h3]
theorem frGot_used (h : (frGot l).2.2 = 0) : 9 ≤ (frGot l).2.1 ∧ (frGot l).2.1 ≤ l.length := by
  by_cases h0 : l.length < 4
  · rw [frGot_short h0] at h; cases h
  · by_cases h1 : 65536 < frLen l
    · rw [frGot_far h0 h1] at h; cases h
    · by_cases h2 : l.length < frLen l + 9
      · rw [frGot_cut h0 h1 h2] at h; cases h
      · by_cases h3 : wholeB (l.take (frLen l + 9)) = true
        · rw [frGot_ok h0 h1 h2 h3]; exact ⟨Nat.le_add_left _ _, by show frLen l + 9 ≤ _; omega⟩
        · rw [frGot_bad h0 h1 h2 (by simpa using h3)] at h; cases h
end

theorem toNat_ofNat (k : Nat) : (UInt8.ofNat k).toNat = k % 256 := UInt8.toNat_ofNat'
theorem frLen_hd (n k : Nat) (hn : n < 4294967296) (t : List UInt8) : frLen (frHd n k ++ t) = n := by
  show (UInt8.ofNat n).toNat + 256 * (UInt8.ofNat (n / 256)).toNat + 65536 * (UInt8.ofNat (n / 65536)).toNat + 16777216 * (UInt8.ofNat (n / 16777216)).toNat = n
  simp only [toNat_ofNat]
  omega
/-- What is put is got again, whatever stands behind. -/
theorem frGot_of (k : Nat) (body t : List UInt8) (hk : k < 256) (hb : body.length ≤ 65536) : frGot (frOf k body ++ t) = ((k, body), body.length + 9, 0) := by
  have e : frOf k body ++ t = frHd body.length k ++ (body ++ le4 (more 0 (frHd body.length k ++ body)) ++ t) := by simp only [frOf, List.append_assoc]
  have hl : (frOf k body ++ t).length = body.length + 9 + t.length := by rw [List.length_append, frOf_length]
  have h4 : frLen (frOf k body ++ t) = body.length := by rw [e]; exact frLen_hd _ _ (by omega) _
  have ht : (frOf k body ++ t).take (body.length + 9) = frOf k body := by
    rw [← frOf_length k body, List.take_left]
  rw [frGot_ok (by omega) (by omega) (by omega) (by rw [h4, ht]; exact whole_with _), h4]
  have hb5 : ((frOf k body ++ t).drop 5).take body.length = body := by
    rw [e]
    have : (frHd body.length k ++ (body ++ le4 (more 0 (frHd body.length k ++ body)) ++ t)).drop 5 = body ++ le4 (more 0 (frHd body.length k ++ body)) ++ t := List.drop_left' rfl
    rw [this, List.append_assoc, List.take_left]
  have hk4 : ((frOf k body ++ t).getD 4 0).toNat = k := by
    rw [e]
    show (UInt8.ofNat k).toNat = k
    rw [toNat_ofNat]; omega
  rw [hb5, hk4]

/-! ### The scan -/
def frScan (l : List UInt8) : List Fr × Nat × Nat :=
  if l = [] then ([], 0, 0)
  else if _h : (frGot l).2.2 = 0 then
    ((frGot l).1 :: (frScan (l.drop (frGot l).2.1)).1, (frGot l).2.1 + (frScan (l.drop (frGot l).2.1)).2.1, (frScan (l.drop (frGot l).2.1)).2.2)
  else ([], 0, (frGot l).2.2)
termination_by l.length
decreasing_by all_goals (have := frGot_used _h; rw [List.length_drop]; omega)

theorem frScan_nil : frScan [] = ([], 0, 0) := by rw [frScan, if_pos rfl]
theorem frScan_err {l : List UInt8} (h0 : l ≠ []) (h : (frGot l).2.2 ≠ 0) : frScan l = ([], 0, (frGot l).2.2) := by rw [frScan, if_neg h0, dif_neg h]
theorem frScan_step {l : List UInt8} (h0 : l ≠ []) (h : (frGot l).2.2 = 0) :
    frScan l = ((frGot l).1 :: (frScan (l.drop (frGot l).2.1)).1, (frGot l).2.1 + (frScan (l.drop (frGot l).2.1)).2.1, (frScan (l.drop (frGot l).2.1)).2.2) := by
  rw [frScan, if_neg h0, dif_pos h]

/-- The scan of l, at a place p with what was told ahead of it. -/
def ScanAt (l : List UInt8) (p : Nat) (acc : List Fr) : Prop :=
  frScan l = (acc ++ (frScan (l.drop p)).1, p + (frScan (l.drop p)).2.1, (frScan (l.drop p)).2.2)
theorem ScanAt.zero (l : List UInt8) : ScanAt l 0 [] := by simp [ScanAt]
theorem ScanAt.step {l : List UInt8} {p : Nat} {acc : List Fr} (h : ScanAt l p acc) (hp : p < l.length) (h0 : (frGot (l.drop p)).2.2 = 0) : ScanAt l (p + (frGot (l.drop p)).2.1) (acc ++ [(frGot (l.drop p)).1]) := by
  have hne : l.drop p ≠ [] := fun e => by have := congrArg List.length e; rw [List.length_drop] at this; simp at this; omega
  have hs := frScan_step hne h0
  rw [List.drop_drop] at hs
  unfold ScanAt at h ⊢
  rw [h, hs]
  simp only [List.append_assoc, List.cons_append, List.nil_append, Nat.add_assoc]
theorem ScanAt.err {l : List UInt8} {p : Nat} {acc : List Fr} (h : ScanAt l p acc) (hp : p < l.length) (h0 : (frGot (l.drop p)).2.2 ≠ 0) : frScan l = (acc, p, (frGot (l.drop p)).2.2) := by
  have hne : l.drop p ≠ [] := fun e => by have := congrArg List.length e; rw [List.length_drop] at this; simp at this; omega
  unfold ScanAt at h
  rw [h, frScan_err hne h0]
  simp
theorem ScanAt.done {l : List UInt8} {acc : List Fr} (h : ScanAt l l.length acc) : frScan l = (acc, l.length, 0) := by
  unfold ScanAt at h
  rw [h, List.drop_length, frScan_nil]
  simp

/-! ### Frames side by side -/
def frCat (fs : List Fr) : List UInt8 := fs.flatMap fun f => frOf f.1 f.2
def FrMay (f : Fr) : Prop := f.1 < 256 ∧ f.2.length ≤ 65536
theorem frCat_snoc (fs : List Fr) (f : Fr) : frCat (fs ++ [f]) = frCat fs ++ frOf f.1 f.2 := by simp [frCat]
theorem frCat_append (fs gs : List Fr) : frCat (fs ++ gs) = frCat fs ++ frCat gs := by simp [frCat]
theorem frScan_cat (t : List UInt8) : ∀ (fs : List Fr), (∀ f ∈ fs, FrMay f) → frScan (frCat fs ++ t) = (fs ++ (frScan t).1, (frCat fs).length + (frScan t).2.1, (frScan t).2.2)
  | [], _ => by simp [frCat]
  | f :: fs, h => by
    have e : frCat (f :: fs) ++ t = frOf f.1 f.2 ++ (frCat fs ++ t) := by simp [frCat]
    have hg := frGot_of f.1 f.2 (frCat fs ++ t) (h f (by simp)).1 (h f (by simp)).2
    have hne : frOf f.1 f.2 ++ (frCat fs ++ t) ≠ [] := fun e => by have := congrArg List.length e; rw [List.length_append, frOf_length] at this; simp at this
    have hd : (frOf f.1 f.2 ++ (frCat fs ++ t)).drop (f.2.length + 9) = frCat fs ++ t := by
      rw [← frOf_length f.1 f.2, List.drop_left]
    have hl : (frCat (f :: fs)).length = f.2.length + 9 + (frCat fs).length := by
      show (frOf f.1 f.2 ++ frCat fs).length = _
      rw [List.length_append, frOf_length]
    rw [e, frScan_step hne (by rw [hg]), hg]
    simp only
    rw [hd, frScan_cat t fs (fun g hg => h g (by simp [hg])), hl]
    simp only [List.cons_append, Nat.add_assoc]
theorem frScan_all (fs : List Fr) (h : ∀ f ∈ fs, FrMay f) : frScan (frCat fs) = (fs, (frCat fs).length, 0) := by
  have := frScan_cat [] fs h
  rw [frScan_nil] at this
  simpa using this

/-- A part of a frame is too short. -/
theorem frScan_part (f : Fr) (h : FrMay f) (m : Nat) (hm : m < f.2.length + 9) (t : List UInt8) : frScan ((frOf f.1 f.2 ++ t).take m) = ([], 0, if m = 0 then 0 else 3) := by
  have ht : (frOf f.1 f.2 ++ t).take m = (frOf f.1 f.2).take m := List.take_append_of_le_length (by rw [frOf_length]; omega)
  rw [ht]
  by_cases h0 : m = 0
  · subst h0; rw [List.take_zero, frScan_nil, if_pos rfl]
  · have hl : ((frOf f.1 f.2).take m).length = m := by rw [List.length_take, frOf_length]; omega
    have hne : (frOf f.1 f.2).take m ≠ [] := fun e => by have := congrArg List.length e; rw [hl] at this; simp at this; omega
    have hg : frGot ((frOf f.1 f.2).take m) = ((0, []), 0, 3) := by
      by_cases h4 : m < 4
      · exact frGot_short (by omega)
      · have hq : frLen ((frOf f.1 f.2).take m) = f.2.length := by
          have e : (frOf f.1 f.2) = frHd f.2.length f.1 ++ (f.2 ++ le4 (more 0 (frHd f.2.length f.1 ++ f.2))) := by simp only [frOf, List.append_assoc]
          have h1 := frLen_hd f.2.length f.1 (by have := h.2; omega) (f.2 ++ le4 (more 0 (frHd f.2.length f.1 ++ f.2)))
          rw [← e] at h1
          rw [← h1]
          simp only [frLen, List.getD_eq_getElem?_getD, List.getElem?_take]
          rw [if_pos (by omega), if_pos (by omega), if_pos (by omega), if_pos (by omega)]
        exact frGot_cut (by omega) (by rw [hq]; have := h.2; omega) (by rw [hq]; omega)
    rw [frScan_err hne (by rw [hg]; decide), hg, if_neg h0]

theorem frScan_torn (fs : List Fr) (h : ∀ f ∈ fs, FrMay f) (cut k : Nat) (hk : k ≤ fs.length) (h1 : (frCat (fs.take k)).length ≤ cut) (hc : cut ≤ (frCat fs).length)
    (h2 : k < fs.length → cut < (frCat (fs.take (k + 1))).length) :
    frScan ((frCat fs).take cut) = (fs.take k, (frCat (fs.take k)).length, if (frCat (fs.take k)).length = cut then 0 else 3) := by
  have hm : ∀ f ∈ fs.take k, FrMay f := fun f hf => h f (List.mem_of_mem_take hf)
  have e : frCat fs = frCat (fs.take k) ++ frCat (fs.drop k) := by rw [← frCat_append, List.take_append_drop]
  have e1 : (frCat fs).take cut = frCat (fs.take k) ++ (frCat (fs.drop k)).take (cut - (frCat (fs.take k)).length) := by
    rw [e, List.take_append, List.take_of_length_le h1]
  rw [e1, frScan_cat _ _ hm]
  by_cases hlt : k < fs.length
  · have hd : fs.drop k = fs[k] :: fs.drop (k + 1) := List.drop_eq_getElem_cons hlt
    have hlen := h2 hlt
    rw [List.take_succ_eq_append_getElem hlt, frCat_snoc, List.length_append, frOf_length] at hlen
    have hp := frScan_part fs[k] (h _ (List.getElem_mem hlt)) (cut - (frCat (fs.take k)).length) (by omega) (frCat (fs.drop (k + 1)))
    have e2 : frCat (fs.drop k) = frOf fs[k].1 fs[k].2 ++ frCat (fs.drop (k + 1)) := by rw [hd]; rfl
    rw [e2, hp]
    simp only [List.append_nil, Nat.add_zero]
    by_cases he : (frCat (fs.take k)).length = cut
    · rw [if_pos (by omega), if_pos he]
    · rw [if_neg (by omega), if_neg he]
  · have hke : k = fs.length := by omega
    subst hke
    rw [List.take_length] at h1 ⊢
    have : cut = (frCat fs).length := by omega
    subst this
    simp [frCat, frScan_nil]

/-! ### Turned bits -/
theorem turnT_low (l : List UInt8) (f t i : Nat) (hi : i < f / 8) : ∀ k, (turnT l f t k).getD i 0 = l.getD i 0
  | 0 => rfl
  | k + 1 => by
    have ih := turnT_low l f t i hi k
    show (if hit l.length f t k then flip (turnT l f t k) (f + k) else turnT l f t k).getD i 0 = _
    split
    · unfold flip
      rw [List.getD_eq_getElem?_getD, List.getElem?_set_ne (by have := Nat.div_le_div_right (c := 8) (Nat.le_add_right f k); omega), ← List.getD_eq_getElem?_getD]
      exact ih
    · exact ih
/-- Bits that are turned behind a frame's length are told. -/
theorem frGot_turned (k : Nat) (body : List UInt8) (hk : k < 256) (hb : body.length ≤ 65536) (f t : Nat) (hf : 32 ≤ f) (hf2 : f < 8 * (body.length + 9)) :
    frGot (turnT (frOf k body) f t 32) = if someT (body.length + 9) f t 32 = true then ((0, []), 0, 4) else ((k, body), body.length + 9, 0) := by
  have hl := frOf_length k body
  have hlt : (turnT (frOf k body) f t 32).length = body.length + 9 := by rw [turnT_length, hl]
  have hq : frLen (turnT (frOf k body) f t 32) = body.length := by
    have h1 := frLen_hd body.length k (by omega) (body ++ le4 (more 0 (frHd body.length k ++ body)))
    have e : frOf k body = frHd body.length k ++ (body ++ le4 (more 0 (frHd body.length k ++ body))) := by simp only [frOf, List.append_assoc]
    rw [← e] at h1
    have h32 : 4 ≤ f / 8 := by omega
    unfold frLen at h1 ⊢
    rw [turnT_low _ f t 0 (by omega), turnT_low _ f t 1 (by omega), turnT_low _ f t 2 (by omega), turnT_low _ f t 3 (by omega)]
    exact h1
  have hw := turn_whole (frOf k body) f t (whole_with _) (by rw [hl]; exact hf2)
  rw [hl] at hw
  split
  · rename_i hs
    rw [hs] at hw
    exact frGot_bad (by omega) (by omega) (by omega) (by rw [hq, ← hlt, List.take_length]; exact hw)
  · rename_i hs
    have hs' : someT (frOf k body).length f t 32 = false := by rw [hl]; simpa using hs
    rw [turn_none _ _ _ _ hs']
    have := frGot_of k body [] hk hb
    rwa [List.append_nil] at this
end Go.Proofs.Ytpegmingmcedmaa
