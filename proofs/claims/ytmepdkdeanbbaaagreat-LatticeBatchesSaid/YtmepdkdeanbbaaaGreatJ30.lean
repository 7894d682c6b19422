/- CubB -/
import Derived.Test.YtmepdkdeanbbaaaGreatJ2
import Derived.Test.YtmepdkdeanbbaaaGreatJ20
import Derived.Test.YtmepdkdeanbbaaaGreatJ21
import Derived.BigQuiet
import Derived.Deep.QuietTactic
namespace Go.Proofs.YtmepdkdeanbbaaaGreat
set_option maxRecDepth 100000
open Go.RowKit

/-! ### codes -/
def badC (n : Int) : Bool := decide (n < 0 ∨ 40 < n)
theorem noCode_any (n : Int) (w : World) : Calls Tryz.prog 181 #[.int .i64 n] w fun e w' => e = .returned (.bool (badC n)) ∧ w = w' := by
 by_cases h : n < 0
 ·have H := Lib.hid (show badC n = true by unfold badC; simp [h])
  go_enter Tryz.func181, Tryz.ntmps181
  go_wp2
  go_ret
  exact ⟨bool_of H.out.symm, rfl⟩
 ·by_cases h2 : 40 < n
  ·have H := Lib.hid (show badC n = true by unfold badC; simp [h2])
   go_enter Tryz.func181, Tryz.ntmps181
   go_wp2
   go_ret
   exact ⟨bool_of H.out.symm, rfl⟩
  ·have H := Lib.hid (show badC n = false by unfold badC; simp; omega)
   go_enter Tryz.func181, Tryz.ntmps181
   go_wp2
   go_ret
   exact ⟨bool_of H.out.symm, rfl⟩
def IdxC (L : List Int) (n : Nat) (r : Int) : Prop := (0 ≤ r ∧ ∃ k : Nat, k < n ∧ badC (L.getD k 0) = true) ∨ (r = -1 ∧ ∀ k, k < n → badC (L.getD k 0) = false)
set_option maxHeartbeats 1000000 in
theorem indexC_any {A : Option Addr} {n c B : Nat} {L : List Int} {w : World} (h : HasI w B A n c L) :
  Calls Tryz.prog 231 #[.slice A n c, .func (.func 181) #[] #[]] w fun e w' => (∃ r : Int, e = .returned (.int .i64 r) ∧ IdxC L n r) ∧ w = w' := by
 have hn := h.lenMax
 go_enter Tryz.func231, Tryz.ntmps231
 go_wp2
 go_loop [8] (fun i => ∃ k : Nat, k ≤ n ∧ i = .int .i64 k ∧ Hid (∀ j, j < k → badC (L.getD j 0) = false)) (fun i => n - (intOf i).toNat)
 case atStart => exact ⟨0, Nat.zero_le _, rfl, Lib.hid fun j hj => absurd hj (by omega)⟩
 case round =>
  obtain ⟨k, hk, rfl, hJ⟩ := hrel
  by_cases hlt : k < n
  ·obtain ⟨b, o, x, rfl, hb, hc, ex⟩ := h.at_ hlt
   have i0 : (0 : Int) ≤ (k : Int) := by omega
   have i1 : (k : Int) < (n : Int) := by omega
   rcases hbx : badC x with _ | _
   ·have H : Hid (∀ j, j < k + 1 → badC (L.getD j 0) = false) := Lib.hid fun j hj => by
     by_cases h : j < k
     ·exact hJ.out j h
     ·obtain rfl : j = k := by omega
      rw [← ex.out]; exact hbx
    have HB := Lib.hid hbx
    clear hbx
    go_wp2_with fail
    refine (noCode_any x w).mono ?_
    rintro e v ⟨rfl, rfl⟩
    rw [HB.out]
    go_wp2_with fail
    go_round
    case rel => exact ⟨k + 1, by omega, by go_num, H⟩
    case measure => simp [intOf]; omega
   ·have H : Hid (badC (L.getD k 0) = true) := Lib.hid (by rw [← ex.out]; exact hbx)
    have HB := Lib.hid hbx
    clear hbx
    go_wp2_with fail
    refine (noCode_any x w).mono ?_
    rintro e v ⟨rfl, rfl⟩
    rw [HB.out]
    go_wp2_with fail
    go_ret
    exact ⟨⟨_, rfl, .inl ⟨i0, k, hlt, H.out⟩⟩, rfl⟩
  ·obtain rfl : k = n := by omega
   go_wp2_with fail
   go_ret
   exact ⟨⟨_, rfl, .inr ⟨rfl, hJ.out⟩⟩, rfl⟩
theorem any_bad {L : List Int} : L.any badC = true ↔ ∃ k, k < L.length ∧ badC (L.getD k 0) = true := by
 rw [List.any_eq_true]
 constructor
 ·rintro ⟨x, hx, hb⟩
  obtain ⟨k, hk, rfl⟩ := List.mem_iff_getElem.1 hx
  exact ⟨k, hk, by rw [List.getD_eq_getElem?_getD, List.getElem?_eq_getElem hk]; exact hb⟩
 ·rintro ⟨k, hk, hb⟩
  rw [List.getD_eq_getElem?_getD, List.getElem?_eq_getElem hk] at hb
  exact ⟨_, List.getElem_mem hk, hb⟩
theorem containsC_any {A : Option Addr} {n c B : Nat} {L : List Int} {w : World} (h : HasI w B A n c L) :
  Calls Tryz.prog 180 #[.slice A n c, .func (.func 181) #[] #[]] w fun e w' => e = .returned (.bool (L.any badC)) ∧ w = w' := by
 have hl := Lib.hid h.len
 have hi := indexC_any h
 clear h
 go_enter Tryz.func180, Tryz.ntmps180
 go_wp2_with fail
 refine hi.mono ?_
 rintro e w' ⟨⟨r, rfl, hr⟩, rfl⟩
 rcases hr with ⟨h0, k, hk, hb⟩ | ⟨rfl, hb⟩
 ·have H : Hid (L.any badC = true) := Lib.hid (any_bad.2 ⟨k, by rw [hl.out]; exact hk, hb⟩)
  clear hb hi
  go_wp2_with fail
  go_ret
  exact ⟨bool_of H.out.symm, rfl⟩
 ·have H : Hid (L.any badC = false) := Lib.hid (by
   rw [Bool.eq_false_iff]
   intro hx
   obtain ⟨k, hk, hb'⟩ := any_bad.1 hx
   rw [hb k (by rw [← hl.out]; exact hk)] at hb'
   cases hb')
  clear hb hi
  go_wp2_with fail
  go_ret
  exact ⟨bool_of H.out.symm, rfl⟩
theorem isKey_iff {W : Nat} {k : List Int} : isKey W k ↔ k.length = W ∧ k.any badC = false := by
 unfold isKey
 rw [Bool.eq_false_iff, Ne, List.any_eq_true]
 refine and_congr_right fun _ => ⟨fun h ⟨x, hx, hb⟩ => ?_, fun h c hc => ?_⟩
 ·have := h x hx
  simp [badC] at hb
  omega
 ·have : ¬ badC c = true := fun hb => h ⟨c, hc, hb⟩
  simp [badC] at this
  omega

/-! ### the order -/
def cmpI (a b : Int) : Int := if a < b then -1 else if b < a then 1 else 0
theorem isNaNI_any (a : Int) (w : World) : Calls Tryz.prog 267 #[.int .i64 a] w fun e w' => e = .returned (.bool false) ∧ w = w' := by
 go_enter Tryz.func267, Tryz.ntmps267
 go_wp2
 go_ret
 exact ⟨rfl, rfl⟩
set_option maxHeartbeats 1000000 in
theorem compareI_any (a b : Int) (w : World) : Calls Tryz.prog 249 #[.int .i64 a, .int .i64 b] w fun e w' => e = .returned (.int .i64 (cmpI a b)) ∧ w = w' := by
 have h1 := isNaNI_any a w
 have h2 := isNaNI_any b w
 by_cases hab : a < b
 ·have H := Lib.hid (show cmpI a b = -1 by unfold cmpI; rw [if_pos hab])
  go_enter Tryz.func249, Tryz.ntmps249
  go_wp2_with fail
  refine h1.mono ?_
  rintro e v ⟨rfl, rfl⟩
  go_wp2_with fail
  refine h2.mono ?_
  rintro e v ⟨rfl, rfl⟩
  go_wp2_with fail
  go_ret
  exact ⟨i64_of H.out.symm, rfl⟩
 ·by_cases hba : b < a
  ·have H := Lib.hid (show cmpI a b = 1 by unfold cmpI; rw [if_neg hab, if_pos hba])
   go_enter Tryz.func249, Tryz.ntmps249
   go_wp2_with fail
   refine h1.mono ?_
   rintro e v ⟨rfl, rfl⟩
   go_wp2_with fail
   refine h2.mono ?_
   rintro e v ⟨rfl, rfl⟩
   go_wp2_with fail
   go_ret
   exact ⟨i64_of H.out.symm, rfl⟩
  ·have H := Lib.hid (show cmpI a b = 0 by unfold cmpI; rw [if_neg hab, if_neg hba])
   go_enter Tryz.func249, Tryz.ntmps249
   go_wp2_with fail
   refine h1.mono ?_
   rintro e v ⟨rfl, rfl⟩
   go_wp2_with fail
   refine h2.mono ?_
   rintro e v ⟨rfl, rfl⟩
   go_wp2_with fail
   go_ret
   exact ⟨i64_of H.out.symm, rfl⟩
theorem cmp3_step {L L' : List Int} {k : Nat} {x y : Int} (h : cmpK L L' = cmpK (L.drop k) (L'.drop k)) (hk : k < L.length) (hk' : k < L'.length) (ex : x = L.getD k 0) (ey : y = L'.getD k 0) : cmpK L L' = if x < y then -1 else if y < x then 1 else cmpK (L.drop (k + 1)) (L'.drop (k + 1)) := by
 rw [h, List.drop_eq_getElem_cons hk, List.drop_eq_getElem_cons hk', cmpK_cons]
 rw [ex, ey, List.getD_eq_getElem?_getD, List.getElem?_eq_getElem hk, List.getD_eq_getElem?_getD, List.getElem?_eq_getElem hk']
 rfl
set_option maxHeartbeats 1000000 in
theorem compareL_any {A A' : Option Addr} {n c c' B B' : Nat} {L L' : List Int} {w : World} (hr : HasI w B A n c L) (hr' : HasI w B' A' n c' L') :
  Calls Tryz.prog 230 #[.slice A n c, .slice A' n c'] w fun e w' => e = .returned (.int .i64 (cmpK L L')) ∧ w = w' := by
 have hn := hr.lenMax
 have HL := Lib.hid hr.len
 have HL' := Lib.hid hr'.len
 go_enter Tryz.func230, Tryz.ntmps230
 go_wp2
 go_loop [11] (fun i => ∃ k : Nat, k ≤ n ∧ i = .int .i64 k ∧ Hid (cmpK L L' = cmpK (L.drop k) (L'.drop k))) (fun i => n - (intOf i).toNat)
 case atStart => exact ⟨0, Nat.zero_le _, rfl, Lib.hid rfl⟩
 case round =>
  obtain ⟨k, hk, rfl, ht⟩ := hrel
  by_cases hlt : k < n
  ·obtain ⟨b, o, x, rfl, hb, hc, ex⟩ := hr.at_ hlt
   obtain ⟨b', o', y, rfl, hb', hc', ey⟩ := hr'.at_ hlt
   have HS := Lib.hid (cmp3_step ht.out (by have := HL.out; omega) (by have := HL'.out; omega) ex.out ey.out)
   clear ht ex ey
   by_cases h1 : x < y
   ·have H : Hid (cmpK L L' = -1) := Lib.hid (by rw [HS.out, if_pos h1])
    have HC : Hid (cmpI x y = -1) := Lib.hid (by unfold cmpI; rw [if_pos h1])
    clear h1
    go_wp2_with fail
    refine (compareI_any x y w).mono ?_
    rintro e v ⟨rfl, rfl⟩
    rw [HC.out]
    go_wp2_with fail
    go_ret
    exact ⟨i64_of H.out.symm, rfl⟩
   ·by_cases h2 : y < x
    ·have H : Hid (cmpK L L' = 1) := Lib.hid (by rw [HS.out, if_neg h1, if_pos h2])
     have HC : Hid (cmpI x y = 1) := Lib.hid (by unfold cmpI; rw [if_neg h1, if_pos h2])
     clear h1 h2
     go_wp2_with fail
     refine (compareI_any x y w).mono ?_
     rintro e v ⟨rfl, rfl⟩
     rw [HC.out]
     go_wp2_with fail
     go_ret
     exact ⟨i64_of H.out.symm, rfl⟩
    ·have H : Hid (cmpK L L' = cmpK (L.drop (k + 1)) (L'.drop (k + 1))) := Lib.hid (by rw [HS.out, if_neg h1, if_neg h2])
     have HC : Hid (cmpI x y = 0) := Lib.hid (by unfold cmpI; rw [if_neg h1, if_neg h2])
     clear h1 h2
     go_wp2_with fail
     refine (compareI_any x y w).mono ?_
     rintro e v ⟨rfl, rfl⟩
     rw [HC.out]
     go_wp2_with fail
     go_round
     case rel => exact ⟨k + 1, by omega, by go_num, H⟩
     case measure => simp [intOf]; omega
  ·obtain rfl : k = n := by omega
   have H : Hid (cmpK L L' = 0) := Lib.hid (by
    have h1 := HL.out; have h2 := HL'.out
    rw [ht.out, List.drop_of_length_le (by omega), List.drop_of_length_le (by omega)]
    rfl)
   go_wp2
   go_ret
   exact ⟨i64_of H.out.symm, rfl⟩
end Go.Proofs.YtmepdkdeanbbaaaGreat
