/- NamesD, NamesU -/
import Derived.Test.YtmepdkdeanbbaaaGreatJ10
import Derived.Test.YtmepdkdeanbbaaaGreatJ18
import Derived.Sort.Walk0
namespace Go.Proofs.YtmepdkdeanbbaaaGreat
set_option maxRecDepth 100000
open Go.RowKit

theorem less_yes {x y : Txt} (h : x < y) : Op.bytesLess x y = true := by rw [Go.Proofs.bytesLess_eq, decide_eq_true h]
theorem less_no {x y : Txt} (h : ¬ x < y) : Op.bytesLess x y = false := by rw [Go.Proofs.bytesLess_eq, decide_eq_false h]
def cmpX (x y : Txt) : Int := if x < y then -1 else if y < x then 1 else 0

theorem isNaN_any (x : Txt) (w : World) : Calls Tryz.prog 243 #[.string ⟨x.toArray⟩] w fun e w' => e = .returned (.bool false) ∧ w = w' := by
 have h : (x == x) = true := by simp
 go_enter Tryz.func243, Tryz.ntmps243
 go_wp2
 go_ret
 exact ⟨rfl, rfl⟩
theorem compare_any (x y : Txt) (w : World) : Calls Tryz.prog 208 #[.string ⟨x.toArray⟩, .string ⟨y.toArray⟩] w fun e w' => e = .returned (.int .i64 (cmpX x y)) ∧ w = w' := by
 by_cases h1 : x < y
 ·have H : Hid (cmpX x y = -1) := Lib.hid (by unfold cmpX; rw [if_pos h1])
  have g1 := less_yes h1
  clear h1
  go_enter Tryz.func208, Tryz.ntmps208
  go_wp2_with (go_at_call 243; refine (isNaN_any _ _).mono ?_; rintro e v ⟨rfl, rfl⟩)
  go_ret
  exact ⟨i64_of H.out.symm, rfl⟩
 ·by_cases h2 : y < x
  ·have H : Hid (cmpX x y = 1) := Lib.hid (by unfold cmpX; rw [if_neg h1, if_pos h2])
   have g1 := less_no h1
   have g2 : (x == y) = false := by rw [beq_eq_false_iff_ne]; rintro rfl; exact txt_irrefl _ h2
   clear h1 h2
   go_enter Tryz.func208, Tryz.ntmps208
   go_wp2_with (go_at_call 243; refine (isNaN_any _ _).mono ?_; rintro e v ⟨rfl, rfl⟩)
   go_ret
   exact ⟨i64_of H.out.symm, rfl⟩
  ·obtain rfl := txt_eq h1 h2
   have H : Hid (cmpX x x = 0) := Lib.hid (by unfold cmpX; rw [if_neg h1, if_neg h1])
   have g1 := less_no h1
   have g2 : (x == x) = true := by simp
   clear h1 h2
   go_enter Tryz.func208, Tryz.ntmps208
   go_wp2_with (go_at_call 243; refine (isNaN_any _ _).mono ?_; rintro e v ⟨rfl, rfl⟩)
   go_ret
   exact ⟨i64_of H.out.symm, rfl⟩

/-! ### Where two lists part -/
theorem drop_get {L : List Txt} {k : Nat} {x : Txt} (hk : k < L.length) (e : x = L.getD k []) : L.drop k = x :: L.drop (k + 1) := by
 rw [List.drop_eq_getElem_cons hk, e, List.getD_eq_getElem?_getD, List.getElem?_eq_getElem hk]
 rfl
theorem cmpT_lt {L L' : List Txt} {k : Nat} {x y : Txt} (hk : k < L.length) (hk' : k < L'.length) (ht : L.take k = L'.take k) (e : x = L.getD k []) (e' : y = L'.getD k []) (h : x < y) : cmpP L L' = -1 := by
 rw [cmpP_drop k L L' (by omega) (by omega) ht, drop_get hk e, drop_get hk' e', cmpP, if_pos h]
theorem cmpT_gt {L L' : List Txt} {k : Nat} {x y : Txt} (hk : k < L.length) (hk' : k < L'.length) (ht : L.take k = L'.take k) (e : x = L.getD k []) (e' : y = L'.getD k []) (h : y < x) : cmpP L L' = 1 := by
 rw [cmpP_drop k L L' (by omega) (by omega) ht, drop_get hk e, drop_get hk' e', cmpP, if_neg (txt_asymm h), if_pos h]
theorem cmp_end {L L' : List Txt} {k : Nat} (hk : k ≤ L.length) (hk' : k ≤ L'.length) (ht : L.take k = L'.take k) (h : L.length = k ∨ L'.length = k) : cmpP L L' = if L.length < L'.length then -1 else if L'.length < L.length then 1 else 0 := by
 rw [cmpP_drop k L L' hk hk' ht]
 by_cases h1 : L.length = k
 ·rw [List.drop_of_length_le (by omega : L.length ≤ k)]
  by_cases h2 : L'.length = k
  ·rw [List.drop_of_length_le (by omega : L'.length ≤ k), if_neg (by omega), if_neg (by omega)]; rfl
  ·rw [if_pos (by omega)]
   rcases hd : L'.drop k with _ | ⟨b, q⟩
   ·rw [List.drop_eq_nil_iff] at hd; omega
   ·rfl
 ·rw [List.drop_of_length_le (by omega : L'.length ≤ k), if_neg (by omega), if_pos (by omega)]
  rcases hd : L.drop k with _ | ⟨b, q⟩
  ·rw [List.drop_eq_nil_iff] at hd; omega
  ·rfl

set_option maxRecDepth 100000 in
set_option maxHeartbeats 1000000 in
theorem compareT_any {A A' : Option Addr} {n c n' c' B B' : Nat} {L L' : List Txt} {w : World} (hr : HasT w B A n c L) (hr' : HasT w B' A' n' c' L') :
  Calls Tryz.prog 145 #[.slice A n c, .slice A' n' c'] w fun e w' => e = .returned (.int .i64 (cmpP L L')) ∧ w = w' := by
 have hn := hr.lenMax
 have hn' := hr'.lenMax
 have HL := Lib.hid hr.len
 have HL' := Lib.hid hr'.len
 go_enter Tryz.func145, Tryz.ntmps145
 go_wp2
 go_loop [11] (fun i => ∃ k : Nat, k ≤ n ∧ k ≤ n' ∧ i = .int .i64 k ∧ Hid (L.take k = L'.take k)) (fun i => n - (intOf i).toNat)
 case atStart => exact ⟨0, Nat.zero_le _, Nat.zero_le _, rfl, Lib.hid rfl⟩
 case round =>
  obtain ⟨k, hk, hk', rfl, ht⟩ := hrel
  by_cases hlt : k < n
  ·obtain ⟨b, o, x, rfl, hb, hc, ex⟩ := hr.at_ hlt
   by_cases hlt' : k < n'
   ·obtain ⟨b', o', y, rfl, hb', hc', ey⟩ := hr'.at_ hlt'
    by_cases h1 : x < y
    ·have H := Lib.hid (cmpT_lt (by have := HL.out; omega) (by have := HL'.out; omega) ht.out ex.out ey.out h1)
     have HC : Hid (cmpX x y = -1) := Lib.hid (by unfold cmpX; rw [if_pos h1])
     clear h1
     go_wp2_with fail
     refine (compare_any x y w).mono ?_
     rintro e v ⟨rfl, rfl⟩
     rw [HC.out]
     go_wp2_with fail
     go_ret
     exact ⟨i64_of H.out.symm, rfl⟩
    ·by_cases h2 : y < x
     ·have H := Lib.hid (cmpT_gt (by have := HL.out; omega) (by have := HL'.out; omega) ht.out ex.out ey.out h2)
      have HC : Hid (cmpX x y = 1) := Lib.hid (by unfold cmpX; rw [if_neg h1, if_pos h2])
      clear h1 h2
      go_wp2_with fail
      refine (compare_any x y w).mono ?_
      rintro e v ⟨rfl, rfl⟩
      rw [HC.out]
      go_wp2_with fail
      go_ret
      exact ⟨i64_of H.out.symm, rfl⟩
     ·obtain rfl := txt_eq h1 h2
      have H := Lib.hid (takeT_same (by have := HL.out; omega) (by have := HL'.out; omega) ht.out ex.out ey.out)
      have HC : Hid (cmpX x x = 0) := Lib.hid (by unfold cmpX; rw [if_neg h1, if_neg h1])
      clear h1 h2
      go_wp2_with fail
      refine (compare_any x x w).mono ?_
      rintro e v ⟨rfl, rfl⟩
      rw [HC.out]
      go_wp2_with fail
      go_round
      case rel => exact ⟨k + 1, by omega, by omega, by go_num, H⟩
      case measure => simp [intOf]; omega
   ·have H : Hid (cmpP L L' = 1) := Lib.hid (by
     have h1 := HL.out; have h2 := HL'.out
     rw [cmp_end (k := k) (by omega) (by omega) ht.out (by omega), if_neg (by omega), if_pos (by omega)])
    go_wp2
    go_ret
    exact ⟨i64_of H.out.symm, rfl⟩
  ·by_cases hlt' : n < n'
   ·have H : Hid (cmpP L L' = -1) := Lib.hid (by
     have h1 := HL.out; have h2 := HL'.out
     rw [cmp_end (k := k) (by omega) (by omega) ht.out (by omega), if_pos (by omega)])
    go_wp2
    go_ret
    exact ⟨i64_of H.out.symm, rfl⟩
   ·have H : Hid (cmpP L L' = 0) := Lib.hid (by
     have h1 := HL.out; have h2 := HL'.out
     rw [cmp_end (k := k) (by omega) (by omega) ht.out (by omega), if_neg (by omega), if_neg (by omega)])
    go_wp2
    go_ret
    exact ⟨i64_of H.out.symm, rfl⟩
theorem cmpT_any {A A' : Option Addr} {n c n' c' B B' : Nat} {L L' : List Txt} {w : World} (hr : HasT w B A n c L) (hr' : HasT w B' A' n' c' L') :
  Calls Tryz.prog 80 #[.slice A n c, .slice A' n' c'] w fun e w' => e = .returned (.int .i64 (cmpP L L')) ∧ w = w' := by
 go_enter Tryz.func80, Tryz.ntmps80
 go_wp2_with fail
 refine (compareT_any hr hr').mono ?_
 rintro e v ⟨rfl, rfl⟩
 go_wp2_with fail
 go_ret
 exact ⟨rfl, rfl⟩

set_option maxRecDepth 100000 in
set_option maxHeartbeats 1000000 in
theorem refCmp_any {A A' : Option Addr} {n c n' c' B B' : Nat} {L L' : List Txt} {w : World} (hr : HasT w B A n c L) (hr' : HasT w B' A' n' c' L') :
  Calls Tryz.prog 81 #[.slice A n c, .slice A' n' c'] w fun e w' => e = .returned (.int .i64 (cmpP L L')) ∧ ∃ k, w' = w.drewN k := by
 have hn := hr.lenMax
 have hn' := hr'.lenMax
 have HL := Lib.hid hr.len
 have HL' := Lib.hid hr'.len
 go_enter Tryz.func81, Tryz.ntmps81
 go_wp2
 go_loopw [5] (fun i wr => ∃ k q : Nat, k ≤ n ∧ k ≤ n' ∧ i = .int .i64 k ∧ wr = w.drewN q ∧ Hid (L.take k = L'.take k)) (fun i _ => n - (intOf i).toNat)
 case atStart => exact ⟨0, 0, Nat.zero_le _, Nat.zero_le _, rfl, rfl, Lib.hid rfl⟩
 case round =>
  obtain ⟨k, q, hk, hk', rfl, rfl, ht⟩ := hrel
  by_cases hlt : k < n
  ·by_cases hlt' : k < n'
   ·obtain ⟨b, o, x, rfl, hb, hc, ex⟩ := hr.at_ hlt
    obtain ⟨b', o', y, rfl, hb', hc', ey⟩ := hr'.at_ hlt'
    by_cases h1 : x < y
    ·have H := Lib.hid (cmpT_lt (by have := HL.out; omega) (by have := HL'.out; omega) ht.out ex.out ey.out h1)
     have g1 := less_yes h1
     clear h1
     go_wp2
     go_quiet (fail)
     go_wp2
     go_ret
     exact ⟨i64_of H.out.symm, q + nq, World.drewN_drewN _ _ _⟩
    ·by_cases h2 : y < x
     ·have H := Lib.hid (cmpT_gt (by have := HL.out; omega) (by have := HL'.out; omega) ht.out ex.out ey.out h2)
      have g1 := less_no h1
      have g2 : (x == y) = false := by rw [beq_eq_false_iff_ne]; rintro rfl; exact txt_irrefl _ h2
      clear h1 h2
      go_wp2
      go_quiet (fail)
      obtain ⟨na, hna⟩ : ∃ na, na = nq := ⟨_, rfl⟩
      go_wp2
      go_quiet (fail)
      go_wp2
      go_ret
      exact ⟨i64_of H.out.symm, _, by first | exact World.drewN_drewN _ _ _ | (rw [World.drewN_drewN, World.drewN_drewN])⟩
     ·obtain rfl := txt_eq h1 h2
      have H := Lib.hid (takeT_same (by have := HL.out; omega) (by have := HL'.out; omega) ht.out ex.out ey.out)
      have g1 := less_no h1
      have g2 : (x == x) = true := by simp
      clear h1 h2
      go_wp2
      go_quiet (fail)
      go_wp2
      go_quiet (fail)
      go_wp2
      go_roundw
      case rel => exact ⟨k + 1, _, by omega, by omega, by go_num, rfl, H⟩
      case measure => simp [intOf]; omega
   ·have H : Hid (cmpP L L' = 1) := Lib.hid (by
     have h1 := HL.out; have h2 := HL'.out
     rw [cmp_end (k := k) (by omega) (by omega) ht.out (by omega), if_neg (by omega), if_pos (by omega)])
    have g1 : ¬ (n : Int) < (n' : Int) := by omega
    go_wp2
    go_ret
    exact ⟨i64_of H.out.symm, q, rfl⟩
  ·by_cases hlt' : n < n'
   ·have H : Hid (cmpP L L' = -1) := Lib.hid (by
     have h1 := HL.out; have h2 := HL'.out
     rw [cmp_end (k := k) (by omega) (by omega) ht.out (by omega), if_pos (by omega)])
    go_wp2
    go_ret
    exact ⟨i64_of H.out.symm, q, rfl⟩
   ·have H : Hid (cmpP L L' = 0) := Lib.hid (by
     have h1 := HL.out; have h2 := HL'.out
     rw [cmp_end (k := k) (by omega) (by omega) ht.out (by omega), if_neg (by omega), if_neg (by omega)])
    go_wp2
    go_ret
    exact ⟨i64_of H.out.symm, q, rfl⟩
end Go.Proofs.YtmepdkdeanbbaaaGreat
namespace Go.Proofs.YtmepdkdeanbbaaaGreat
set_option maxRecDepth 100000
open Go.RowKit

theorem cell_litT (w : World) (y : Value) (t : TypeId) (g : Nat) (hg : g = w.heap.size) : (w.alloc (.cells #[y] t)).cell? ⟨g, 0, none⟩ = some y := by
 subst hg
 rw [cell_new]; rfl
theorem takeT_snoc {L : List Txt} {k : Nat} (h : k < L.length) {x : Txt} (hx : x = L.getD k []) : L.take k ++ [x] = L.take (k + 1) := by
 rw [List.take_add_one, hx, List.getD_eq_getElem?_getD, List.getElem?_eq_getElem h]
 rfl

end Go.Proofs.YtmepdkdeanbbaaaGreat
