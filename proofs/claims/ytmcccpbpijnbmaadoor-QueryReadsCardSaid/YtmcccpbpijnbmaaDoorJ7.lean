/- SchemaI -/
import Derived.Test.YtmcccpbpijnbmaaDoorJ1
import Derived.BigQuiet
import Derived.Deep.QuietTactic
import Derived.StillTailTactics
import Derived.Test.YtmcccpbpijnbmaaDoorRows
namespace Go.Proofs.YtmcccpbpijnbmaaDoor
set_option maxRecDepth 100000
open Go.RowKit

theorem takeI_same {L L' : List Int} {k : Nat} {x : Int} (hk : k < L.length) (hk' : k < L'.length) (h : L.take k = L'.take k) (e : x = L.getD k 0) (e' : x = L'.getD k 0) : L.take (k + 1) = L'.take (k + 1) := by
 rw [List.take_succ_eq_append_getElem hk, List.take_succ_eq_append_getElem hk', h]
 simp only [List.getD_eq_getElem?_getD, List.getElem?_eq_getElem hk, List.getElem?_eq_getElem hk', Option.getD_some] at e e'
 rw [← e, ← e']
theorem neI {L L' : List Int} {k : Nat} {x x' : Int} (h : ¬ x = x') (e : x = L.getD k 0) (e' : x' = L'.getD k 0) : decide (L = L') = false := by
 rw [decide_eq_false_iff_not]
 rintro rfl
 exact h (e.trans e'.symm)
theorem eqI {L L' : List Int} {k n : Nat} (h : L.take k = L'.take k) (hk : n ≤ k) (h1 : L.length = n) (h2 : L'.length = n) : decide (L = L') = true := by
 rw [List.take_of_length_le (by omega), List.take_of_length_le (by omega)] at h
 rw [h, decide_eq_true rfl]

set_option maxRecDepth 100000 in
theorem sameI_any {A A' : Option Addr} {n c n' c' B B' : Nat} {L L' : List Int} {w : World} (hr : HasI w B A n c L) (hr' : HasI w B' A' n' c' L') :
  Calls Tryd.prog 25 #[.slice A n c, .slice A' n' c'] w fun e w' => e = .returned (.bool (decide (L = L'))) ∧ ∃ k, w' = w.drewN k := by
 have hn := hr.lenMax
 have hll := hr.len
 have hll' := hr'.len
 by_cases h : n = n'
 ·subst h
  have hne : ((n : Int) != (n : Int)) = false := by simp
  have HL := Lib.hid hll
  have HL' := Lib.hid hll'
  clear hll hll'
  go_enter Tryd.func25, Tryd.ntmps25
  go_wp2
  clear hne
  go_loopw [5] (fun i wr => ∃ k q : Nat, k ≤ n ∧ i = .int .i64 k ∧ wr = w.drewN q ∧ Hid (L.take k = L'.take k)) (fun i _ => n - (intOf i).toNat)
  case atStart => exact ⟨0, 0, Nat.zero_le _, rfl, rfl, rfl⟩
  case round =>
   obtain ⟨k, q, hk, rfl, rfl, ht⟩ := hrel
   by_cases hlt : k < n
   ·obtain ⟨b, o, x, rfl, hb, hc, ex⟩ := hr.at_ hlt
    obtain ⟨b', o', x', rfl, hb', hc', ex'⟩ := hr'.at_ hlt
    by_cases hxx : x = x'
    ·subst hxx
     have hxn : (x != x) = false := by simp
     have H := Lib.hid (takeI_same (by have := HL.out; omega) (by have := HL'.out; omega) ht.out ex.out ex'.out)
     go_wp2
     go_quiet (fail)
     go_wp2
     go_roundw
     case rel => exact ⟨k + 1, q + nq, by omega, by go_num, rfl, H⟩
     case measure => simp [intOf]; omega
    ·have hxn : (x != x') = true := by simp [hxx]
     have H := Lib.hid (neI hxx ex.out ex'.out)
     clear hxx
     go_wp2
     go_quiet (fail)
     go_wp2
     go_ret
     exact ⟨bool_of H.out.symm, q + nq, World.drewN_drewN _ _ _⟩
   ·have H := Lib.hid (eqI ht.out (Nat.not_lt.1 hlt) HL.out HL'.out)
    go_wp2
    go_ret
    exact ⟨bool_of H.out.symm, q, rfl⟩
 ·have H : Hid (decide (L = L') = false) := Lib.hid (by rw [decide_eq_false_iff_not]; intro e; subst e; omega)
  have hne : ((n : Int) != (n' : Int)) = true := by simp; omega
  clear hll hll'
  go_enter Tryd.func25, Tryd.ntmps25
  go_wp2
  go_ret
  exact ⟨bool_of H.out.symm, 0, rfl⟩

/-! ### What covers what -/
end Go.Proofs.YtmcccpbpijnbmaaDoor
