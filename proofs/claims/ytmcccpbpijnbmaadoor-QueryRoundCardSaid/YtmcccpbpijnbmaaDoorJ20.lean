/- NamesC -/
import Derived.Test.YtmcccpbpijnbmaaDoorJ13
import Derived.BigQuiet
import Derived.Deep.QuietTactic
namespace Go.Proofs.YtmcccpbpijnbmaaDoor
set_option maxRecDepth 100000
open Go.RowKit

theorem takeT_same {L L' : List Txt} {k : Nat} {x : Txt} (hk : k < L.length) (hk' : k < L'.length) (h : L.take k = L'.take k) (e : x = L.getD k []) (e' : x = L'.getD k []) : L.take (k + 1) = L'.take (k + 1) := by
 rw [List.take_succ_eq_append_getElem hk, List.take_succ_eq_append_getElem hk', h]
 simp only [List.getD_eq_getElem?_getD, List.getElem?_eq_getElem hk, List.getElem?_eq_getElem hk', Option.getD_some] at e e'
 rw [← e, ← e']
theorem neT {L L' : List Txt} {k : Nat} {x x' : Txt} (h : ¬ x = x') (e : x = L.getD k []) (e' : x' = L'.getD k []) : decide (L = L') = false := by
 rw [decide_eq_false_iff_not]
 rintro rfl
 exact h (e.trans e'.symm)
theorem eqT {L L' : List Txt} {k n : Nat} (h : L.take k = L'.take k) (hk : n ≤ k) (h1 : L.length = n) (h2 : L'.length = n) : decide (L = L') = true := by
 rw [List.take_of_length_le (by omega), List.take_of_length_le (by omega)] at h
 rw [h, decide_eq_true rfl]

set_option maxRecDepth 100000 in
theorem sameT_any {A A' : Option Addr} {n c n' c' B B' : Nat} {L L' : List Txt} {w : World} (hr : HasT w B A n c L) (hr' : HasT w B' A' n' c' L') :
  Calls Tryd.prog 40 #[.slice A n c, .slice A' n' c'] w fun e w' => e = .returned (.bool (decide (L = L'))) ∧ ∃ k, w' = w.drewN k := by
 have hn := hr.lenMax
 have hll := hr.len
 have hll' := hr'.len
 by_cases h : n = n'
 ·subst h
  have hne : ((n : Int) != (n : Int)) = false := by simp
  have HL := Lib.hid hll
  have HL' := Lib.hid hll'
  clear hll hll'
  go_enter Tryd.func40, Tryd.ntmps40
  go_wp2
  clear hne
  go_loopw [5] (fun i wr => ∃ k q : Nat, k ≤ n ∧ i = .int .i64 k ∧ wr = w.drewN q ∧ Hid (L.take k = L'.take k)) (fun i _ => n - (intOf i).toNat)
  case atStart => exact ⟨0, 0, Nat.zero_le _, rfl, rfl, rfl⟩
  case round =>
   obtain ⟨k, q, hk, rfl, rfl, ht⟩ := hrel
   by_cases hlt : k < n
   ·obtain ⟨b, o, x, rfl, hb, hc, ex⟩ := hr.at_ hlt
    obtain ⟨b', o', x', rfl, hb', hc', ex'⟩ := hr'.at_ hlt
    by_cases hxx : x = x'
    ·subst hxx
     have hxn : (x == x) = true := by simp
     have H := Lib.hid (takeT_same (by have := HL.out; omega) (by have := HL'.out; omega) ht.out ex.out ex'.out)
     go_wp2
     go_quiet (fail)
     go_wp2
     go_roundw
     case rel => exact ⟨k + 1, q + nq, by omega, by go_num, rfl, H⟩
     case measure => simp [intOf]; omega
    ·have hxn : (x == x') = false := by simp [hxx]
     have H := Lib.hid (neT hxx ex.out ex'.out)
     clear hxx
     go_wp2
     go_quiet (fail)
     go_wp2
     go_ret
     exact ⟨bool_of H.out.symm, q + nq, World.drewN_drewN _ _ _⟩
   ·have H := Lib.hid (eqT ht.out (Nat.not_lt.1 hlt) HL.out HL'.out)
    go_wp2
    go_ret
    exact ⟨bool_of H.out.symm, q, rfl⟩
 ·have H : Hid (decide (L = L') = false) := Lib.hid (by rw [decide_eq_false_iff_not]; intro e; subst e; omega)
  have hne : ((n : Int) != (n' : Int)) = true := by simp; omega
  clear hll hll'
  go_enter Tryd.func40, Tryd.ntmps40
  go_wp2
  go_ret
  exact ⟨bool_of H.out.symm, 0, rfl⟩

set_option maxRecDepth 100000 in
theorem equalT_any {A A' : Option Addr} {n c n' c' B B' : Nat} {L L' : List Txt} {w : World} (hr : HasT w B A n c L) (hr' : HasT w B' A' n' c' L') :
  Calls Tryd.prog 60 #[.slice A n c, .slice A' n' c'] w fun e w' => e = .returned (.bool (decide (L = L'))) ∧ ∃ k, w' = w.drewN k := by
 have hn := hr.lenMax
 have hll := hr.len
 have hll' := hr'.len
 by_cases h : n = n'
 ·subst h
  have hne : ((n : Int) != (n : Int)) = false := by simp
  have HL := Lib.hid hll
  have HL' := Lib.hid hll'
  clear hll hll'
  go_enter Tryd.func60, Tryd.ntmps60
  go_wp2
  clear hne
  go_loopw [13] (fun i wr => ∃ k q : Nat, k ≤ n ∧ i = .int .i64 k ∧ wr = w.drewN q ∧ Hid (L.take k = L'.take k)) (fun i _ => n - (intOf i).toNat)
  case atStart => exact ⟨0, 0, Nat.zero_le _, rfl, rfl, rfl⟩
  case round =>
   obtain ⟨k, q, hk, rfl, rfl, ht⟩ := hrel
   by_cases hlt : k < n
   ·obtain ⟨b, o, x, rfl, hb, hc, ex⟩ := hr.at_ hlt
    obtain ⟨b', o', x', rfl, hb', hc', ex'⟩ := hr'.at_ hlt
    by_cases hxx : x = x'
    ·subst hxx
     have hxn : (x == x) = true := by simp
     have H := Lib.hid (takeT_same (by have := HL.out; omega) (by have := HL'.out; omega) ht.out ex.out ex'.out)
     go_wp2
     go_quiet (fail)
     go_wp2
     go_roundw
     case rel => exact ⟨k + 1, q + nq, by omega, by go_num, rfl, H⟩
     case measure => simp [intOf]; omega
    ·have hxn : (x == x') = false := by simp [hxx]
     have H := Lib.hid (neT hxx ex.out ex'.out)
     clear hxx
     go_wp2
     go_quiet (fail)
     go_wp2
     go_ret
     exact ⟨bool_of H.out.symm, q + nq, World.drewN_drewN _ _ _⟩
   ·have H := Lib.hid (eqT ht.out (Nat.not_lt.1 hlt) HL.out HL'.out)
    go_wp2
    go_ret
    exact ⟨bool_of H.out.symm, q, rfl⟩
 ·have H : Hid (decide (L = L') = false) := Lib.hid (by rw [decide_eq_false_iff_not]; intro e; subst e; omega)
  have hne : ((n : Int) != (n' : Int)) = true := by simp; omega
  clear hll hll'
  go_enter Tryd.func60, Tryd.ntmps60
  go_wp2
  go_ret
  exact ⟨bool_of H.out.symm, 0, rfl⟩

theorem HasT.take3 {w : World} {B n c k : Nat} {A : Option Addr} {L : List Txt} (h : HasT w B A n c L) (hk : k ≤ n) : HasT w B A k k (L.take k) := by
 have h1 := h.take_ k hk
 have hc := h.cap
 have hf := h.fit
 refine ⟨h1.len, Nat.le_refl _, by omega, fun e => by have := h.void e; omega, h1.has⟩
theorem cut_any {A : Option Addr} {n c B : Nat} {L : List Txt} {w : World} (hr : HasT w B A n c L) (m : Int) :
  Calls Tryd.prog 59 #[.slice A n c, .int .i64 m] w fun e w' => (∃ k : Nat, e = .returned (.slice A k k) ∧ k ≤ n ∧ HasT w B A k k (L.take m.toNat)) ∧ w = w' := by
 have hn := hr.lenMax
 have hcm := hr.capMax
 have hcap := hr.cap
 have hll := hr.len
 have hk : (min (max m 0) (n : Int)).toNat ≤ n := by omega
 have H : Hid (HasT w B A (min (max m 0) (n : Int)).toNat (min (max m 0) (n : Int)).toNat (L.take m.toNat)) := Lib.hid (by
  have h1 := hr.take3 hk
  have h2 : L.take (min (max m 0) (n : Int)).toNat = L.take m.toNat := by
   by_cases h : m.toNat ≤ n
   ·congr 1; omega
   ·rw [List.take_of_length_le (by omega), List.take_of_length_le (by omega)]
  rwa [h2] at h1)
 clear hll
 go_enter Tryd.func59, Tryd.ntmps59
 go_wp2
 go_ret
 exact ⟨⟨_, rfl, hk, H.out⟩, rfl⟩
theorem underP_dec {L L' : List Txt} {m : Nat} (hm : L'.length = m) : decide (L.take m = L') = decide (underP L L') := by
 subst hm
 rw [Bool.eq_iff_iff, decide_eq_true_eq, decide_eq_true_eq]
 constructor
 ·intro h
  refine ⟨?_, h⟩
  have := congrArg List.length h
  rw [List.length_take] at this
  omega
 ·exact fun h => h.2
theorem under_any {A A' : Option Addr} {n c n' c' B B' : Nat} {L L' : List Txt} {w : World} (hr : HasT w B A n c L) (hr' : HasT w B' A' n' c' L') :
  Calls Tryd.prog 44 #[.slice A n c, .slice A' n' c'] w fun e w' => e = .returned (.bool (decide (underP L L'))) ∧ ∃ k, w' = w.drewN k := by
 have HE := Lib.hid (underP_dec (L := L) hr'.len)
 go_enter Tryd.func44, Tryd.ntmps44
 go_wp2_with fail
 refine (cut_any hr _).mono ?_
 rintro e v ⟨⟨k, rfl, hk, hv⟩, rfl⟩
 rw [Int.toNat_natCast] at hv
 go_wp2_with fail
 refine (equalT_any hv hr').mono ?_
 rintro e v ⟨rfl, q, rfl⟩
 go_wp2_with fail
 go_ret
 exact ⟨bool_of HE.out, q, rfl⟩
theorem under_yes {A A' : Option Addr} {n c n' c' B B' : Nat} {L L' : List Txt} {w : World} (hr : HasT w B A n c L) (hr' : HasT w B' A' n' c' L') (h : underP L L') :
  Calls Tryd.prog 44 #[.slice A n c, .slice A' n' c'] w fun e w' => e = .returned (.bool true) ∧ ∃ k, w' = w.drewN k := by
 have := under_any hr hr'
 rwa [decide_eq_true h] at this
theorem under_no {A A' : Option Addr} {n c n' c' B B' : Nat} {L L' : List Txt} {w : World} (hr : HasT w B A n c L) (hr' : HasT w B' A' n' c' L') (h : ¬ underP L L') :
  Calls Tryd.prog 44 #[.slice A n c, .slice A' n' c'] w fun e w' => e = .returned (.bool false) ∧ ∃ k, w' = w.drewN k := by
 have := under_any hr hr'
 rwa [decide_eq_false h] at this
end Go.Proofs.YtmcccpbpijnbmaaDoor
