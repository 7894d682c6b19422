/- SchemaN -/
import Derived.Test.YtmcccpbpijnbmaaDoorJ23
import Derived.BigQuiet
import Derived.Deep.QuietTactic
namespace Go.Proofs.YtmcccpbpijnbmaaDoor
set_option maxRecDepth 100000
open Go.RowKit Go.Maps

theorem apart_short {L : List Txt} {m : Nat} (h : L.length < 1) : decide (apartP L m) = false := by
 rw [decide_eq_false_iff_not]; intro h'; have := h'.1; omega
theorem apart_long {L : List Txt} {m : Nat} (h : m < L.length) : decide (apartP L m) = false := by
 rw [decide_eq_false_iff_not]; intro h'; have := h'.2.1; omega
theorem apart_name {L : List Txt} {m k : Nat} {x : Txt} (hk : k < L.length) (hx : x = L.getD k []) (h : ¬ nameP x) : decide (apartP L m) = false := by
 rw [decide_eq_false_iff_not]
 intro h'
 refine h (h'.2.2.1 x ?_)
 rw [hx, List.getD_eq_getElem?_getD, List.getElem?_eq_getElem hk]
 exact List.getElem_mem hk
theorem apart_end {L : List Txt} {m k : Nat} (h1 : ¬ L.length < 1) (h2 : ¬ m < L.length) (hk : L.length ≤ k) (ht : ∀ s ∈ L.take k, nameP s) : (!decide (¬ L.Nodup)) = decide (apartP L m) := by
 rw [List.take_of_length_le hk] at ht
 by_cases hn : L.Nodup
 ·have : apartP L m := ⟨by omega, by omega, ht, hn⟩
  simp [hn, this]
 ·have : ¬ apartP L m := fun h => hn h.2.2.2
  simp [hn, this]
theorem bool_not {b c : Bool} (h : (!b) = c) : Ending.returned (.bool (!b)) = .returned (.bool c) := by rw [h]
set_option maxRecDepth 100000 in
set_option maxHeartbeats 1000000 in
theorem mayNames_any {A : Option Addr} {n c m : Nat} {L : List Txt} {w : World} (h : HasT w w.heap.size A n c L) (hm : ∀ s ∈ L, s.length ≤ maxLen) (hm3 : m ≤ 3) :
  Calls Tryd.prog 50 #[.slice A n c, .int .i64 (m : Int)] w fun e w' => e = .returned (.bool (decide (apartP L m))) ∧ Below w.heap.size w w' := by
 have hl := h.len
 have hn := h.lenMax
 by_cases h1 : (n : Int) < 1
 ·have H := Lib.hid (apart_short (L := L) (m := m) (by omega))
  go_enter Tryd.func50, Tryd.ntmps50
  go_wp2
  go_ret
  exact ⟨bool_of H.out.symm, Below.refl _ _⟩
 ·by_cases h2 : (m : Int) < (n : Int)
  ·have H := Lib.hid (apart_long (L := L) (m := m) (by omega))
   go_enter Tryd.func50, Tryd.ntmps50
   go_wp2
   go_ret
   exact ⟨bool_of H.out.symm, Below.refl _ _⟩
  ·have HL := Lib.hid hl
   have HM := Lib.hid hm
   clear hl hm
   go_enter Tryd.func50, Tryd.ntmps50
   go_wp2
   go_loopw [18] (fun i wr => ∃ k : Nat, k ≤ n ∧ i = .int .i64 k ∧ Below w.heap.size w wr ∧ Hid (∀ s ∈ L.take k, nameP s)) (fun i _ => n - (intOf i).toNat)
   case atStart => exact ⟨0, Nat.zero_le _, rfl, Below.refl _ _, Lib.hid (by simp)⟩
   case round =>
    obtain ⟨k, hk, rfl, hB, ht⟩ := hrel
    by_cases hlt : k < n
    ·obtain ⟨b, o, x, rfl, hb, hc, ex⟩ := (h.below hB (Nat.le_refl _)).at_ hlt
     by_cases hx : nameP x
     ·have H := Lib.hid (mayP_step (by have := HL.out; omega) ex.out hx ht.out)
      have HX := Lib.hid hx
      clear hx
      go_wp2_with fail
      refine (name_yes HX.out _).mono ?_
      rintro e v ⟨rfl, hb1⟩
      have hB2 := hB.trans (hb1.mono hB.size)
      go_wp2_with fail
      go_roundw
      case rel => exact ⟨k + 1, by omega, by go_num, hB2, H⟩
      case measure => simp [intOf]; omega
     ·have H := Lib.hid (apart_name (m := m) (by have := HL.out; omega) ex.out hx)
      have HX := Lib.hid hx
      clear hx
      go_wp2_with fail
      refine (name_no HX.out _).mono ?_
      rintro e v ⟨rfl, hb1⟩
      have hB2 := hB.trans (hb1.mono hB.size)
      go_wp2_with fail
      go_ret
      exact ⟨bool_of H.out.symm, hB2⟩
    ·have H := Lib.hid (apart_end (m := m) (by have := HL.out; omega) (by have := HL.out; omega) (by have := HL.out; omega) ht.out)
     have HT := Lib.hid (twiceT_any (h.belowS hB) (by omega) HM.out)
     go_wp2_with fail
     refine HT.out.mono ?_
     rintro e v ⟨rfl, hb1⟩
     have hB2 := Lib.hid (hB.trans (hb1.mono hB.size))
     obtain ⟨q, hq⟩ : ∃ q, decide (¬ L.Nodup) = q := ⟨_, rfl⟩
     rw [hq] at H ⊢
     clear hq HT hb1
     go_wp2_with fail
     go_ret
     exact ⟨bool_not H.out, hB2.out⟩

/-! ### The reference's -/
end Go.Proofs.YtmcccpbpijnbmaaDoor
