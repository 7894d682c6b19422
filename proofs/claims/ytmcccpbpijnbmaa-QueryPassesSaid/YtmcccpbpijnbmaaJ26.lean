/- SchemaN -/
import Derived.Test.YtmcccpbpijnbmaaJ21
import Derived.BigQuiet
import Derived.Deep.QuietTactic
namespace Go.Proofs.Ytmcccpbpijnbmaa
set_option maxRecDepth 100000
open Go.RowKit Go.Maps

theorem apart_short {L : List Txt} {m : Nat} (h : L.length < 1) : decide (apartP L m) = false := by
 rw [decide_eq_false_iff_not]; intro h'; have := h'.1; omega
theorem apart_long {L : List Txt} {m : Nat} (h : m < L.length) : decide (apartP L m) = false := by
 rw [decide_eq_false_iff_not]; intro h'; have := h'.2.1; omega
theorem apart_name {L : List Txt} {m k : Nat} {x : Txt} (hk : k < L.length) (hx : x = L.getD k []) (h : ¬ nameP x) : decide (apartP L m) = false := by
 rw [decide_eq_false_iff_not]
 intro h'
 refine h (h'.2.2.1 x ?_)
 rw [hx, List.getD_eq_getElem?_getD, List.getElem?_eq_getElem hk]
 exact List.getElem_mem hk
theorem apart_end {L : List Txt} {m k : Nat} (h1 : ¬ L.length < 1) (h2 : ¬ m < L.length) (hk : L.length ≤ k) (ht : ∀ s ∈ L.take k, nameP s) : (!decide (¬ L.Nodup)) = decide (apartP L m) := by
 rw [List.take_of_length_le hk] at ht
 by_cases hn : L.Nodup
 ·have : apartP L m := ⟨by omega, by omega, ht, hn⟩
  simp [hn, this]
 ·have : ¬ apartP L m := fun h => hn h.2.2.2
  simp [hn, this]
theorem bool_not {b c : Bool} (h : (!b) = c) : Ending.returned (.bool (!b)) = .returned (.bool c) := by rw [h]
set_option maxRecDepth 100000 in
set_option maxHeartbeats 1000000 in
theorem mayNames_any {A : Option Addr} {n c m : Nat} {L : List Txt} {w : World} (h : HasT w w.heap.size A n c L) (hm : ∀ s ∈ L, s.length ≤ maxLen) (hm3 : m ≤ 3) :
  Calls Try.prog 49 #[.slice A n c, .int .i64 (m : Int)] w fun e w' => e = .returned (.bool (decide (apartP L m))) ∧ Below w.heap.size w w' := by
 have hl := h.len
 have hn := h.lenMax
 by_cases h1 : (n : Int) < 1
 ·have H := Lib.hid (apart_short (L := L) (m := m) (by omega))
  go_enter Try.func49, Try.ntmps49
  go_wp2
  go_ret
  exact ⟨bool_of H.out.symm, Below.refl _ _⟩
 ·by_cases h2 : (m : Int) < (n : Int)
  ·have H := Lib.hid (apart_long (L := L) (m := m) (by omega))
   go_enter Try.func49, Try.ntmps49
   go_wp2
   go_ret
   exact ⟨bool_of H.out.symm, Below.refl _ _⟩
  ·have HL := Lib.hid hl
   have HM := Lib.hid hm
   clear hl hm
   go_enter Try.func49, Try.ntmps49
   go_wp2
   go_loopw [18] (fun i wr => ∃ k : Nat, k ≤ n ∧ i = .int .i64 k ∧ Below w.heap.size w wr ∧ Hid (∀ s ∈ L.take k, nameP s)) (fun i _ => n - (intOf i).toNat)
   case atStart => exact ⟨0, Nat.zero_le _, rfl, Below.refl _ _, Lib.hid (by simp)⟩
   case round =>
    obtain ⟨k, hk, rfl, hB, ht⟩ := hrel
    by_cases hlt : k < n
    ·obtain ⟨b, o, x, rfl, hb, hc, ex⟩ := (h.below hB (Nat.le_refl _)).at_ hlt
     by_cases hx : nameP x
     ·have H := Lib.hid (mayP_step (by have := HL.out; omega) ex.out hx ht.out)
      have HX := Lib.hid hx
      clear hx
      go_wp2_with fail
      refine (name_yes HX.out _).mono ?_
      rintro e v ⟨rfl, hb1⟩
      have hB2 := hB.trans (hb1.mono hB.size)
      go_wp2_with fail
      go_roundw
      case rel => exact ⟨k + 1, by omega, by go_num, hB2, H⟩
      case measure => simp [intOf]; omega
     ·have H := Lib.hid (apart_name (m := m) (by have := HL.out; omega) ex.out hx)
      have HX := Lib.hid hx
      clear hx
      go_wp2_with fail
      refine (name_no HX.out _).mono ?_
      rintro e v ⟨rfl, hb1⟩
      have hB2 := hB.trans (hb1.mono hB.size)
      go_wp2_with fail
      go_ret
      exact ⟨bool_of H.out.symm, hB2⟩
    ·have H := Lib.hid (apart_end (m := m) (by have := HL.out; omega) (by have := HL.out; omega) (by have := HL.out; omega) ht.out)
     have HT := Lib.hid (twiceT_any (h.belowS hB) (by omega) HM.out)
     go_wp2_with fail
     refine HT.out.mono ?_
     rintro e v ⟨rfl, hb1⟩
     have hB2 := Lib.hid (hB.trans (hb1.mono hB.size))
     obtain ⟨q, hq⟩ : ∃ q, decide (¬ L.Nodup) = q := ⟨_, rfl⟩
     rw [hq] at H ⊢
     clear hq HT hb1
     go_wp2_with fail
     go_ret
     exact ⟨bool_not H.out, hB2.out⟩

/-! ### The reference's -/
theorem nodup_snoc {L : List Txt} {k : Nat} {x : Txt} (hk : k < L.length) (hx : x = L.getD k []) (h : (L.take k).Nodup) (hj : ∀ j, j < k → ¬ L.getD j [] = x) : (L.take (k + 1)).Nodup := by
 rw [List.take_succ_eq_append_getElem hk]
 refine List.nodup_append.2 ⟨h, by simp, fun a ha b hb => ?_⟩
 rw [List.mem_singleton] at hb
 rw [hb]
 clear hb
 obtain ⟨j, hja, e⟩ := List.mem_iff_getElem.1 ha
 rw [List.length_take] at hja
 have hjk : j < k := by omega
 have h1 := hj j hjk
 intro e2
 refine h1 ?_
 rw [List.getElem_take] at e
 rw [List.getD_eq_getElem?_getD, List.getElem?_eq_getElem (show j < L.length by omega)]
 exact e.trans (e2.trans (by rw [hx, List.getD_eq_getElem?_getD, List.getElem?_eq_getElem hk]; rfl))
theorem apart_same {L : List Txt} {m k j : Nat} {x : Txt} (hk : k < L.length) (hj : j < k) (h1 : x = L.getD j []) (h2 : x = L.getD k []) : decide (apartP L m) = false := by
 rw [decide_eq_false_iff_not]
 intro h
 have := List.pairwise_iff_getElem.1 h.2.2.2 j k (by omega) hk hj
 rw [List.getD_eq_getElem?_getD, List.getElem?_eq_getElem (show j < L.length by omega)] at h1
 rw [List.getD_eq_getElem?_getD, List.getElem?_eq_getElem hk] at h2
 exact this (h1.symm.trans h2)
theorem apart_yes {L : List Txt} {m k : Nat} (h1 : ¬ L.length < 1) (h2 : ¬ m < L.length) (hk : L.length ≤ k) (ht : ∀ s ∈ L.take k, nameP s) (hd : (L.take k).Nodup) : decide (apartP L m) = true := by
 rw [List.take_of_length_le hk] at ht hd
 rw [decide_eq_true_eq]
 exact ⟨by omega, by omega, ht, hd⟩
set_option maxRecDepth 100000 in
set_option maxHeartbeats 1000000 in
theorem apart_any {A : Option Addr} {n c m B : Nat} {L : List Txt} {w : World} (h : HasT w B A n c L) (hm3 : m ≤ 3) :
  Calls Try.prog 45 #[.slice A n c, .int .i64 (m : Int)] w fun e w' => e = .returned (.bool (decide (apartP L m))) ∧ ∃ q, w' = w.drewN q := by
 have hl := h.len
 have hn := h.lenMax
 by_cases h1 : (n : Int) < 1
 ·have H := Lib.hid (apart_short (L := L) (m := m) (by omega))
  go_enter Try.func45, Try.ntmps45
  go_wp2
  go_ret
  exact ⟨bool_of H.out.symm, 0, rfl⟩
 ·by_cases h2 : (m : Int) < (n : Int)
  ·have H := Lib.hid (apart_long (L := L) (m := m) (by omega))
   go_enter Try.func45, Try.ntmps45
   go_wp2
   go_ret
   exact ⟨bool_of H.out.symm, 0, rfl⟩
  ·have HL := Lib.hid hl
   clear hl
   go_enter Try.func45, Try.ntmps45
   go_wp2
   go_loopw [5] (fun i wr => ∃ k q : Nat, k ≤ n ∧ i = .int .i64 k ∧ wr = w.drewN q ∧ Hid (∀ s ∈ L.take k, nameP s) ∧ Hid ((L.take k).Nodup)) (fun i _ => n - (intOf i).toNat)
   case atStart => exact ⟨0, 0, Nat.zero_le _, rfl, rfl, Lib.hid (by simp), Lib.hid (by simp)⟩
   case round =>
    obtain ⟨k, q, hk, rfl, rfl, ht, hd⟩ := hrel
    by_cases hlt : k < n
    ·obtain ⟨b, o, x, rfl, hb, hc, ex⟩ := h.at_ hlt
     have i0 : (0 : Int) ≤ (k : Int) := by omega
     have i1 : (k : Int) < (n : Int) := by omega
     by_cases hx : nameP x
     ·have H := Lib.hid (mayP_step (by have := HL.out; omega) ex.out hx ht.out)
      have HX := Lib.hid hx
      clear hx
      go_wp2_with fail
      refine (refName_yes HX.out _).mono ?_
      rintro e v ⟨rfl, rfl⟩
      go_wp2_with fail
      go_loopw [7] (fun i wr => ∃ j p : Nat, j ≤ k ∧ i = .int .i64 j ∧ wr = w.drewN p ∧ Hid (∀ l, l < j → ¬ L.getD l [] = x)) (fun i _ => k - (intOf i).toNat)
      case atStart => exact ⟨0, q, Nat.zero_le _, rfl, rfl, Lib.hid fun l hl => absurd hl (by omega)⟩
      case round =>
       obtain ⟨j, p, hj, rfl, rfl, hne⟩ := hrel
       by_cases hjk : j < k
       ·obtain ⟨b2, o2, y, e2, hb2, hc2, ey⟩ := h.at_ (show j < n by omega)
        obtain ⟨rfl, rfl⟩ : b2 = b ∧ o2 = o := by simpa using e2.symm
        have j0 : (0 : Int) ≤ (j : Int) := by omega
        have j1 : (j : Int) < (n : Int) := by omega
        have j2 : (j : Int) < (k : Int) := by omega
        clear e2
        by_cases hyx : y = x
        ·have HA := Lib.hid (apart_same (m := m) (by have := HL.out; omega) hjk (hyx ▸ ey.out) ex.out)
         subst hyx
         have hyy : (y == y) = true := by simp
         go_wp2
         go_quiet (fail)
         go_wp2
         go_ret
         exact ⟨bool_of HA.out.symm, p + nq, World.drewN_drewN _ _ _⟩
        ·have hyy : (y == x) = false := by simp [hyx]
         have HN : Hid (∀ l, l < j + 1 → ¬ L.getD l [] = x) := Lib.hid fun l hl => by
          by_cases h : l < j
          ·exact hne.out l h
          ·obtain rfl : l = j := by omega
           rw [← ey.out]; exact hyx
         clear hyx
         go_wp2
         go_quiet (fail)
         go_wp2
         go_roundw
         case rel => exact ⟨j + 1, p + nq, by omega, by go_num, rfl, HN⟩
         case measure => simp [intOf]; omega
       ·obtain rfl : j = k := by omega
        have HD := Lib.hid (nodup_snoc (by have := HL.out; omega) ex.out hd.out hne.out)
        go_wp2_with fail
        go_roundw
        case rel => exact ⟨j + 1, p, by omega, by go_num, rfl, H, HD⟩
        case measure => simp [intOf]; omega
     ·have H := Lib.hid (apart_name (m := m) (by have := HL.out; omega) ex.out hx)
      have HX := Lib.hid hx
      clear hx
      go_wp2_with fail
      refine (refName_no HX.out _).mono ?_
      rintro e v ⟨rfl, rfl⟩
      go_wp2_with fail
      go_ret
      exact ⟨bool_of H.out.symm, q, rfl⟩
    ·have H := Lib.hid (apart_yes (m := m) (by have := HL.out; omega) (by have := HL.out; omega) (by have := HL.out; omega) ht.out hd.out)
     go_wp2
     go_ret
     exact ⟨bool_of H.out.symm, q, rfl⟩
end Go.Proofs.Ytmcccpbpijnbmaa
