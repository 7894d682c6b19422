/- NamesQ, NamesP -/
import Derived.Test.YtmcccpbpijnbmaaDoorJ4
import Derived.Laws.RangeAny
import Derived.Test.YtmcccpbpijnbmaaDoorRows
import Derived.WalkLawsBesides
namespace Go.Proofs.YtmcccpbpijnbmaaDoor
set_option maxRecDepth 100000
open Go.RowKit

def standB (r : Int) : Bool := decide (97 ≤ r ∧ r ≤ 122 ∨ 48 ≤ r ∧ r ≤ 57 ∨ r = 45 ∨ r = 95)
theorem stand_any (r : Int) (w : World) : Calls Tryd.prog 74 #[.int .i32 r] w fun e w' => e = .returned (.bool (standB r)) ∧ w = w' := by
 by_cases h1 : 97 ≤ r ∧ r ≤ 122
 ·obtain ⟨h2, h3⟩ := h1
  have H : Hid (standB r = true) := Lib.hid (by unfold standB; simp; omega)
  go_enter Tryd.func74, Tryd.ntmps74
  go_wp2
  go_ret
  exact ⟨bool_of H.out.symm, rfl⟩
 ·by_cases h4 : 48 ≤ r ∧ r ≤ 57
  ·obtain ⟨h2, h3⟩ := h4
   have h5 : ¬ 97 ≤ r := by omega
   have H : Hid (standB r = true) := Lib.hid (by unfold standB; simp; omega)
   clear h1
   go_enter Tryd.func74, Tryd.ntmps74
   go_wp2
   go_ret
   exact ⟨bool_of H.out.symm, rfl⟩
  ·by_cases h5 : r = 45
   ·subst h5
    clear h1 h4
    go_enter Tryd.func74, Tryd.ntmps74
    go_wp2
    go_ret
    exact ⟨rfl, rfl⟩
   ·by_cases h6 : r = 95
    ·subst h6
     clear h1 h4 h5
     go_enter Tryd.func74, Tryd.ntmps74
     go_wp2
     go_ret
     exact ⟨rfl, rfl⟩
    ·have H : Hid (standB r = false) := Lib.hid (by unfold standB; simp; omega)
     have h7 : (r == 45) = false := by simp; omega
     have h8 : (r == 95) = false := by simp; omega
     clear h5 h6
     by_cases g1 : 97 ≤ r
     ·have g2 : ¬ r ≤ 122 := by omega
      have g3 : 48 ≤ r := by omega
      have g4 : ¬ r ≤ 57 := by omega
      clear h1 h4
      go_enter Tryd.func74, Tryd.ntmps74
      go_wp2
      go_ret
      exact ⟨bool_of H.out.symm, rfl⟩
     ·by_cases g3 : 48 ≤ r
      ·have g4 : ¬ r ≤ 57 := by omega
       clear h1 h4
       go_enter Tryd.func74, Tryd.ntmps74
       go_wp2
       go_ret
       exact ⟨bool_of H.out.symm, rfl⟩
      ·clear h1 h4
       go_enter Tryd.func74, Tryd.ntmps74
       go_wp2
       go_ret
       exact ⟨bool_of H.out.symm, rfl⟩
theorem standB_let (b : UInt8) : standB (b.toNat : Int) = isLet b := by
 unfold standB isLet
 rw [Bool.eq_iff_iff]
 simp only [decide_eq_true_eq, Bool.or_eq_true, Bool.and_eq_true, beq_iff_eq, UInt8.le_iff_toNat_le, ← UInt8.toNat_inj]
 have : (97 : UInt8).toNat = 97 := rfl
 have : (122 : UInt8).toNat = 122 := rfl
 have : (48 : UInt8).toNat = 48 := rfl
 have : (57 : UInt8).toNat = 57 := rfl
 have : (45 : UInt8).toNat = 45 := rfl
 have : (95 : UInt8).toNat = 95 := rfl
 omega
theorem isLet_low {b : UInt8} (h : isLet b = true) : b.toNat < 128 := by
 rw [← standB_let] at h
 unfold standB at h
 simp at h
 omega
theorem standB_high {r : Nat} (h : 128 ≤ r) : standB (r : Int) = false := by
 unfold standB
 simp
 omega
theorem getElem_data (s : ByteArray) {p : Nat} (h : p < s.size) : s.data.toList[p]'(by simpa using h) = s[p]'h := by simp [ByteArray.getElem_eq_getElem_data]
theorem nameP_step {s : ByteArray} {p : Nat} (h : p < s.size) (ht : ∀ b ∈ s.data.toList.take p, isLet b = true) (hb : isLet (s[p]'h) = true) : ∀ b ∈ s.data.toList.take (p + 1), isLet b = true := by
 rw [List.take_succ_eq_append_getElem (by simpa using h), getElem_data s h]
 intro b hm
 rcases List.mem_append.1 hm with hm | hm
 ·exact ht b hm
 ·rw [List.mem_singleton.1 hm]; exact hb
theorem nameP_not {s : ByteArray} {p : Nat} (h : p < s.size) (hb : isLet (s[p]'h) = false) : decide (nameP s.data.toList) = false := by
 rw [decide_eq_false_iff_not]
 intro hn
 have := hn.2.2 (s[p]'h) (by rw [← getElem_data s h]; exact List.getElem_mem _)
 rw [hb] at this
 cases this
theorem nameP_all {s : ByteArray} {p : Nat} (h : ¬ p < s.size) (h1 : 1 ≤ s.size) (h2 : s.size ≤ 12) (ht : ∀ b ∈ s.data.toList.take p, isLet b = true) : decide (nameP s.data.toList) = true := by
 rw [decide_eq_true_eq]
 have hl : s.data.toList.length = s.size := by simp
 refine ⟨by omega, by omega, ?_⟩
 rwa [List.take_of_length_le (by omega)] at ht

theorem below_iter (w : World) (s : ByteArray) (pos : Nat) : Below w.heap.size w (w.iter s pos) := (Below.refl _ _).alloc (Nat.le_refl _) _

set_option maxRecDepth 100000 in
set_option maxHeartbeats 1000000 in
theorem nameS_any (s : ByteArray) (w : World) : Calls Tryd.prog 63 #[.string s] w fun e w' => e = .returned (.bool (decide (nameP s.data.toList))) ∧ Below w.heap.size w w' := by
 have hl : s.data.toList.length = s.size := by simp
 by_cases h0 : s.size = 0
 ·have H : Hid (decide (nameP s.data.toList) = false) := Lib.hid (by rw [decide_eq_false_iff_not]; intro h; have := h.1; omega)
  have hs : s.toList.isEmpty = true := by rw [ByteArray.toList_eq, List.isEmpty_iff]; exact List.eq_nil_of_length_eq_zero (by omega)
  have hs2 : s.toList = [] := List.isEmpty_iff.1 hs
  clear h0 hl
  go_enter Tryd.func63, Tryd.ntmps63
  go_wp2
  go_ret
  exact ⟨bool_of H.out.symm, Below.refl _ _⟩
 ·have hs : s.toList.isEmpty = false := by rw [ByteArray.toList_eq, List.isEmpty_eq_false_iff]; intro e; rw [e] at hl; simp at hl; omega
  have hs2 : (s.toList == []) = false := by rw [beq_eq_false_iff_ne]; intro e; rw [e] at hs; cases hs
  by_cases h12 : 12 < s.size
  ·have H : Hid (decide (nameP s.data.toList) = false) := Lib.hid (by rw [decide_eq_false_iff_not]; intro h; have := h.2.1; omega)
   clear h0 hl
   go_enter Tryd.func63, Tryd.ntmps63
   go_wp2
   go_ret
   exact ⟨bool_of H.out.symm, Below.refl _ _⟩
  ·clear hl
   go_enter Tryd.func63, Tryd.ntmps63
   go_wp2
   go_loopw [4] (fun _ wr => ∃ pos : Nat, wr = w.iter s pos ∧ Hid (∀ b ∈ s.data.toList.take pos, isLet b = true)) (fun _ wr => s.size - wr.iterPos w.heap.size)
   case atStart => exact ⟨0, rfl, Lib.hid (by simp)⟩
   case round =>
    obtain ⟨pos, rfl, ht⟩ := hrel
    have HB : Below w.heap.size w (w.iter s pos) := below_iter w s pos
    by_cases hp : pos < s.size
    ·by_cases ha : (s[pos]'hp).toNat < 128
     ·have hnx : ∀ ty, (Instr.next (.pointer (some ⟨w.heap.size, 0, none⟩)) true ty).run Tryd.prog (w.iter s pos) = _ := fun ty => run_next_ascii w s pos ty hp ha
      cases hb : isLet (s[pos]'hp) with
      | true =>
       have H := Lib.hid (nameP_step hp ht.out hb)
       have hst : standB ((s[pos]'hp).toNat : Int) = true := (standB_let _).trans hb
       clear hb
       go_wp2_with (go_at_call 74; refine (stand_any _ _).mono ?_; rintro e w' ⟨rfl, rfl⟩)
       go_roundw
       case rel => exact ⟨pos + 1, rfl, H⟩
       case measure => simp; omega
      | false =>
       have H := Lib.hid (nameP_not hp hb)
       have hst : standB ((s[pos]'hp).toNat : Int) = false := (standB_let _).trans hb
       clear hb
       go_wp2_with (go_at_call 74; refine (stand_any _ _).mono ?_; rintro e w' ⟨rfl, rfl⟩)
       go_ret
       exact ⟨bool_of H.out.symm, below_iter w s (pos + 1)⟩
     ·have hnx : ∀ ty, (Instr.next (.pointer (some ⟨w.heap.size, 0, none⟩)) true ty).run Tryd.prog (w.iter s pos) = _ := fun ty => run_next_any w s pos ty hp
      have hb : isLet (s[pos]'hp) = false := by
       cases hb : isLet (s[pos]'hp) with
       | true => exact absurd (isLet_low hb) ha
       | false => rfl
      have H := Lib.hid (nameP_not hp hb)
      have hd := (decode_high s pos hp (by omega)).1
      have hst : standB ((Utf8.decode s pos).1 : Int) = false := standB_high hd
      clear hb
      go_wp2_with (go_at_call 74; refine (stand_any _ _).mono ?_; rintro e w' ⟨rfl, rfl⟩)
      go_ret
      exact ⟨bool_of H.out.symm, below_iter w s _⟩
    ·have hnx : ∀ ty, (Instr.next (.pointer (some ⟨w.heap.size, 0, none⟩)) true ty).run Tryd.prog (w.iter s pos) = _ := fun ty => run_next_end w s pos ty hp
     have H := Lib.hid (nameP_all hp (by omega) (by omega) ht.out)
     go_wp2
     go_ret
     exact ⟨bool_of H.out.symm, HB⟩
theorem name_any (x : Txt) (w : World) : Calls Tryd.prog 63 #[.string ⟨x.toArray⟩] w fun e w' => e = .returned (.bool (decide (nameP x))) ∧ Below w.heap.size w w' := by
 have := nameS_any ⟨x.toArray⟩ w
 simpa using this
end Go.Proofs.YtmcccpbpijnbmaaDoor
namespace Go.Proofs.YtmcccpbpijnbmaaDoor
set_option maxRecDepth 100000
open Go.RowKit

theorem name_yes {x : Txt} (h : nameP x) (w : World) : Calls Tryd.prog 63 #[.string ⟨x.toArray⟩] w fun e w' => e = .returned (.bool true) ∧ Below w.heap.size w w' := by
 have := name_any x w
 rwa [decide_eq_true h] at this
theorem name_no {x : Txt} (h : ¬ nameP x) (w : World) : Calls Tryd.prog 63 #[.string ⟨x.toArray⟩] w fun e w' => e = .returned (.bool false) ∧ Below w.heap.size w w' := by
 have := name_any x w
 rwa [decide_eq_false h] at this
theorem mayP_step {L : List Txt} {k : Nat} {x : Txt} (hk : k < L.length) (hx : x = L.getD k []) (h : nameP x) (ht : ∀ s ∈ L.take k, nameP s) : ∀ s ∈ L.take (k + 1), nameP s := by
 rw [List.take_succ_eq_append_getElem hk]
 intro s hs
 rcases List.mem_append.1 hs with hs | hs
 ·exact ht s hs
 ·rw [List.mem_singleton.1 hs]
  simpa [hx, List.getD_eq_getElem?_getD, List.getElem?_eq_getElem hk] using h
theorem mayP_not {L : List Txt} {k : Nat} {x : Txt} (hk : k < L.length) (hx : x = L.getD k []) (h : ¬ nameP x) : decide (mayP L) = false := by
 rw [decide_eq_false_iff_not]
 intro hm
 refine h (hm.2 x ?_)
 rw [hx, List.getD_eq_getElem?_getD, List.getElem?_eq_getElem hk]
 exact List.getElem_mem hk
theorem mayP_all {L : List Txt} {k : Nat} (hk : L.length ≤ k) (h3 : L.length ≤ 3) (ht : ∀ s ∈ L.take k, nameP s) : decide (mayP L) = true := by
 rw [decide_eq_true_eq]
 rw [List.take_of_length_le hk] at ht
 exact ⟨h3, ht⟩
theorem mayP_long {L : List Txt} (h3 : 3 < L.length) : decide (mayP L) = false := by
 rw [decide_eq_false_iff_not]
 intro h
 have := h.1
 omega

set_option maxRecDepth 100000 in
set_option maxHeartbeats 1000000 in
theorem may_any {A : Option Addr} {n c : Nat} {L : List Txt} {w : World} (h : HasT w w.heap.size A n c L) :
  Calls Tryd.prog 61 #[.slice A n c] w fun e w' => e = .returned (.bool (decide (mayP L))) ∧ Below w.heap.size w w' := by
 have hl := h.len
 have hn := h.lenMax
 by_cases h3 : 3 < n
 ·have H := Lib.hid (mayP_long (L := L) (by omega))
  have h3' : (3 : Int) < (n : Int) := by omega
  clear hl
  go_enter Tryd.func61, Tryd.ntmps61
  go_wp2
  go_ret
  exact ⟨bool_of H.out.symm, Below.refl _ _⟩
 ·have h3' : ¬ (3 : Int) < (n : Int) := by omega
  have HL := Lib.hid hl
  clear hl
  go_enter Tryd.func61, Tryd.ntmps61
  go_wp2
  go_loopw [10] (fun i wr => ∃ k : Nat, k ≤ n ∧ i = .int .i64 k ∧ Below w.heap.size w wr ∧ Hid (∀ s ∈ L.take k, nameP s)) (fun i _ => n - (intOf i).toNat)
  case atStart => exact ⟨0, Nat.zero_le _, rfl, Below.refl _ _, Lib.hid (by simp)⟩
  case round =>
   obtain ⟨k, hk, rfl, hB, ht⟩ := hrel
   by_cases hlt : k < n
   ·obtain ⟨b, o, x, rfl, hb, hc, ex⟩ := (h.below hB (Nat.le_refl _)).at_ hlt
    by_cases hx : nameP x
    ·have H := Lib.hid (mayP_step (by have := HL.out; omega) ex.out hx ht.out)
     have HX := Lib.hid hx
     clear hx
     go_wp2_with fail
     refine (name_yes HX.out _).mono ?_
     rintro e v ⟨rfl, hb1⟩
     have hB2 := hB.trans (hb1.mono hB.size)
     go_wp2_with fail
     go_roundw
     case rel => exact ⟨k + 1, by omega, by go_num, hB2, H⟩
     case measure => simp [intOf]; omega
    ·have H := Lib.hid (mayP_not (by have := HL.out; omega) ex.out hx)
     have HX := Lib.hid hx
     clear hx
     go_wp2_with fail
     refine (name_no HX.out _).mono ?_
     rintro e v ⟨rfl, hb1⟩
     have hB2 := hB.trans (hb1.mono hB.size)
     go_wp2_with fail
     go_ret
     exact ⟨bool_of H.out.symm, hB2⟩
   ·have H := Lib.hid (mayP_all (by have := HL.out; omega) (by have := HL.out; omega) ht.out)
    go_wp2
    go_ret
    exact ⟨bool_of H.out.symm, hB⟩

/-! ### The reference's -/
theorem isLet_eq (b : UInt8) : isLet b = decide (97 ≤ (b.toNat : Int) ∧ (b.toNat : Int) ≤ 122 ∨ 48 ≤ (b.toNat : Int) ∧ (b.toNat : Int) ≤ 57 ∨ (b.toNat : Int) = 45 ∨ (b.toNat : Int) = 95) := (standB_let b).symm

set_option maxRecDepth 100000 in
set_option maxHeartbeats 1000000 in
theorem refNameS_any (s : ByteArray) (w : World) : Calls Tryd.prog 58 #[.string s] w fun e w' => e = .returned (.bool (decide (nameP s.data.toList))) ∧ w = w' := by
 have hl : s.data.toList.length = s.size := by simp
 by_cases h0 : s.size = 0
 ·have H : Hid (decide (nameP s.data.toList) = false) := Lib.hid (by rw [decide_eq_false_iff_not]; intro h; have := h.1; omega)
  have h1 : (s.size : Int) < 1 := by omega
  clear h0 hl
  go_enter Tryd.func58, Tryd.ntmps58
  go_wp2
  go_ret
  exact ⟨bool_of H.out.symm, rfl⟩
 ·have h1 : ¬ (s.size : Int) < 1 := by omega
  by_cases h12 : 12 < s.size
  ·have H : Hid (decide (nameP s.data.toList) = false) := Lib.hid (by rw [decide_eq_false_iff_not]; intro h; have := h.2.1; omega)
   have h2 : (12 : Int) < (s.size : Int) := by omega
   clear h0 hl
   go_enter Tryd.func58, Tryd.ntmps58
   go_wp2
   go_ret
   exact ⟨bool_of H.out.symm, rfl⟩
  ·have h2 : ¬ (12 : Int) < (s.size : Int) := by omega
   clear hl
   go_enter Tryd.func58, Tryd.ntmps58
   go_wp2
   go_loop [3] (fun i => ∃ k : Nat, k ≤ s.size ∧ i = .int .i64 k ∧ Hid (∀ b ∈ s.data.toList.take k, isLet b = true)) (fun i => s.size - (intOf i).toNat)
   case atStart => exact ⟨0, Nat.zero_le _, rfl, Lib.hid (by simp)⟩
   case round =>
    obtain ⟨k, hk, rfl, ht⟩ := hrel
    by_cases hp : k < s.size
    ·obtain ⟨x, hx⟩ : ∃ x : Nat, s[k].toNat = x := ⟨_, rfl⟩
     have hq := Lib.hid hx
     by_cases hyes : 97 ≤ (x : Int) ∧ (x : Int) ≤ 122 ∨ 48 ≤ (x : Int) ∧ (x : Int) ≤ 57 ∨ (x : Int) = 45 ∨ (x : Int) = 95
     ·have hb : isLet (s[k]'hp) = true := by rw [isLet_eq, hx, decide_eq_true hyes]
      have H := Lib.hid (nameP_step hp ht.out hb)
      clear hb
      rcases hyes with ⟨g1, g2⟩ | ⟨g1, g2⟩ | g1 | g1
      ·go_wp2
       go_round
       case rel => exact ⟨k + 1, by omega, by go_num, H⟩
       case measure => simp [intOf]; omega
      ·have g3 : ¬ 97 ≤ (x : Int) := by omega
       go_wp2
       go_round
       case rel => exact ⟨k + 1, by omega, by go_num, H⟩
       case measure => simp [intOf]; omega
      ·obtain rfl : x = 45 := by omega
       clear g1
       go_wp2
       go_round
       case rel => exact ⟨k + 1, by omega, by go_num, H⟩
       case measure => simp [intOf]; omega
      ·obtain rfl : x = 95 := by omega
       clear g1
       go_wp2
       go_round
       case rel => exact ⟨k + 1, by omega, by go_num, H⟩
       case measure => simp [intOf]; omega
     ·have hb : isLet (s[k]'hp) = false := by rw [isLet_eq, hx, decide_eq_false hyes]
      have H := Lib.hid (nameP_not hp hb)
      have g7 : ((x : Int) != 45) = true := by simp; omega
      have g8 : ((x : Int) != 95) = true := by simp; omega
      clear hb
      by_cases g1 : 97 ≤ (x : Int)
      ·have g2 : ¬ (x : Int) ≤ 122 := by omega
       have g3 : 48 ≤ (x : Int) := by omega
       have g4 : ¬ (x : Int) ≤ 57 := by omega
       clear hyes
       go_wp2
       go_ret
       exact ⟨bool_of H.out.symm, rfl⟩
      ·by_cases g3 : 48 ≤ (x : Int)
       ·have g4 : ¬ (x : Int) ≤ 57 := by omega
        clear hyes
        go_wp2
        go_ret
        exact ⟨bool_of H.out.symm, rfl⟩
       ·clear hyes
        go_wp2
        go_ret
        exact ⟨bool_of H.out.symm, rfl⟩
    ·have H := Lib.hid (nameP_all hp (by omega) (by omega) ht.out)
     go_wp2
     go_ret
     exact ⟨bool_of H.out.symm, rfl⟩
theorem refName_any (x : Txt) (w : World) : Calls Tryd.prog 58 #[.string ⟨x.toArray⟩] w fun e w' => e = .returned (.bool (decide (nameP x))) ∧ w = w' := by
 have := refNameS_any ⟨x.toArray⟩ w
 simpa using this
theorem refName_yes {x : Txt} (h : nameP x) (w : World) : Calls Tryd.prog 58 #[.string ⟨x.toArray⟩] w fun e w' => e = .returned (.bool true) ∧ w = w' := by
 have := refName_any x w
 rwa [decide_eq_true h] at this
theorem refName_no {x : Txt} (h : ¬ nameP x) (w : World) : Calls Tryd.prog 58 #[.string ⟨x.toArray⟩] w fun e w' => e = .returned (.bool false) ∧ w = w' := by
 have := refName_any x w
 rwa [decide_eq_false h] at this

set_option maxRecDepth 100000 in
set_option maxHeartbeats 1000000 in
theorem refMay_any {A : Option Addr} {n c B : Nat} {L : List Txt} {w : World} (h : HasT w B A n c L) :
  Calls Tryd.prog 39 #[.slice A n c] w fun e w' => e = .returned (.bool (decide (mayP L))) ∧ w = w' := by
 have hl := h.len
 have hn := h.lenMax
 by_cases h3 : 3 < n
 ·have H := Lib.hid (mayP_long (L := L) (by omega))
  have h3' : (3 : Int) < (n : Int) := by omega
  clear hl
  go_enter Tryd.func39, Tryd.ntmps39
  go_wp2
  go_ret
  exact ⟨bool_of H.out.symm, rfl⟩
 ·have h3' : ¬ (3 : Int) < (n : Int) := by omega
  have HL := Lib.hid hl
  clear hl
  go_enter Tryd.func39, Tryd.ntmps39
  go_wp2
  go_loop [3] (fun i => ∃ k : Nat, k ≤ n ∧ i = .int .i64 k ∧ Hid (∀ s ∈ L.take k, nameP s)) (fun i => n - (intOf i).toNat)
  case atStart => exact ⟨0, Nat.zero_le _, rfl, Lib.hid (by simp)⟩
  case round =>
   obtain ⟨k, hk, rfl, ht⟩ := hrel
   by_cases hlt : k < n
   ·obtain ⟨b, o, x, rfl, hb, hc, ex⟩ := h.at_ hlt
    by_cases hx : nameP x
    ·have H := Lib.hid (mayP_step (by have := HL.out; omega) ex.out hx ht.out)
     have HX := Lib.hid hx
     clear hx
     go_wp2_with fail
     refine (refName_yes HX.out _).mono ?_
     rintro e v ⟨rfl, rfl⟩
     go_wp2_with fail
     go_round
     case rel => exact ⟨k + 1, by omega, by go_num, H⟩
     case measure => simp [intOf]; omega
    ·have H := Lib.hid (mayP_not (by have := HL.out; omega) ex.out hx)
     have HX := Lib.hid hx
     clear hx
     go_wp2_with fail
     refine (refName_no HX.out _).mono ?_
     rintro e v ⟨rfl, rfl⟩
     go_wp2_with fail
     go_ret
     exact ⟨bool_of H.out.symm, rfl⟩
   ·have H := Lib.hid (mayP_all (by have := HL.out; omega) (by have := HL.out; omega) ht.out)
    go_wp2
    go_ret
    exact ⟨bool_of H.out.symm, rfl⟩
end Go.Proofs.YtmcccpbpijnbmaaDoor
