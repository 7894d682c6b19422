/- NamesR -/
import Derived.Test.YtmcccpbpijnbmaaJ20
import Derived.Test.YtmcccpbpijnbmaaJ28
namespace Go.Proofs.Ytmcccpbpijnbmaa
set_option maxRecDepth 100000
open Go.RowKit

theorem refMay_yes {A : Option Addr} {n c B : Nat} {L : List Txt} {w : World} (h : HasT w B A n c L) (hm : mayP L) :
  Calls Try.prog 28 #[.slice A n c] w fun e w' => e = .returned (.bool true) ∧ w = w' := by
 have := refMay_any h
 rwa [decide_eq_true hm] at this
theorem refMay_no {A : Option Addr} {n c B : Nat} {L : List Txt} {w : World} (h : HasT w B A n c L) (hm : ¬ mayP L) :
  Calls Try.prog 28 #[.slice A n c] w fun e w' => e = .returned (.bool false) ∧ w = w' := by
 have := refMay_any h
 rwa [decide_eq_false hm] at this

/-! ### Text -/
theorem joinT_snoc : ∀ {L : List Txt} (x : Txt), L ≠ [] → joinT (L ++ [x]) = (joinT L ++ [47]) ++ x := by
 intro L
 induction L with
 | nil => intro x h; exact absurd rfl h
 | cons a p ih =>
  intro x _
  by_cases hp : p = []
  ·subst hp
   simp [joinT]
  ·rw [List.cons_append, joinT_cons a (by simp), joinT_cons a hp, ih x hp]
   simp
theorem join_first {L : List Txt} {x : Txt} (h : 0 < L.length) (hx : x = L.getD 0 []) : joinT (L.take (0 + 1)) = x := by
 rw [← takeT_snoc h hx]
 rfl
theorem join_next {L : List Txt} {k : Nat} {x t : Txt} (h : k < L.length) (h0 : 0 < k) (hx : x = L.getD k []) (ht : t = joinT (L.take k)) : joinT (L.take (k + 1)) = (t ++ [47]) ++ x := by
 rw [← takeT_snoc h hx, joinT_snoc x (by
  intro e
  have h1 : (L.take k).length = 0 := by rw [e]; rfl
  rw [List.length_take] at h1
  omega), ht]
theorem empty_app (x : Txt) : (⟨#[]⟩ : ByteArray) ++ ⟨x.toArray⟩ = ⟨x.toArray⟩ := ByteArray.mk_append_mk [] x
theorem mem_getD {L : List Txt} {k : Nat} {x : Txt} (h : k < L.length) (hx : x = L.getD k []) : x ∈ L := by
 rw [hx, List.getD_eq_getElem?_getD, List.getElem?_eq_getElem h]
 exact List.getElem_mem h

set_option maxRecDepth 100000 in
set_option maxHeartbeats 1000000 in
theorem refText_yes {A : Option Addr} {n c B : Nat} {L : List Txt} {w : World} (h : HasT w B A n c L) (hm : mayP L) :
  Calls Try.prog 43 #[.slice A n c] w fun e w' => e = .returned (.tuple #[.string ⟨(textP L).toArray⟩, .int .i64 0]) ∧ w = w' := by
 have hl := h.len
 have HM := Lib.hid hm
 by_cases hn : L = []
 ·subst hn
  obtain rfl : n = 0 := by simpa using hl.symm
  clear hl hm
  go_enter Try.func43, Try.ntmps43
  go_wp2_with fail
  refine (refMay_yes h HM.out).mono ?_
  rintro e v ⟨rfl, rfl⟩
  go_wp2_with fail
  go_ret2
  exact ⟨rfl, rfl⟩
 ·have hpos : 0 < n := by have := List.length_pos_iff.2 hn; omega
  have hn0 : ((n : Int) == 0) = false := by rw [beq_eq_false_iff_ne]; omega
  have hn3 : n ≤ 3 := by have := hm.1; omega
  have HN := Lib.hid (textP_ne hn)
  have HL := Lib.hid hl
  clear hl hm hn
  go_enter Try.func43, Try.ntmps43
  go_wp2_with fail
  refine (refMay_yes h HM.out).mono ?_
  rintro e v ⟨rfl, rfl⟩
  go_wp2_with fail
  go_loop [5, 6] (fun t i => ∃ (k : Nat) (x : Txt), k ≤ n ∧ i = .int .i64 k ∧ t = .string ⟨x.toArray⟩ ∧ x.length ≤ 13 * k ∧ Hid (x = joinT (L.take k))) (fun _ i => n - (intOf i).toNat)
  case atStart => exact ⟨0, [], Nat.zero_le _, rfl, rfl, Nat.zero_le _, Lib.hid rfl⟩
  case round =>
   obtain ⟨k, t, hk, rfl, rfl, htl, ht⟩ := hrel
   by_cases hlt : k < n
   ·obtain ⟨b, o, x, rfl, hb, hc, ex⟩ := h.at_ hlt
    have hxl : x.length ≤ 12 := (HM.out.2 x (mem_getD (by have := HL.out; omega) ex.out)).2.1
    by_cases h0 : k = 0
    ·subst h0
     have HJ := Lib.hid (join_first (by have := HL.out; omega) ex.out)
     obtain rfl : t = [] := List.eq_nil_of_length_eq_zero (by omega)
     have hc0 : w.cell? ⟨b, o, none⟩ = some (.string ⟨x.toArray⟩) := hc
     clear hc
     go_wp2
     go_round
     case rel => exact ⟨1, x, by omega, by go_num, by rw [empty_app], by omega, Lib.hid HJ.out.symm⟩
     case measure => simp [intOf]; omega
    ·have HJ := Lib.hid (join_next (by have := HL.out; omega) (by omega) ex.out ht.out)
     have h00 : (0 : Int) < (k : Int) := by omega
     have hsum : t.length + 1 + x.length ≤ 13 * (k + 1) := by omega
     go_wp2
     go_round
     case rel => exact ⟨k + 1, (t ++ [47]) ++ x, by omega, by go_num, by simp [ByteArray.mk_append_mk], by simp; omega, Lib.hid HJ.out.symm⟩
     case measure => simp [intOf]; omega
   ·have HJ : Hid (textP L = t) := Lib.hid (by rw [HN.out, ht.out, List.take_of_length_le (by have := HL.out; omega)])
    go_wp2
    go_ret2
    exact ⟨by rw [HJ.out]; rfl, rfl⟩
/-! ### Path -/
end Go.Proofs.Ytmcccpbpijnbmaa
