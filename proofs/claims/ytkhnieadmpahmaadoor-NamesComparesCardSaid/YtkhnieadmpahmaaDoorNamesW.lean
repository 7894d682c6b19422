/- Layer 6: the answers of both, with letters for what they are. -/
import Derived.Test.YtkhnieadmpahmaaDoorNamesL
import Derived.Test.YtkhnieadmpahmaaDoorNamesR
namespace Go.Proofs.YtkhnieadmpahmaaDoor
open Go.RowKit

section
variable {A A' : Option Addr} {n c n' c' B B' : Nat} {L L' : List Txt} {w : World} {x : Int} {b : Bool}
theorem cmp_is (hx : Hid (cmpP L L' = x)) (hr : HasT w B A n c L) (hr' : HasT w B' A' n' c' L') :
    Calls Tryd.prog 22 #[.slice A n c, .slice A' n' c'] w fun e w' => e = .returned (.int .i64 x) ∧ w = w' := by
  have := cmpT_any hr hr'
  rwa [hx.out] at this
theorem refCmp_is (hx : Hid (cmpP L L' = x)) (hr : HasT w B A n c L) (hr' : HasT w B' A' n' c' L') :
    Calls Tryd.prog 23 #[.slice A n c, .slice A' n' c'] w fun e w' => e = .returned (.int .i64 x) ∧ ∃ k, w' = w.drewN k := by
  have := refCmp_any hr hr'
  rwa [hx.out] at this
theorem same_is (hb : Hid (decide (L = L') = b)) (hr : HasT w B A n c L) (hr' : HasT w B' A' n' c' L') :
    Calls Tryd.prog 19 #[.slice A n c, .slice A' n' c'] w fun e w' => e = .returned (.bool b) ∧ ∃ k, w' = w.drewN k := by
  have := sameT_any hr hr'
  rwa [hb.out] at this
theorem under_is (hb : Hid (decide (underP L L') = b)) (hr : HasT w B A n c L) (hr' : HasT w B' A' n' c' L') :
    Calls Tryd.prog 24 #[.slice A n c, .slice A' n' c'] w fun e w' => e = .returned (.bool b) ∧ ∃ k, w' = w.drewN k := by
  have := under_any hr hr'
  rwa [hb.out] at this
theorem refUnder_is (hb : Hid (decide (underP L L') = b)) (hr : HasT w B A n c L) (hr' : HasT w B' A' n' c' L') :
    Calls Tryd.prog 25 #[.slice A n c, .slice A' n' c'] w fun e w' => e = .returned (.bool b) ∧ ∃ k, w' = w.drewN k := by
  have := refUnder_any hr hr'
  rwa [hb.out] at this
theorem may_is (hb : Hid (decide (mayP L) = b)) (hr : HasT w w.heap.size A n c L) :
    Calls Tryd.prog 14 #[.slice A n c] w fun e w' => e = .returned (.bool b) ∧ Below w.heap.size w w' := by
  have := may_any hr
  rwa [hb.out] at this
theorem refMay_is (hb : Hid (decide (mayP L) = b)) (hr : HasT w B A n c L) :
    Calls Tryd.prog 15 #[.slice A n c] w fun e w' => e = .returned (.bool b) ∧ w = w' := by
  have := refMay_any hr
  rwa [hb.out] at this
theorem nameS_is {s : ByteArray} (hb : Hid (decide (nameP s.data.toList) = b)) :
    Calls Tryd.prog 12 #[.string s] w fun e w' => e = .returned (.bool b) ∧ Below w.heap.size w w' := by
  have := nameS_any s w
  rwa [hb.out] at this
theorem refNameS_is {s : ByteArray} (hb : Hid (decide (nameP s.data.toList) = b)) :
    Calls Tryd.prog 13 #[.string s] w fun e w' => e = .returned (.bool b) ∧ w = w' := by
  have := refNameS_any s w
  rwa [hb.out] at this
end

/-- The order, of three lists. -/
theorem order_facts (P Q R : List Txt) : ∃ (x y z u : Int) (b : Bool), Hid (cmpP P Q = x) ∧ Hid (cmpP Q P = y) ∧ Hid (cmpP Q R = z) ∧ Hid (cmpP P R = u) ∧ Hid (decide (P = Q) = b) ∧
    (x = -1 ∧ y = 1 ∧ b = false ∨ x = 0 ∧ y = 0 ∧ b = true ∨ x = 1 ∧ y = -1 ∧ b = false) ∧ Hid (x ≤ 0 → z ≤ 0 → u ≤ 0) := by
  refine ⟨_, _, _, _, _, Lib.hid rfl, Lib.hid rfl, Lib.hid rfl, Lib.hid rfl, Lib.hid rfl, ?_, Lib.hid (cmpP_trans P Q R)⟩
  have h1 := cmpP_neg P Q
  have h2 := cmpP_zero P Q
  rcases cmpP_range P Q with h | h | h
  · have h3 : ¬ P = Q := fun e => by have := h2.2 e; omega
    exact .inl ⟨h, by omega, decide_eq_false h3⟩
  · exact .inr (.inl ⟨h, by omega, decide_eq_true (h2.1 h)⟩)
  · have h3 : ¬ P = Q := fun e => by have := h2.2 e; omega
    exact .inr (.inr ⟨h, by omega, decide_eq_false h3⟩)
theorem textP_length {L : List Txt} (h : mayP L) : (textP L).length ≤ 39 := by
  unfold textP
  split
  · simp
  · exact mayP_join h
end Go.Proofs.YtkhnieadmpahmaaDoor
