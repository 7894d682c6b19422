/- Layer 7's statements: Add, said of both dictionaries at once. -/
import Derived.Test.YtccdjjpkcahgfaaDictH
namespace Go.Proofs.Ytccdjjpkcahgfaa
open Go.RowKit

theorem HasTs.take_ {w : World} {A : Option Addr} {n c : Nat} {L : List Pth} (h : HasTs w A n c L) (k : Nat) (hk : k ≤ n) : HasTs w A k c (L.take k) :=
  ⟨by rw [List.length_take, h.len]; omega, Nat.le_trans hk h.cap, h.fit, h.void, fun i q hi => by
    rw [List.getElem?_take] at hi
    split at hi
    · exact h.has i q hi
    · cases hi⟩
/-- The last code is the path's own. -/
theorem addC_last {n : Nat} {Q : List Pth} {p : Pth} (h : Good n Q) (ho : addOk n Q p) : (addC n Q p).length = n ∧ (addC n Q p).getD (n - 1) 0 = ((fnd (addQ n Q p) p : Nat) : Int) ∧ codeA (addQ n Q p) p = (fnd (addQ n Q p) p, 0) := by
  obtain ⟨e1, e2, _⟩ := add_ok ho.1 ho.2
  have hn := h.lv.1
  have hp : p.length = n := ho.1.1
  have hne : p ≠ [] := fun e => by rw [e] at hp; simp at hp; omega
  refine ⟨by rw [e2, List.length_map, pres_len, hp], ?_, ?_⟩
  · rw [e2, e1]
    have hg := pres_get (p := p) (i := n - 1) (by omega)
    rw [Nat.sub_add_cancel hn, ← hp, List.take_length, hp] at hg
    rw [List.getD_eq_getElem?_getD, List.getElem?_map, hg]
    rfl
  · unfold codeA
    rw [if_pos ho.1.2, if_neg hne, if_pos (add_there h ho)]
theorem addE_no {n : Nat} {Q : List Pth} {p : Pth} (ho : ¬ addOk n Q p) : addE n Q p ≠ 0 := by
  unfold addE
  rw [if_neg ho]
  split <;> decide
/-- The program's Add, with its error as a letter. -/
theorem add_is {w : World} {base g : Nat} {pv : Value} {bm n : Nat} {Q : List Pth} (h : Dc w base g pv bm n Q) {A : Option Addr} {m c : Nat} {p : Pth} (hp : HasT w w.heap.size A m c p) (hfar : 0 < m → ∀ ad, A = some ad → ¬ foot g pv bm ad.block) {x : Int} (hx : Hid (((addE n Q p : Nat) : Int) = x)) :
    Calls Try.prog 21 #[.pointer (some ⟨g, 0, none⟩), .slice A m c] w fun y w' => ∃ v pv', y = .returned (.tuple #[v, .int .i64 x]) ∧ TellI w' w.heap.size v (addC n Q p) ∧ Dc w' base g pv' bm n (addQ n Q p) ∧ Chg (foot g pv bm) w w' := by
  refine (add_any h hp hfar).mono ?_
  rintro y w' ⟨v, pv', rfl, h1, h2, h3, _⟩
  exact ⟨v, pv', by rw [hx.out], h1, h2, h3⟩
theorem refAdd_is {w : World} {base r n : Nat} {Lv : Value} {Q : List Pth} (h : Rf w base r n Lv Q) {A : Option Addr} {m c : Nat} {p : Pth} (hp : HasT w w.heap.size A m c p) (hfar : 0 < m → ∀ ad, A = some ad → ¬ footR r Lv ad.block) {x : Int} (hx : Hid (((addE n Q p : Nat) : Int) = x)) :
    Calls Try.prog 22 #[.pointer (some ⟨r, 0, none⟩), .slice A m c] w fun y w' => ∃ v Lv', y = .returned (.tuple #[v, .int .i64 x]) ∧ OwnI w' w.heap.size v (addC n Q p) ∧ Rf w' base r n Lv' (addQ n Q p) ∧ Chg (footR r Lv) w w' := by
  refine (refAdd_any h hp hfar).mono ?_
  rintro y w' ⟨v, Lv', rfl, h1, h2, h3, _⟩
  exact ⟨v, Lv', by rw [hx.out], h1, h2, h3⟩
/-- What lies below is none of what lies above. -/
theorem HasT.far {w : World} {B m c : Nat} {A : Option Addr} {q : Pth} (h : HasT w B A m c q) (S : Nat → Prop) (hS : ∀ k, S k → B ≤ k) : 0 < m → ∀ ad, A = some ad → ¬ S ad.block := fun hm ad e hs => by
  obtain ⟨b', o', e', hb', _⟩ := h.has (by rw [List.length_map, h.len]; exact hm)
  rw [e'] at e
  injection e with e
  subst e
  have := hS _ hs
  simp at this
  omega
theorem HasI.below_ {w w' : World} {A : Option Addr} {m c : Nat} {l : List Int} (h : HasI w w.heap.size A m c l) (hb : Below w.heap.size w w') : HasI w' w'.heap.size A m c l := h.belowS hb
end Go.Proofs.Ytccdjjpkcahgfaa
