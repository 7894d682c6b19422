/- Bel, Same -/
import Derived.Test.YteifhgcjmjihgaaJ2
import Derived.Test.YteifhgcjmjihgaaJ3
import Derived.BigQuiet
import Derived.Deep.QuietTactic
import Derived.Test.YteifhgcjmjihgaaRows
namespace Go.Proofs.Yteifhgcjmjihgaa
set_option maxRecDepth 100000
open Go.RowKit

/-! ### A region that draws its order, reads, and calls what only makes memory: one walk -/
/-- A world in which all that lay in W lies unturned. -/
structure Bel (W : World) where
  w : World
  b : Below W.heap.size W w
instance (W : World) : Nonempty (Bel W) := ⟨⟨W, Below.refl _ _⟩⟩
theorem wp_region_below {P : Program} {id : Nat} {Q : Exit → Act → World → Prop} {a : Act} {W : World} {l : List Oper} (hm : P.follows .mixedOrders = true) (hB : Region.lexB .any l.toArray = true)
    (h : wpQuiet P l.toArray (fun w' => ∃ y : Bel W, w' = y.w) (fun a' => ∀ w', (∃ y : Bel W, w' = y.w) → Q .normal a' w') l a) : (Code.region id l.toArray true).wp P Q a W :=
  wp_region_quiet (C := fun w' => ∃ y : Bel W, w' = y.w) hm hB ⟨⟨_, Below.drew (Below.refl _ _)⟩, rfl⟩ (by simpa using h)
theorem Bel.cell {W : World} (y : Bel W) {b o : Nat} {v : Value} (h : W.cell? ⟨b, o, none⟩ = some v) : y.w.cell? ⟨b, o, none⟩ = some v :=
  (y.b.cell (p := ⟨b, o, none⟩) (World.block_lt_of_cell? W _ h)).trans h
theorem Bel.calls {P : Program} {f : FuncId} {args : Array Value} {v : Value} {W : World} (y : Bel W) (h : ∀ w, Below W.heap.size W w → Calls P f args w fun e w' => e = .returned v ∧ Below w.heap.size w w') :
    Calls P f args y.w fun e w'' => e = .returned v ∧ ∃ z : Bel W, w'' = z.w :=
  (h y.w y.b).mono fun _ w' ⟨he, hb⟩ => ⟨he, ⟨w', below_then y.b hb⟩, rfl⟩

end Go.Proofs.Yteifhgcjmjihgaa
namespace Go.Proofs.Yteifhgcjmjihgaa
set_option maxRecDepth 100000
open Go.RowKit

theorem take_same {l l' : List UInt8} {k : Nat} (h : l.take k = l'.take k) (hk : k < l.length) (hk' : k < l'.length) (e : (l.getD k 0).toNat = (l'.getD k 0).toNat) : l.take (k + 1) = l'.take (k + 1) := by
  rw [List.take_succ_eq_append_getElem hk, List.take_succ_eq_append_getElem hk', h]
  have e' := UInt8.toNat_inj.1 e
  simp only [List.getD_eq_getElem?_getD, List.getElem?_eq_getElem hk, List.getElem?_eq_getElem hk', Option.getD_some] at e'
  rw [e']

/-- The reference's Same. -/
theorem same_any (A A' : Option Addr) (n c n' c' : Nat) (l l' : List UInt8) (w : World) (B B' : Nat) (hr : HasB w B A n c l) (hr' : HasB w B' A' n' c' l') :
    Calls Try.prog 9 #[.slice A n c, .slice A' n' c'] w fun e w' => e = .returned (.bool (l == l')) ∧ ∃ k, w' = w.drewN k := by
  have hn := hr.lenMax
  have hll := hr.len
  have hll' := hr'.len
  by_cases h : n = n'
  · subst h
    have hne : ((n : Int) != (n : Int)) = false := by simp
    go_enter Try.func9, Try.ntmps9
    go_wp2
    clear hne
    go_loopw [5] (fun i wr => ∃ k q : Nat, k ≤ n ∧ i = .int .i64 k ∧ wr = w.drewN q ∧ Hid (l.take k = l'.take k)) (fun i _ => n - (intOf i).toNat)
    case atStart => exact ⟨0, 0, Nat.zero_le _, rfl, rfl, rfl⟩
    case round =>
      obtain ⟨k, q, hk, rfl, rfl, ht⟩ := hrel
      by_cases hlt : k < n
      · obtain ⟨b, o, x, rfl, hb, hc, hx, ex⟩ := hr.at_ hlt
        obtain ⟨b', o', x', rfl, hb', hc', hx', ex'⟩ := hr'.at_ hlt
        by_cases hxx : x = x'
        · subst hxx
          have hxn : ((x : Int) != (x : Int)) = false := by simp
          have H : Hid (l.take (k + 1) = l'.take (k + 1)) := Lib.hid (take_same ht.out (by omega) (by omega) (ex.out.symm.trans ex'.out))
          go_wp2
          go_quiet (fail)
          go_wp2
          go_roundw
          case rel => exact ⟨k + 1, q + nq, by omega, by go_num, rfl, H⟩
          case measure => simp [intOf]; omega
        · have hxn : ((x : Int) != (x' : Int)) = true := by simp; omega
          have H : Hid ((l == l') = false) := Lib.hid (by
            simp only [beq_eq_false_iff_ne, ne_eq]
            rintro rfl
            exact hxx (ex.out.trans ex'.out.symm))
          go_wp2
          go_quiet (fail)
          go_wp2
          go_ret
          exact ⟨bool_of (by rw [H.out]), q + nq, World.drewN_drewN _ _ _⟩
      · have H : Hid ((l == l') = true) := Lib.hid (by
          have h1 := ht.out
          rw [List.take_of_length_le (by omega), List.take_of_length_le (by omega)] at h1
          simp [h1])
        go_wp2
        go_ret
        exact ⟨bool_of (by rw [H.out]), q, rfl⟩
  · have H : Hid ((l == l') = false) := Lib.hid (by simp; intro e; subst e; omega)
    have hne : ((n : Int) != (n' : Int)) = true := by simp; omega
    go_enter Try.func9, Try.ntmps9
    go_wp2
    go_ret
    exact ⟨bool_of (by rw [H.out]), 0, rfl⟩
end Go.Proofs.Yteifhgcjmjihgaa
