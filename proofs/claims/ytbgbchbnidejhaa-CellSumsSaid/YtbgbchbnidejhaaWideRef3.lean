/- Layer 4: the document's answers: parts, ints, order, totals. -/
import Derived.Test.YtbgbchbnidejhaaWideRef2
namespace Go.Proofs.Ytbgbchbnidejhaa
open Go.RowKit

/-- The ends of a row's numbers. -/
def wFar (z : Int) : Prop := -604462909807314587353088 ≤ z ∧ z < 604462909807314587353088
theorem wFar_ends {z : Int} (h : wFar z) : shR z 79 = 0 ∨ shR z 79 = -1 := by
  have h' := shR_ends (z := z) (m := 79) (by have := h.1; omega) (by have := h.2; omega)
  omega
theorem quietI {P : Program} {f : FuncId} {args : Array Value} {w : World} {n : Nat} {v : Value}
    (h : Calls P f args (w.drewN n) fun e w' => e = .returned v ∧ w.drewN n = w') : Calls P f args (w.drewN n) fun e w'' => e = .returned v ∧ ∃ m, w'' = w.drewN m :=
  h.mono fun _ _ ⟨he, hm⟩ => ⟨he, n, hm.symm⟩
/-- Bits from 63 on that are all the same: an int. -/
theorem bits_int {z : Int} (hz : wFar z) (h : ∀ j, 64 ≤ j → j < 80 → shR z j % 2 = shR z 63 % 2) : shR z 63 = 0 ∨ shR z 63 = -1 := by
  have he := wFar_ends hz
  have key : ∀ d, d ≤ 16 → shR z (79 - d) = shR z 79 := by
    intro d
    induction d with
    | zero => intro _; rfl
    | succ d ih =>
      intro hd
      have h1 := ih (by omega)
      have h2 : shR z (79 - d) = shR z (79 - (d + 1)) / 2 := by
        rw [show 79 - d = (79 - (d + 1)) + 1 from by omega]
        rfl
      have h3 : shR z (79 - (d + 1)) % 2 = shR z 63 % 2 := by
        by_cases hj : 64 ≤ 79 - (d + 1)
        · exact h _ hj (by omega)
        · rw [show 79 - (d + 1) = 63 from by omega]
      have h4 := h 79 (by decide) (by decide)
      omega
  rw [← key 16 (by decide)] at he
  exact he
theorem int_bits {z : Int} (h0 : -9223372036854775808 ≤ z) (h1 : z ≤ 9223372036854775807) (j : Nat) (hj : 64 ≤ j) : shR z j % 2 = shR z 63 % 2 := by
  have he : shR z 63 = 0 ∨ shR z 63 = -1 := by
    have := shR_ends (z := z) (m := 63) (by omega) (by omega)
    omega
  have h2 := shR_stay (j - 63) he
  rw [shR_add, show 63 + (j - 63) = j from by omega] at h2
  rw [h2]

set_option maxRecDepth 100000 in
set_option maxHeartbeats 2000000 in
theorem refInt_any (b o c : Nat) (z : Int) (w : World) (hr : HasI w w.heap.size (some ⟨b, o, none⟩) 80 c (bitsOf 80 z)) (hz : wFar z) (n x : Int)
    (hs : (-9223372036854775808 ≤ z ∧ z ≤ 9223372036854775807 ∧ n = z ∧ x = 0) ∨ (¬ (-9223372036854775808 ≤ z ∧ z ≤ 9223372036854775807) ∧ n = 0 ∧ x = 14)) :
    Calls Try.prog 36 #[.slice (some ⟨b, o, none⟩) 80 c] w fun e w' => e = .returned (.tuple #[.int .i64 n, .int .i64 x]) ∧ ∃ q, w' = w.drewN q := by
  have hc1 := hr.cap
  have hc2 := hr.capMax
  have hs0 := Lib.hid hs
  have hp3 : (80 : Int) ≤ (c : Int) := by omega
  obtain ⟨b', o', t, hA, _, hct, hte⟩ := hr.at_ (k := 63) (by decide)
  injection hA with hA; injection hA with hA1 hA2; subst hA1 hA2
  have ht : Hid (t = shR z 63 % 2) := Lib.hid (by rw [hte.out, bitsOf_getD _ _ _ (by decide)])
  clear hs hte
  go_enter Try.func36, Try.ntmps36
  go_wp2
  go_loopw [4] (fun i wr => ∃ k q : Nat, 64 ≤ k ∧ k ≤ 80 ∧ i = .int .i64 k ∧ wr = w.drewN q ∧ Hid (∀ j, 64 ≤ j → j < k → shR z j % 2 = shR z 63 % 2)) (fun i _ => 80 - (intOf i).toNat)
  case atStart => exact ⟨64, 0, Nat.le_refl _, by decide, rfl, rfl, Lib.hid (fun j h1 h2 => absurd h2 (by omega))⟩
  case round =>
    obtain ⟨k, q, hk0, hk, rfl, rfl, hall⟩ := hrel
    by_cases hlt : k < 80
    · obtain ⟨b', o', y, hA, _, hcy, hye⟩ := hr.at_ (k := k) hlt
      injection hA with hA; injection hA with hA1 hA2; subst hA1 hA2
      have hy : Hid (y = shR z k % 2) := Lib.hid (by rw [hye.out, bitsOf_getD _ _ _ hlt])
      have i0 : (0 : Int) ≤ (k : Int) := by omega
      have i1 : (k : Int) < 80 := by omega
      clear hye
      by_cases he : y = t
      case' pos => have he1 : ((y : Int) != t) = false := by simp [he]
      case' neg => have he1 : ((y : Int) != t) = true := by simp [he]
      all_goals
        have hE := Lib.hid he
        clear he
        go_wp2_with fail
        go_quiet (fail)
        generalize hw1 : (w.drewN q).drewN nq = w1
        have hW := Lib.hid hw1
        clear hw1
        go_wp2_with fail
      · go_ret2
        rcases hs0.out with ⟨h0, h1, _, _⟩ | ⟨_, rfl, rfl⟩
        · exact absurd (by rw [hy.out, ht.out, int_bits h0 h1 k hk0]) hE.out
        · exact ⟨rfl, q + nq, by rw [← hW.out, World.drewN_drewN]⟩
      · go_roundw
        case rel =>
          refine ⟨k + 1, q + nq, by omega, by omega, by go_num, by rw [← hW.out, World.drewN_drewN], Lib.hid (fun j h1 h2 => ?_)⟩
          rcases Nat.lt_or_ge j k with h3 | h3
          · exact hall.out j h1 h3
          · rw [show j = k from by omega, ← hy.out, ← ht.out, hE.out]
        case measure => simp [intOf]; omega
    · obtain rfl : k = 80 := by omega
      have he := bits_int hz hall.out
      rcases hs0.out with ⟨h0, h1, rfl, rfl⟩ | ⟨h1, rfl, rfl⟩
      · have hH : HasI w w.heap.size (some ⟨b, o, none⟩) 64 c (bitsOf 64 n) := by
          have h := hr.take_ 64 (by decide)
          rwa [bitsOf_take 64 80 _ (by decide)] at h
        have q1 := refNum_sign _ 63 _ _ (w.drewN q) (hH.drewN q) (by decide) h0 h1 he
        have hp4 : (64 : Int) ≤ (c : Int) := by omega
        have hall := hall
        clear he hH hall hs0 ht hct hr hz h0 h1
        go_wp2_with fail
        refine q1.mono ?_
        rintro e w' ⟨rfl, rfl⟩
        go_wp2_with fail
        go_ret2
        exact ⟨rfl, q, rfl⟩
      · exfalso
        apply h1
        have h2 : z = shR z 63 * 9223372036854775808 + z % 9223372036854775808 := by
          rw [shR_pow]
          have := Int.mul_ediv_add_emod z (2 ^ 63)
          omega
        omega
end Go.Proofs.Ytbgbchbnidejhaa
