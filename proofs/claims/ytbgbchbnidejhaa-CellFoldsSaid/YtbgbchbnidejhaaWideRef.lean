/- Layer 4: the document's answers: rows of 80 bits. -/
import Derived.Test.YtbgbchbnidejhaaWide
import Derived.OwnWalk
import Derived.BigQuiet
import Derived.Deep.QuietTactic
namespace Go.Proofs.Ytbgbchbnidejhaa
open Go.RowKit

/-- Bits as a row of the call's own. -/
theorem refOf_any (z : Int) (w : World) (h0 : -9223372036854775808 ≤ z) (h1 : z ≤ 9223372036854775807) :
    Calls Try.prog 45 #[.int .i64 z] w fun e w' => (∃ v, e = .returned v ∧ OwnI w' w.heap.size v (bitsOf 80 z)) ∧ Below w.heap.size w w' := by
  obtain ⟨i0, hi, hz0, hz1, hz2⟩ := info_parts info_int
  go_enter Try.func45, Try.ntmps45
  go_wp2
  go_loopw [0, 3, 4] (fun m v i wr => ∃ k : Nat, k ≤ 80 ∧ i = .int .i64 k ∧ m = .int .i64 (shR z k) ∧ OwnI wr w.heap.size v (bitsOf k z) ∧ Below w.heap.size w wr) (fun _ _ i _ => 80 - (intOf i).toNat)
  case atStart => exact ⟨0, Nat.zero_le _, rfl, rfl, OwnI.nil_ _ _, Below.refl _ _⟩
  case round =>
    obtain ⟨k, hk, rfl, rfl, ho, hbe⟩ := hrel
    have hlo := shR_lo (m := -9223372036854775808) k h0 (by decide)
    have hhi := shR_hi (m := 9223372036854775807) k h1 (by decide)
    by_cases hlt : k < 80
    · have hsn := Lib.hid (bitsOf_snoc k z)
      have hnx : Hid (shR z (k + 1) = shR z k / 2) := Lib.hid rfl
      obtain ⟨y, hy⟩ : ∃ y, Hid (shR z k = y) := ⟨_, Lib.hid rfl⟩
      rw [hy.out] at hsn hnx hlo hhi
      simp only [hy.out]
      have hand : bits .and .i64 y 1 = y % 2 := i64_and_one y
      have hln := Lib.hid (bitsOf_length k z)
      have hz := hbe.size
      go_wp2_with (at_builtin; refine wpList_append_own _ rfl _ _ 54 rfl w.heap.size 3 i0 (.int .i64 0) 1 8 Try.underlying54 hi hz0 hz1 hz2 rfl (by decide) _ (bitsOf k z).length ((bitsOf k z).map i64v) rfl (OwnI.alloc ho _) _ 1 1 [i64v (y % 2)] rfl rfl (cell_one_i _ _ _ _ (by simp)) (i64v_one [y % 2]) (by have := hln.out; unfold maxLen; omega) (by have := hln.out; omega) (by simp; omega) ?_)
      intro v2 w2 hown hgrow _
      have ho2 : Hid (OwnI w2 w.heap.size v2 (bitsOf (k + 1) z)) := Lib.hid (by
        unfold OwnI
        rw [hsn.out, List.length_append, List.map_append]
        simpa using hown)
      have hbe2 : Hid (Below w.heap.size w w2) := Lib.hid ((hbe.alloc hz _).grown hgrow (by simp; omega) (fun g h => (OwnI.lt ho g h).1))
      have hln1 : Hid (shR z (k + 1) = y / 2) := Lib.hid (by rw [hnx.out])
      clear hown hgrow ho hbe hsn hnx hln hand hz
      go_wp2_with fail
      go_roundw
      case rel => exact ⟨k + 1, by omega, by go_num, by rw [hln1.out], ho2.out, hbe2.out⟩
      case measure => simp [intOf]; omega
    · obtain rfl : k = 80 := by omega
      clear hlo hhi
      go_wp2_with fail
      go_ret
      exact ⟨⟨_, rfl, ho⟩, hbe⟩

/-- A row's number, without a sign: all its bits from the top on. -/
theorem refNum_plain (A : Option Addr) (m c : Nat) (z : Int) (w : World) (hr : HasI w w.heap.size A m c (bitsOf m z)) (hm : m ≤ 1000) (h0 : 0 ≤ z) (h1 : z ≤ 4611686018427387903) (ht : shR z m = 0) :
    Calls Try.prog 44 #[.slice A m c, .bool false] w fun e w' => e = .returned (.int .i64 z) ∧ w = w' := by
  have hcap := hr.cap
  have hcm := hr.capMax
  go_enter Try.func44, Try.ntmps44
  go_wp2
  go_loop [5, 6] (fun s i => ∃ k : Nat, k ≤ m ∧ i = .int .i64 ((k : Int) - 1) ∧ s = .int .i64 (shR z k)) (fun _ i => (intOf i + 1).toNat)
  case atStart => exact ⟨m, Nat.le_refl _, rfl, by rw [ht]⟩
  case round =>
    obtain ⟨k, hk, rfl, rfl⟩ := hrel
    rcases k with _ | k
    · go_wp2_with fail
      go_ret
      exact ⟨rfl, rfl⟩
    · obtain ⟨b, o, x, rfl, hb, hcx, hxe⟩ := hr.at_ (k := k) (by omega)
      have hx2 : Hid (x = shR z k % 2) := Lib.hid (by rw [hxe.out, bitsOf_getD _ _ _ (by omega)])
      have hlo := shR_lo (m := 0) k h0 (by decide)
      have hhi := shR_hi (m := 4611686018427387903) k h1 (by decide)
      have e : ((k + 1 : Nat) : Int) - 1 = (k : Int) := by omega
      have e2 : shR z (k + 1) = shR z k / 2 := rfl
      rw [e, e2]
      obtain ⟨y, hy⟩ : ∃ y, Hid (shR z k = y) := ⟨_, Lib.hid rfl⟩
      rw [hy.out] at hx2 hlo hhi ⊢
      have hx3 : 2 * (y / 2) + x = y := by have := hx2.out; omega
      have i0 : (0 : Int) ≤ (k : Int) := by omega
      have i1 : (k : Int) < (m : Int) := by omega
      have hxb : 0 ≤ x ∧ x ≤ 1 := by have := hx2.out; omega
      obtain ⟨hx0, hx1⟩ := hxb
      clear hx2 hxe e e2 hb hr ht
      by_cases hq : k + 1 = m
      case' pos => have hq1 : ((k : Int) == (m : Int) - 1) = true := by simp; omega
      case' neg => have hq1 : ((k : Int) == (m : Int) - 1) = false := by simp; omega
      all_goals
        clear hq
        go_wp2_with fail
        go_round
        case rel => exact ⟨k, by omega, rfl, by rw [hy.out]⟩
        case measure => simp [intOf]
/-- With its top bit as a sign. -/
theorem refNum_sign (A : Option Addr) (p c : Nat) (z : Int) (w : World) (hr : HasI w w.heap.size A (p + 1) c (bitsOf (p + 1) z)) (hm : p ≤ 1000) (h0 : -9223372036854775808 ≤ z) (h1 : z ≤ 9223372036854775807) (ht : shR z p = 0 ∨ shR z p = -1) :
    Calls Try.prog 44 #[.slice A (p + 1) c, .bool true] w fun e w' => e = .returned (.int .i64 z) ∧ w = w' := by
  have hcap := hr.cap
  have hcm := hr.capMax
  have ht0 := Lib.hid ht
  clear ht
  go_enter Try.func44, Try.ntmps44
  go_wp2
  go_loop [5, 6] (fun s i => ∃ k : Nat, k ≤ p + 1 ∧ i = .int .i64 ((k : Int) - 1) ∧ ((k = p + 1 ∧ s = .int .i64 0) ∨ (k ≤ p ∧ s = .int .i64 (shR z k)))) (fun _ i => (intOf i + 1).toNat)
  case atStart => exact ⟨p + 1, Nat.le_refl _, by simp, .inl ⟨rfl, rfl⟩⟩
  case round =>
    obtain ⟨k, hk, rfl, hs⟩ := hrel
    rcases k with _ | k
    · rcases hs with ⟨h, _⟩ | ⟨_, rfl⟩
      · omega
      · go_wp2_with fail
        go_ret
        exact ⟨rfl, rfl⟩
    · obtain ⟨b, o, x, rfl, hb, hcx, hxe⟩ := hr.at_ (k := k) (by omega)
      have hx2 : Hid (x = shR z k % 2) := Lib.hid (by rw [hxe.out, bitsOf_getD _ _ _ (by omega)])
      have hlo := shR_lo (m := -9223372036854775808) k h0 (by decide)
      have hhi := shR_hi (m := 9223372036854775807) k h1 (by decide)
      have e : ((k + 1 : Nat) : Int) - 1 = (k : Int) := by omega
      have e2 : shR z (k + 1) = shR z k / 2 := rfl
      have i0 : (0 : Int) ≤ (k : Int) := by omega
      have i1 : (k : Int) < (p : Int) + 1 := by omega
      rw [e]
      rcases hs with ⟨hkp, rfl⟩ | ⟨hkp, rfl⟩
      · obtain rfl : k = p := by omega
        have htt : shR z k = 0 ∨ shR z k = -1 := ht0.out
        obtain ⟨y, hy⟩ : ∃ y, Hid (shR z k = y) := ⟨_, Lib.hid rfl⟩
        rw [hy.out] at hx2 hlo hhi htt
        have hx3 : -x = y := by have := hx2.out; omega
        have hxb : 0 ≤ x ∧ x ≤ 1 := by have := hx2.out; omega
        obtain ⟨hx0, hx1⟩ := hxb
        have hx4 := Lib.hid hx3
        clear hx2 hxe e e2 hb hr htt hkp ht0 hx3
        go_wp2_with fail
        go_round
        case rel => exact ⟨k, by omega, rfl, .inr ⟨by omega, by rw [hy.out, ← hx4.out]⟩⟩
        case measure => simp [intOf]
      · rw [e2]
        obtain ⟨y, hy⟩ : ∃ y, Hid (shR z k = y) := ⟨_, Lib.hid rfl⟩
        rw [hy.out] at hx2 hlo hhi ⊢
        have hx3 : 2 * (y / 2) + x = y := by have := hx2.out; omega
        have hq1 : ((k : Int) == (p : Int)) = false := by simp; omega
        have hxb : 0 ≤ x ∧ x ≤ 1 := by have := hx2.out; omega
        obtain ⟨hx0, hx1⟩ := hxb
        clear hx2 hxe e e2 hb hr hkp ht0
        go_wp2_with fail
        go_round
        case rel => exact ⟨k, by omega, rfl, .inr ⟨by omega, by rw [hy.out]⟩⟩
        case measure => simp [intOf]
end Go.Proofs.Ytbgbchbnidejhaa
