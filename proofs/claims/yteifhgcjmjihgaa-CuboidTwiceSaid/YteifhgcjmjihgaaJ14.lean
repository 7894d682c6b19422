/- Wire -/
import Derived.Test.YteifhgcjmjihgaaJ2
import Derived.Deep.DeepFit
import Derived.IntWalk
import Derived.Outline
import Derived.ScopeJumps
import Derived.Test.YteifhgcjmjihgaaRows
namespace Go.Proofs.Yteifhgcjmjihgaa
set_option maxRecDepth 100000
open Go.RowKit

/-! ### As the walk spells it -/
theorem not64 (s : Nat) (hs : s < 18446744073709551616) : s ^^^ 18446744073709551615 = 18446744073709551615 - s := by
  have h : (~~~ (BitVec.ofNat 64 s)).toNat = (BitVec.ofNat 64 s ^^^ BitVec.allOnes 64).toNat := by
    rw [BitVec.xor_allOnes]
  rw [BitVec.toNat_not, BitVec.toNat_xor, BitVec.toNat_allOnes, BitVec.toNat_ofNat, Nat.mod_eq_of_lt hs] at h
  exact h.symm
theorem fold_is {n : Int} (h : -9223372036854775808 ≤ n) (h' : n ≤ 9223372036854775807) :
    bits .xor .u64 (IntKind.u64.wrap (IntKind.u64.wrap n * 2)) (IntKind.u64.wrap (n / 9223372036854775808)) = ((zig n : Nat) : Int) := by
  by_cases h0 : 0 ≤ n
  · have e1 : IntKind.u64.wrap (IntKind.u64.wrap n * 2) = ((2 * n).toNat : Nat) := by rw [IntKind.wrap_u64, IntKind.wrap_u64]; omega
    have e2 : IntKind.u64.wrap (n / 9223372036854775808) = ((0 : Nat) : Int) := by rw [IntKind.wrap_u64]; omega
    rw [e1, e2, u64_xor_nat _ _ (by omega) (by omega), Nat.xor_zero]
    unfold zig; rw [if_pos h0]
  · have e1 : IntKind.u64.wrap (IntKind.u64.wrap n * 2) = ((2 * n + 18446744073709551616).toNat : Nat) := by rw [IntKind.wrap_u64, IntKind.wrap_u64]; omega
    have e2 : IntKind.u64.wrap (n / 9223372036854775808) = ((18446744073709551615 : Nat) : Int) := by rw [IntKind.wrap_u64]; omega
    rw [e1, e2, u64_xor_nat _ _ (by omega) (by omega), not64 _ (by omega)]
    unfold zig; rw [if_neg h0]; omega
theorem low64 (u : Nat) (h : u < 18446744073709551616) : bits .and .u64 (u : Int) 1 = ((u % 2 : Nat) : Int) := by
  rw [show (1 : Int) = ((1 : Nat) : Int) from rfl, u64_and_nat u 1 h (by omega), nat_mask1]
theorem xor_none (a : Nat) (ha : a < 9223372036854775808) : bits .xor .i64 (a : Int) 0 = (a : Int) := by
  show IntKind.i64.wrap ((BitVec.ofInt 64 (a : Int) ^^^ BitVec.ofInt 64 0).toNat : Int) = _
  have h1 : BitVec.ofInt 64 0 = 0#64 := by decide
  rw [h1, BitVec.xor_zero, ofInt_u64 a (by omega), IntKind.wrap_i64]
  omega
theorem xor_all (a : Nat) (ha : a < 9223372036854775808) : bits .xor .i64 (a : Int) (-1) = -(a : Int) - 1 := by
  show IntKind.i64.wrap ((BitVec.ofInt 64 (a : Int) ^^^ BitVec.ofInt 64 (-1)).toNat : Int) = _
  have h1 : BitVec.ofInt 64 (-1) = BitVec.allOnes 64 := by decide
  rw [h1, BitVec.xor_allOnes, BitVec.toNat_not, ofInt_u64 a (by omega), IntKind.wrap_i64]
  omega
theorem unfold_is {u : Nat} (h : u < 18446744073709551616) :
    bits .xor .i64 ((u : Int) / 2) (wrap64 (-wrap64 (bits .and .u64 (u : Int) 1))) = zag u := by
  rw [low64 u h, show ((u : Int) / 2) = ((u / 2 : Nat) : Int) from by omega]
  unfold zag
  by_cases h0 : u % 2 = 0
  · rw [h0, if_pos rfl, show wrap64 (-wrap64 ((0 : Nat) : Int)) = 0 from by unfold wrap64; omega, xor_none _ (by omega)]
  · rw [show u % 2 = 1 from by omega, if_neg (by omega), show wrap64 (-wrap64 ((1 : Nat) : Int)) = -1 from by unfold wrap64; omega, xor_all _ (by omega)]

theorem u64_of {a b : Int} (h : a = b) : Ending.returned (.int .u64 a) = .returned (.int .u64 b) := by rw [h]
theorem folded_any (n : Int) (h : -9223372036854775808 ≤ n) (h' : n ≤ 9223372036854775807) (w : World) :
    Calls Try.prog 40 #[.int .i64 n] w fun e w' => e = .returned (.int .u64 (zig n : Nat)) ∧ w = w' := by
  have H := Lib.hid (fold_is h h')
  go_enter Try.func40, Try.ntmps40
  go_wp2
  go_ret
  exact ⟨u64_of H.out, rfl⟩
theorem bad_9 (c : Nat) : badAt c 9 = (decide (1 < c) || c == 0) := by simp [badAt]
theorem bad_0 (c : Nat) : badAt c 0 = false := by simp [badAt]
theorem bad_i {c i : Nat} (h : i ≠ 9) (h0 : 0 < i) : badAt c i = (c == 0) := by simp [badAt, h, h0]
/-! ### GetInt -/
def GetAt (w : World) (A : Option Addr) (n c : Nat) (l : List UInt8) (a' : Act) (w' : World) : Prop :=
  w = w' ∧ ∃ (i u : Nat) (u7 u8 u9 u10 u11 u12 u13 u14 u15 u16 u17 u18 u19 u20 u21 u22 u23 u24 u25 u26 u27 u28 u29 u30 : Value), a' = { tmps := #[.slice A n c, undef, .int .i64 0, .int .i64 0, .int .i64 0, .int .u64 u, .int .i64 i, u7, u8, u9, u10, u11, u12, u13, u14, u15, u16, u17, u18, u19, u20, u21, u22, u23, u24, u25, u26, u27, u28, u29, u30, undef, undef, undef], defers := [] } ∧ i ≤ 9 ∧ i ≤ n ∧ u < 2 ^ (7 * i) ∧ got (l.drop i) i u = got l 0 0
def getLeft (n : Nat) (a' : Act) (_ : World) : Nat := n - (intOf (a'.tmps.getD 6 undef)).toNat
theorem or_is (u i m : Nat) (hu : u < 2 ^ (7 * i)) (hi : i ≤ 9) (hm : m < 128) (h9 : i = 9 → m ≤ 1) :
    bits .or .u64 (u : Int) (IntKind.u64.wrap ((m : Int) * 2 ^ (7 * i))) = ((u + m * 2 ^ (7 * i) : Nat) : Int) ∧ u + m * 2 ^ (7 * i) < 18446744073709551616 ∧ (i < 9 → u + m * 2 ^ (7 * i) < 2 ^ (7 * (i + 1))) := by
  have hp : (2 : Nat) ^ (7 * i) ≤ 2 ^ 63 := Nat.pow_le_pow_right (by omega) (by omega)
  have hs : 2 ^ (7 * (i + 1)) = 128 * 2 ^ (7 * i) := by rw [show 7 * (i + 1) = 7 + 7 * i from by omega, Nat.pow_add]
  have h1 : i < 9 → u + m * 2 ^ (7 * i) < 2 ^ (7 * (i + 1)) := fun _ => by
    have : (m + 1) * 2 ^ (7 * i) ≤ 128 * 2 ^ (7 * i) := Nat.mul_le_mul_right _ (by omega)
    rw [Nat.add_mul] at this
    omega
  have h2 : u + m * 2 ^ (7 * i) < 18446744073709551616 := by
    by_cases h : i < 9
    · have := h1 h
      have : (2 : Nat) ^ (7 * (i + 1)) ≤ 2 ^ 63 := Nat.pow_le_pow_right (by omega) (by omega)
      omega
    · have := Nat.mul_le_mul_right (2 ^ (7 * i)) (h9 (by omega))
      omega
  refine ⟨?_, h2, h1⟩
  have e : IntKind.u64.wrap ((m : Int) * 2 ^ (7 * i)) = ((m * 2 ^ (7 * i) : Nat) : Int) := by
    have e0 : (m : Int) * 2 ^ (7 * i) = ((m * 2 ^ (7 * i) : Nat) : Int) := by push_cast; rfl
    rw [e0, IntKind.wrap_u64]
    omega
  rw [e, u64_or_nat u _ (by omega) (by omega), Nat.or_comm, nat_join (7 * i) _ u (Nat.mul_mod_left _ _) hu, Nat.add_comm]
theorem got_end {l : List UInt8} {i u : Nat} (h : l.length ≤ i) : got (l.drop i) i u = (0, 0, 3) := by
  rw [List.drop_eq_nil_of_le h]; rfl
theorem got_at {l : List UInt8} {i : Nat} (h : i < l.length) (u : Nat) : got (l.drop i) i u = if badAt (l.getD i 0).toNat i then (0, 0, 2) else if 128 ≤ (l.getD i 0).toNat then got (l.drop (i + 1)) (i + 1) (u + (l.getD i 0).toNat % 128 * 2 ^ (7 * i)) else (u + (l.getD i 0).toNat * 2 ^ (7 * i), i + 1, 0) := by
  rw [List.drop_eq_getElem_cons h, got, List.getD_eq_getElem?_getD, List.getElem?_eq_getElem h]; rfl
theorem tup_of {l : List UInt8} {u k e : Nat} (h : got l 0 0 = (u, k, e)) : gN l = zag u ∧ gK l = k ∧ gE l = e := by
  unfold gN gK gE; rw [h]; exact ⟨rfl, rfl, rfl⟩
theorem three_of {a b c a' b' c' : Int} (h : a = a' ∧ b = b' ∧ c = c') : Ending.returned (.tuple #[.int .i64 a, .int .i64 b, .int .i64 c]) = .returned (.tuple #[.int .i64 a', .int .i64 b', .int .i64 c']) := by rw [h.1, h.2.1, h.2.2]
theorem not_bad {q i : Nat} (h : badAt q i = false) : (i = 9 → q ≤ 1) ∧ (0 < i → q ≠ 0) := by
  simp only [badAt, Bool.or_eq_false_iff, Bool.and_eq_false_iff, beq_eq_false_iff_ne, decide_eq_false_iff_not] at h
  refine ⟨fun e => ?_, fun h0 => ?_⟩
  · rcases h.1 with h | h <;> omega
  · rcases h.2 with h | h
    · omega
    · exact h
theorem or_big {u i q : Nat} (hu : u < 2 ^ (7 * i)) (hi : i ≤ 9) (hb : badAt q i = false) (hq : 128 ≤ q) :
    i < 9 ∧ ∃ v : Nat, bits .or .u64 (u : Int) (IntKind.u64.wrap ((q : Int) % 128 * 2 ^ (7 * i))) = (v : Int) ∧ v < 2 ^ (7 * (i + 1)) ∧ v = u + q % 128 * 2 ^ (7 * i) := by
  have h9 : i < 9 := Nat.lt_of_le_of_ne hi fun e => by have := (not_bad hb).1 e; omega
  obtain ⟨h1, h2, h3⟩ := or_is u i (q % 128) hu hi (by omega) (fun e => by omega)
  exact ⟨h9, _, by rw [← h1]; rfl, h3 h9, rfl⟩
theorem or_last {u i q : Nat} (hu : u < 2 ^ (7 * i)) (hi : i ≤ 9) (hb : badAt q i = false) (hq : ¬ 128 ≤ q) :
    ∃ v : Nat, bits .or .u64 (u : Int) (IntKind.u64.wrap ((q : Int) % 128 * 2 ^ (7 * i))) = (v : Int) ∧ v < 18446744073709551616 ∧ v = u + q * 2 ^ (7 * i) := by
  obtain ⟨h1, h2, h3⟩ := or_is u i q hu hi (by omega) (not_bad hb).1
  exact ⟨_, by rw [show (q : Int) % 128 = (q : Int) from by omega]; exact h1, h2, rfl⟩
theorem or_first {q : Nat} : bits .or .u64 0 ((q : Int) % 128) = ((q % 128 : Nat) : Int) := by
  rw [show (q : Int) % 128 = ((q % 128 : Nat) : Int) from rfl, show (0 : Int) = ((0 : Nat) : Int) from rfl, u64_or_nat 0 _ (by omega) (by omega), Nat.zero_or]
end Go.Proofs.Yteifhgcjmjihgaa
