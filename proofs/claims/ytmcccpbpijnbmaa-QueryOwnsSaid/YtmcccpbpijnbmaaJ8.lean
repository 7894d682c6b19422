/- WideTot, Wire -/
import Derived.Test.YtmcccpbpijnbmaaJ2
import Derived.Test.YtmcccpbpijnbmaaJ5
import Derived.Deep.DeepFit
import Derived.Deep.RegionWith
import Derived.IntWalk
import Derived.Outline
import Derived.ScopeJumps
import Derived.Test.YtmcccpbpijnbmaaRows
namespace Go.Proofs.Ytmcccpbpijnbmaa
set_option maxRecDepth 100000
open Go.RowKit

end Go.Proofs.Ytmcccpbpijnbmaa
namespace Go.Proofs.Ytmcccpbpijnbmaa
set_option maxRecDepth 100000
open Go.RowKit

/-! ### As the walk spells it -/
theorem not64 (s : Nat) (hs : s < 18446744073709551616) : s ^^^ 18446744073709551615 = 18446744073709551615 - s := by
 have h : (~~~ (BitVec.ofNat 64 s)).toNat = (BitVec.ofNat 64 s ^^^ BitVec.allOnes 64).toNat := by
  rw [BitVec.xor_allOnes]
 rw [BitVec.toNat_not, BitVec.toNat_xor, BitVec.toNat_allOnes, BitVec.toNat_ofNat, Nat.mod_eq_of_lt hs] at h
 exact h.symm
theorem fold_is {n : Int} (h : -9223372036854775808 ≤ n) (h' : n ≤ 9223372036854775807) :
  bits .xor .u64 (IntKind.u64.wrap (IntKind.u64.wrap n * 2)) (IntKind.u64.wrap (n / 9223372036854775808)) = ((zig n : Nat) : Int) := by
 by_cases h0 : 0 ≤ n
 ·have e1 : IntKind.u64.wrap (IntKind.u64.wrap n * 2) = ((2 * n).toNat : Nat) := by rw [IntKind.wrap_u64, IntKind.wrap_u64]; omega
  have e2 : IntKind.u64.wrap (n / 9223372036854775808) = ((0 : Nat) : Int) := by rw [IntKind.wrap_u64]; omega
  rw [e1, e2, u64_xor_nat _ _ (by omega) (by omega), Nat.xor_zero]
  unfold zig; rw [if_pos h0]
 ·have e1 : IntKind.u64.wrap (IntKind.u64.wrap n * 2) = ((2 * n + 18446744073709551616).toNat : Nat) := by rw [IntKind.wrap_u64, IntKind.wrap_u64]; omega
  have e2 : IntKind.u64.wrap (n / 9223372036854775808) = ((18446744073709551615 : Nat) : Int) := by rw [IntKind.wrap_u64]; omega
  rw [e1, e2, u64_xor_nat _ _ (by omega) (by omega), not64 _ (by omega)]
  unfold zig; rw [if_neg h0]; omega
theorem u64_of {a b : Int} (h : a = b) : Ending.returned (.int .u64 a) = .returned (.int .u64 b) := by rw [h]
theorem folded_any (n : Int) (h : -9223372036854775808 ≤ n) (h' : n ≤ 9223372036854775807) (w : World) :
  Calls Try.prog 56 #[.int .i64 n] w fun e w' => e = .returned (.int .u64 (zig n : Nat)) ∧ w = w' := by
 have H := Lib.hid (fold_is h h')
 go_enter Try.func56, Try.ntmps56
 go_wp2
 go_ret
 exact ⟨u64_of H.out, rfl⟩
/-! ### GetInt -/
end Go.Proofs.Ytmcccpbpijnbmaa
