/- Wire, WireRef -/
import Derived.Test.YtmcccpbpijnbmaaDoorJ1
import Derived.Deep.DeepFit
import Derived.IntWalk
import Derived.Outline
import Derived.ScopeJumps
import Derived.Test.YtmcccpbpijnbmaaDoorRows
namespace Go.Proofs.YtmcccpbpijnbmaaDoor
set_option maxRecDepth 100000
open Go.RowKit

/-! ### As the walk spells it -/
theorem not64 (s : Nat) (hs : s < 18446744073709551616) : s ^^^ 18446744073709551615 = 18446744073709551615 - s := by
 have h : (~~~ (BitVec.ofNat 64 s)).toNat = (BitVec.ofNat 64 s ^^^ BitVec.allOnes 64).toNat := by
  rw [BitVec.xor_allOnes]
 rw [BitVec.toNat_not, BitVec.toNat_xor, BitVec.toNat_allOnes, BitVec.toNat_ofNat, Nat.mod_eq_of_lt hs] at h
 exact h.symm
theorem fold_is {n : Int} (h : -9223372036854775808 ≤ n) (h' : n ≤ 9223372036854775807) :
  bits .xor .u64 (IntKind.u64.wrap (IntKind.u64.wrap n * 2)) (IntKind.u64.wrap (n / 9223372036854775808)) = ((zig n : Nat) : Int) := by
 by_cases h0 : 0 ≤ n
 ·have e1 : IntKind.u64.wrap (IntKind.u64.wrap n * 2) = ((2 * n).toNat : Nat) := by rw [IntKind.wrap_u64, IntKind.wrap_u64]; omega
  have e2 : IntKind.u64.wrap (n / 9223372036854775808) = ((0 : Nat) : Int) := by rw [IntKind.wrap_u64]; omega
  rw [e1, e2, u64_xor_nat _ _ (by omega) (by omega), Nat.xor_zero]
  unfold zig; rw [if_pos h0]
 ·have e1 : IntKind.u64.wrap (IntKind.u64.wrap n * 2) = ((2 * n + 18446744073709551616).toNat : Nat) := by rw [IntKind.wrap_u64, IntKind.wrap_u64]; omega
  have e2 : IntKind.u64.wrap (n / 9223372036854775808) = ((18446744073709551615 : Nat) : Int) := by rw [IntKind.wrap_u64]; omega
  rw [e1, e2, u64_xor_nat _ _ (by omega) (by omega), not64 _ (by omega)]
  unfold zig; rw [if_neg h0]; omega
theorem low64 (u : Nat) (h : u < 18446744073709551616) : bits .and .u64 (u : Int) 1 = ((u % 2 : Nat) : Int) := by
 rw [show (1 : Int) = ((1 : Nat) : Int) from rfl, u64_and_nat u 1 h (by omega), nat_mask1]
theorem xor_none (a : Nat) (ha : a < 9223372036854775808) : bits .xor .i64 (a : Int) 0 = (a : Int) := by
 show IntKind.i64.wrap ((BitVec.ofInt 64 (a : Int) ^^^ BitVec.ofInt 64 0).toNat : Int) = _
 have h1 : BitVec.ofInt 64 0 = 0#64 := by decide
 rw [h1, BitVec.xor_zero, ofInt_u64 a (by omega), IntKind.wrap_i64]
 omega
theorem xor_all (a : Nat) (ha : a < 9223372036854775808) : bits .xor .i64 (a : Int) (-1) = -(a : Int) - 1 := by
 show IntKind.i64.wrap ((BitVec.ofInt 64 (a : Int) ^^^ BitVec.ofInt 64 (-1)).toNat : Int) = _
 have h1 : BitVec.ofInt 64 (-1) = BitVec.allOnes 64 := by decide
 rw [h1, BitVec.xor_allOnes, BitVec.toNat_not, ofInt_u64 a (by omega), IntKind.wrap_i64]
 omega
theorem unfold_is {u : Nat} (h : u < 18446744073709551616) :
  bits .xor .i64 ((u : Int) / 2) (wrap64 (-wrap64 (bits .and .u64 (u : Int) 1))) = zag u := by
 rw [low64 u h, show ((u : Int) / 2) = ((u / 2 : Nat) : Int) from by omega]
 unfold zag
 by_cases h0 : u % 2 = 0
 ·rw [h0, if_pos rfl, show wrap64 (-wrap64 ((0 : Nat) : Int)) = 0 from by unfold wrap64; omega, xor_none _ (by omega)]
 ·rw [show u % 2 = 1 from by omega, if_neg (by omega), show wrap64 (-wrap64 ((1 : Nat) : Int)) = -1 from by unfold wrap64; omega, xor_all _ (by omega)]

theorem u64_of {a b : Int} (h : a = b) : Ending.returned (.int .u64 a) = .returned (.int .u64 b) := by rw [h]
theorem folded_any (n : Int) (h : -9223372036854775808 ≤ n) (h' : n ≤ 9223372036854775807) (w : World) :
  Calls Tryd.prog 46 #[.int .i64 n] w fun e w' => e = .returned (.int .u64 (zig n : Nat)) ∧ w = w' := by
 have H := Lib.hid (fold_is h h')
 go_enter Tryd.func46, Tryd.ntmps46
 go_wp2
 go_ret
 exact ⟨u64_of H.out, rfl⟩
theorem unfolded_any (u : Nat) (h : u < 18446744073709551616) (w : World) :
  Calls Tryd.prog 69 #[.int .u64 u] w fun e w' => e = .returned (.int .i64 (zag u)) ∧ w = w' := by
 have H := Lib.hid (unfold_is h)
 go_enter Tryd.func69, Tryd.ntmps69
 go_wp2
 go_ret
 exact ⟨i64_of H.out, rfl⟩
theorem bad_9 (c : Nat) : badAt c 9 = (decide (1 < c) || c == 0) := by simp [badAt]
theorem bad_0 (c : Nat) : badAt c 0 = false := by simp [badAt]
theorem bad_i {c i : Nat} (h : i ≠ 9) (h0 : 0 < i) : badAt c i = (c == 0) := by simp [badAt, h, h0]
theorem mayStand_any (c i : Nat) (h : c < 256) (h' : i ≤ 9223372036854775807) (w : World) :
  Calls Tryd.prog 68 #[.int .u8 c, .int .i64 i] w fun e w' => e = .returned (.bool (badAt c i)) ∧ w = w' := by
 by_cases h9 : i = 9
 ·subst h9
  by_cases h1 : 1 < c
  ·have H := Lib.hid (bad_9 c)
   go_enter Tryd.func68, Tryd.ntmps68
   go_wp2
   go_ret
   exact ⟨bool_of (by rw [H.out, decide_eq_true h1]; rfl), rfl⟩
  ·have H := Lib.hid (bad_9 c)
   go_enter Tryd.func68, Tryd.ntmps68
   go_wp2
   go_ret
   exact ⟨bool_of (by rw [H.out, decide_eq_false h1, Bool.false_or, Bool.eq_iff_iff]; simp; omega), rfl⟩
 ·by_cases h0 : 0 < i
  ·have H := Lib.hid (bad_i (c := c) h9 h0)
   go_enter Tryd.func68, Tryd.ntmps68
   go_wp2
   go_ret
   exact ⟨bool_of (by rw [H.out, Bool.eq_iff_iff]; simp), rfl⟩
  ·obtain rfl : i = 0 := by omega
   have H := Lib.hid (bad_0 c)
   go_enter Tryd.func68, Tryd.ntmps68
   go_wp2
   go_ret
   exact ⟨bool_of (by rw [H.out]), rfl⟩

/-! ### GetInt -/
def GetAt (w : World) (A : Option Addr) (n c : Nat) (l : List UInt8) (a' : Act) (w' : World) : Prop :=
 w = w' ∧ ∃ (i u : Nat) (u7 u8 u9 u10 u11 u12 u13 u14 u15 u16 u17 u18 u19 u20 u21 u22 u23 u24 u25 u26 u27 u28 u29 u30 : Value), a' = { tmps := #[.slice A n c, undef, .int .i64 0, .int .i64 0, .int .i64 0, .int .u64 u, .int .i64 i, u7, u8, u9, u10, u11, u12, u13, u14, u15, u16, u17, u18, u19, u20, u21, u22, u23, u24, u25, u26, u27, u28, u29, u30, undef, undef, undef], defers := [] } ∧ i ≤ 9 ∧ i ≤ n ∧ u < 2 ^ (7 * i) ∧ got (l.drop i) i u = got l 0 0
def getLeft (n : Nat) (a' : Act) (_ : World) : Nat := n - (intOf (a'.tmps.getD 6 undef)).toNat
theorem or_is (u i m : Nat) (hu : u < 2 ^ (7 * i)) (hi : i ≤ 9) (hm : m < 128) (h9 : i = 9 → m ≤ 1) :
  bits .or .u64 (u : Int) (IntKind.u64.wrap ((m : Int) * 2 ^ (7 * i))) = ((u + m * 2 ^ (7 * i) : Nat) : Int) ∧ u + m * 2 ^ (7 * i) < 18446744073709551616 ∧ (i < 9 → u + m * 2 ^ (7 * i) < 2 ^ (7 * (i + 1))) := by
 have hp : (2 : Nat) ^ (7 * i) ≤ 2 ^ 63 := Nat.pow_le_pow_right (by omega) (by omega)
 have hs : 2 ^ (7 * (i + 1)) = 128 * 2 ^ (7 * i) := by rw [show 7 * (i + 1) = 7 + 7 * i from by omega, Nat.pow_add]
 have h1 : i < 9 → u + m * 2 ^ (7 * i) < 2 ^ (7 * (i + 1)) := fun _ => by
  have : (m + 1) * 2 ^ (7 * i) ≤ 128 * 2 ^ (7 * i) := Nat.mul_le_mul_right _ (by omega)
  rw [Nat.add_mul] at this
  omega
 have h2 : u + m * 2 ^ (7 * i) < 18446744073709551616 := by
  by_cases h : i < 9
  ·have := h1 h
   have : (2 : Nat) ^ (7 * (i + 1)) ≤ 2 ^ 63 := Nat.pow_le_pow_right (by omega) (by omega)
   omega
  ·have := Nat.mul_le_mul_right (2 ^ (7 * i)) (h9 (by omega))
   omega
 refine ⟨?_, h2, h1⟩
 have e : IntKind.u64.wrap ((m : Int) * 2 ^ (7 * i)) = ((m * 2 ^ (7 * i) : Nat) : Int) := by
  have e0 : (m : Int) * 2 ^ (7 * i) = ((m * 2 ^ (7 * i) : Nat) : Int) := by push_cast; rfl
  rw [e0, IntKind.wrap_u64]
  omega
 rw [e, u64_or_nat u _ (by omega) (by omega), Nat.or_comm, nat_join (7 * i) _ u (Nat.mul_mod_left _ _) hu, Nat.add_comm]
theorem got_end {l : List UInt8} {i u : Nat} (h : l.length ≤ i) : got (l.drop i) i u = (0, 0, 3) := by
 rw [List.drop_eq_nil_of_le h]; rfl
theorem got_at {l : List UInt8} {i : Nat} (h : i < l.length) (u : Nat) : got (l.drop i) i u = if badAt (l.getD i 0).toNat i then (0, 0, 2) else if 128 ≤ (l.getD i 0).toNat then got (l.drop (i + 1)) (i + 1) (u + (l.getD i 0).toNat % 128 * 2 ^ (7 * i)) else (u + (l.getD i 0).toNat * 2 ^ (7 * i), i + 1, 0) := by
 rw [List.drop_eq_getElem_cons h, got, List.getD_eq_getElem?_getD, List.getElem?_eq_getElem h]; rfl
theorem tup_of {l : List UInt8} {u k e : Nat} (h : got l 0 0 = (u, k, e)) : gN l = zag u ∧ gK l = k ∧ gE l = e := by
 unfold gN gK gE; rw [h]; exact ⟨rfl, rfl, rfl⟩
theorem three_of {a b c a' b' c' : Int} (h : a = a' ∧ b = b' ∧ c = c') : Ending.returned (.tuple #[.int .i64 a, .int .i64 b, .int .i64 c]) = .returned (.tuple #[.int .i64 a', .int .i64 b', .int .i64 c']) := by rw [h.1, h.2.1, h.2.2]
theorem not_bad {q i : Nat} (h : badAt q i = false) : (i = 9 → q ≤ 1) ∧ (0 < i → q ≠ 0) := by
 simp only [badAt, Bool.or_eq_false_iff, Bool.and_eq_false_iff, beq_eq_false_iff_ne, decide_eq_false_iff_not] at h
 refine ⟨fun e => ?_, fun h0 => ?_⟩
 ·rcases h.1 with h | h <;> omega
 ·rcases h.2 with h | h
  ·omega
  ·exact h
theorem or_big {u i q : Nat} (hu : u < 2 ^ (7 * i)) (hi : i ≤ 9) (hb : badAt q i = false) (hq : 128 ≤ q) :
  i < 9 ∧ ∃ v : Nat, bits .or .u64 (u : Int) (IntKind.u64.wrap ((q : Int) % 128 * 2 ^ (7 * i))) = (v : Int) ∧ v < 2 ^ (7 * (i + 1)) ∧ v = u + q % 128 * 2 ^ (7 * i) := by
 have h9 : i < 9 := Nat.lt_of_le_of_ne hi fun e => by have := (not_bad hb).1 e; omega
 obtain ⟨h1, h2, h3⟩ := or_is u i (q % 128) hu hi (by omega) (fun e => by omega)
 exact ⟨h9, _, by rw [← h1]; rfl, h3 h9, rfl⟩
theorem or_last {u i q : Nat} (hu : u < 2 ^ (7 * i)) (hi : i ≤ 9) (hb : badAt q i = false) (hq : ¬ 128 ≤ q) :
  ∃ v : Nat, bits .or .u64 (u : Int) (IntKind.u64.wrap ((q : Int) % 128 * 2 ^ (7 * i))) = (v : Int) ∧ v < 18446744073709551616 ∧ v = u + q * 2 ^ (7 * i) := by
 obtain ⟨h1, h2, h3⟩ := or_is u i q hu hi (by omega) (not_bad hb).1
 exact ⟨_, by rw [show (q : Int) % 128 = (q : Int) from by omega]; exact h1, h2, rfl⟩
theorem or_first {q : Nat} : bits .or .u64 0 ((q : Int) % 128) = ((q % 128 : Nat) : Int) := by
 rw [show (q : Int) % 128 = ((q % 128 : Nat) : Int) from rfl, show (0 : Int) = ((0 : Nat) : Int) from rfl, u64_or_nat 0 _ (by omega) (by omega), Nat.zero_or]
set_option maxRecDepth 100000 in
set_option maxHeartbeats 2000000 in
theorem getInt_any (A : Option Addr) (n c : Nat) (l : List UInt8) (w : World) (B : Nat) (hr : HasB w B A n c l) :
  Calls Tryd.prog 54 #[.slice A n c] w fun e w' => e = .returned (.tuple #[.int .i64 (gN l), .int .i64 (gK l : Nat), .int .i64 (gE l : Nat)]) ∧ w = w' := by
 have hn := hr.lenMax
 have hll := Lib.hid hr.len
 go_enter Tryd.func54, Tryd.ntmps54
 go_wp2
 refine wp_scope_jumps 0 (GetAt w A n c l) (getLeft n) rfl ?_ ?_
 ·by_cases hlt : 0 < n
  ·obtain ⟨b, o, q, rfl, hb, hc, hq, eq⟩ := hr.at_ hlt
   rw [Nat.add_zero] at hc
   have hne : ((0 : Int) == (n : Int)) = false := by simp; omega
   have Hbad := Lib.hid (bad_0 q)
   have Hat := Lib.hid (got_at (l := l) (i := 0) (by rw [hll.out]; exact hlt) 0)
   obtain ⟨v, hv, hv2⟩ : ∃ v : Nat, bits .or .u64 0 ((q : Int) % 128) = (v : Int) ∧ v = q % 128 := ⟨_, or_first, rfl⟩
   have Hv := Lib.hid hv2
   clear hv2
   by_cases hq8 : 128 ≤ q
   ·go_wp2
    go_step3
    go_wp2_with (go_at_call 68; refine (mayStand_any q 0 hq (by omega) _).mono ?_; rw [Hbad.out]; rintro e w' ⟨rfl, rfl⟩)
    go_step3
    exact ⟨rfl, rfl, 1, v, _, _, _, _, _, _, _, _, _, _, _, _, _, _, _, _, _, _, _, _, _, _, _, _, rfl, by omega, by omega, by rw [Hv.out]; exact Nat.mod_lt _ (by decide), by
     have h := Hat.out
     rw [← eq.out, if_neg (by rw [Hbad.out]; simp), if_pos hq8] at h
     rw [Hv.out]
     simpa using h.symm⟩
   ·go_wp2
    go_step3
    go_wp2_with (go_at_call 68; refine (mayStand_any q 0 hq (by omega) _).mono ?_; rw [Hbad.out]; rintro e w' ⟨rfl, rfl⟩)
    refine (unfolded_any v (by rw [Hv.out]; omega) _).mono ?_
    rintro e w' ⟨rfl, rfl⟩
    go_wp2
    simp only [Exit.jump]
    go_ret3
    exact ⟨three_of (by
     have h := Hat.out
     rw [← eq.out, if_neg (by rw [Hbad.out]; simp), if_neg hq8] at h
     obtain ⟨h1, h2, h3⟩ := tup_of (l := l) (u := v) (k := 1) (e := 0) (by rw [Hv.out, Nat.mod_eq_of_lt (by omega)]; simpa using h)
     rw [h1, h2, h3]; exact ⟨rfl, rfl, rfl⟩), rfl⟩
  ·obtain rfl : n = 0 := by omega
   have H : Hid (got l 0 0 = (0, 0, 3)) := Lib.hid (got_end (i := 0) (by rw [hll.out]; exact Nat.le_refl 0))
   go_wp2
   go_step3
   go_wp2
   simp only [Exit.jump]
   go_ret3
   exact ⟨three_of (by obtain ⟨h1, h2, h3⟩ := tup_of H.out; rw [h1, h2, h3]; exact ⟨rfl, rfl, rfl⟩), rfl⟩
 ·rintro a' w' ⟨rfl, i, u, u7, u8, u9, u10, u11, u12, u13, u14, u15, u16, u17, u18, u19, u20, u21, u22, u23, u24, u25, u26, u27, u28, u29, u30, rfl, hi, hin, hu, hg⟩
  have Hg := Lib.hid hg
  have Hu := Lib.hid hu
  clear hg hu
  by_cases hlt : i < n
  ·obtain ⟨b, o, q, rfl, hb, hc, hq, eq⟩ := hr.at_ hlt
   have hne : ((i : Int) == (n : Int)) = false := by simp; omega
   have Hat := Lib.hid (got_at (l := l) (i := i) (by rw [hll.out]; exact hlt) u)
   cases hbad : badAt q i
   ·have Hbad := Lib.hid hbad
    clear hbad
    by_cases hq8 : 128 ≤ q
    ·obtain ⟨hi9, v, hv, hv1, hv2⟩ := or_big Hu.out hi Hbad.out hq8
     have Hv1 := Lib.hid hv1
     have Hv2 := Lib.hid hv2
     clear hv1 hv2
     go_wp2_with (go_at_call 68; refine (mayStand_any q i hq (by omega) _).mono ?_; rw [Hbad.out]; rintro e w' ⟨rfl, rfl⟩)
     go_step3
     exact ⟨rfl, ⟨rfl, i + 1, v, _, _, _, _, _, _, _, _, _, _, _, _, _, _, _, _, _, _, _, _, _, _, _, _, rfl, by omega, by omega, Hv1.out, by
      have h := Hat.out
      rw [← eq.out, if_neg (by rw [Hbad.out]; simp), if_pos hq8, ← Hv2.out, Hg.out] at h
      exact h.symm⟩, by simp [getLeft, intOf]; omega⟩
    ·obtain ⟨v, hv, hv1, hv2⟩ := or_last Hu.out hi Hbad.out hq8
     have Hv1 := Lib.hid hv1
     have Hv2 := Lib.hid hv2
     clear hv1 hv2
     go_wp2_with (go_at_call 68; refine (mayStand_any q i hq (by omega) _).mono ?_; rw [Hbad.out]; rintro e w' ⟨rfl, rfl⟩)
     refine (unfolded_any v Hv1.out _).mono ?_
     rintro e w' ⟨rfl, rfl⟩
     go_wp2
     simp only [Exit.jump]
     go_ret3
     exact ⟨three_of (by
      have h := Hat.out
      rw [← eq.out, if_neg (by rw [Hbad.out]; simp), if_neg hq8, ← Hv2.out, Hg.out] at h
      obtain ⟨h1, h2, h3⟩ := tup_of h
      rw [h1, h2, h3]; exact ⟨rfl, rfl, rfl⟩), rfl⟩
   ·have Hbad := Lib.hid hbad
    clear hbad
    go_wp2_with (go_at_call 68; refine (mayStand_any q i hq (by omega) _).mono ?_; rw [Hbad.out]; rintro e w' ⟨rfl, rfl⟩)
    simp only [Exit.jump]
    go_ret3
    exact ⟨three_of (by
      have h := Hat.out
      rw [← eq.out, if_pos Hbad.out, Hg.out] at h
      obtain ⟨h1, h2, h3⟩ := tup_of h
      rw [h1, h2, h3]; exact ⟨rfl, rfl, rfl⟩), rfl⟩
  ·obtain rfl : i = n := by omega
   have H : Hid (got l 0 0 = (0, 0, 3)) := Lib.hid (by rw [← Hg.out]; exact got_end (by rw [hll.out]; exact Nat.le_refl _))
   go_wp2
   simp only [Exit.jump]
   go_ret3
   exact ⟨three_of (by obtain ⟨h1, h2, h3⟩ := tup_of H.out; rw [h1, h2, h3]; exact ⟨rfl, rfl, rfl⟩), rfl⟩
end Go.Proofs.YtmcccpbpijnbmaaDoor
namespace Go.Proofs.YtmcccpbpijnbmaaDoor
set_option maxRecDepth 100000
open Go.RowKit

def RefAt (l : List UInt8) (i u : Nat) : Prop := u < 2 ^ (7 * i) ∧ got (l.drop i) i u = got l 0 0 ∧ (0 < i → u % 2 = (l.getD 0 0).toNat % 2)
def inR (u q i k : Nat) : Nat := (u + q % 2 ^ k * 2 ^ (7 * i)) / 2
theorem in_none (u q i : Nat) : inR u q i 0 = u / 2 := by simp [inR, Nat.mod_one]
theorem bit_add (q k : Nat) : q % 2 ^ (k + 1) = q % 2 ^ k + q / 2 ^ k % 2 * 2 ^ k := by
 rw [Nat.pow_succ, Nat.mod_mul, Nat.mul_comm (2 ^ k)]
theorem in_next (u q i k : Nat) : inR u q i (k + 1) = (u + q % 2 ^ k * 2 ^ (7 * i) + q / 2 ^ k % 2 * 2 ^ (7 * i + k)) / 2 := by
 unfold inR
 rw [bit_add, Nat.add_mul, Nat.mul_assoc, ← Nat.pow_add, Nat.add_comm k, Nat.add_assoc]
theorem bit_of {q k : Nat} {t : Bool} (h : (((q : Int) / 2 ^ k).tmod 2 == 1) = t) : q / 2 ^ k % 2 = if t then 1 else 0 := by
 rw [show ((q : Int) / 2 ^ k) = ((q / 2 ^ k : Nat) : Int) from by push_cast; rfl, show ((q / 2 ^ k : Nat) : Int).tmod 2 = ((q / 2 ^ k % 2 : Nat) : Int) from rfl] at h
 have hm : q / 2 ^ k % 2 < 2 := Nat.mod_lt _ (by decide)
 generalize q / 2 ^ k % 2 = x at *
 cases t
 ·rw [if_neg (by simp)]
  have : (x : Int) ≠ 1 := fun e => by rw [e] at h; simp at h
  omega
 ·rw [if_pos rfl]
  have := eq_of_beq h
  omega
theorem in_on {u q i k : Nat} (hu : u < 2 ^ (7 * i)) (_hi : i ≤ 9) (h9 : i = 9 → q ≤ 1) (hk : k < 7) (h0 : 1 ≤ 7 * (i : Int) + k) (_ : 7 * (i : Int) + k - 1 < 63) (h : (((q : Int) / 2 ^ k).tmod 2 == 1) = true) :
  wrap64 (((inR u q i k : Nat) : Int) + wrap64 (2 ^ (7 * i + k - 1))) = ((inR u q i (k + 1) : Nat) : Int) := by
 have hb := bit_of h
 rw [if_pos rfl] at hb
 have hn := in_next u q i k
 have e : 2 ^ (7 * i + k) = 2 * 2 ^ (7 * i + k - 1) := by rw [← Nat.pow_succ']; congr 1; omega
 rw [hb, Nat.one_mul, e, Nat.add_mul_div_left _ _ (by decide)] at hn
 have hk' : inR u q i k = (u + q % 2 ^ k * 2 ^ (7 * i)) / 2 := rfl
 rw [← hk'] at hn
 have hk0 : i = 9 → k = 0 := fun e9 => by
  have h1 := h9 e9
  rcases Nat.eq_zero_or_pos k with h2 | h2
  ·exact h2
  ·have : q < 2 ^ k := Nat.lt_of_le_of_lt h1 (Nat.one_lt_two_pow (by omega))
   rw [Nat.div_eq_of_lt this] at hb
   simp at hb
 have hp : (2 : Nat) ^ (7 * i + k - 1) ≤ 2 ^ 62 := Nat.pow_le_pow_right (by omega) (by omega)
 have hlow : inR u q i k < 2 ^ 62 := by
  unfold inR
  have h1 : q % 2 ^ k < 2 ^ k := Nat.mod_lt _ (Nat.two_pow_pos k)
  have h2 : (q % 2 ^ k + 1) * 2 ^ (7 * i) ≤ 2 ^ k * 2 ^ (7 * i) := Nat.mul_le_mul_right _ h1
  rw [← Nat.pow_add, Nat.add_mul, Nat.one_mul] at h2
  have h3 : (2 : Nat) ^ (k + 7 * i) ≤ 2 ^ 63 := Nat.pow_le_pow_right (by omega) (by omega)
  omega
 rw [hn, show ((2 : Int) ^ (7 * i + k - 1)) = ((2 ^ (7 * i + k - 1) : Nat) : Int) from by push_cast; rfl]
 generalize 2 ^ (7 * i + k - 1) = x at *
 generalize inR u q i k = y at *
 clear hb hn e h hk'
 unfold wrap64
 omega
theorem in_off {u q i k : Nat} (h : (((q : Int) / 2 ^ k).tmod 2 == 1) = false) : inR u q i (k + 1) = inR u q i k := by
 have hb := bit_of h
 rw [in_next, hb]
 simp [inR]
theorem in_far {u q i k : Nat} (h9 : i = 9 → q ≤ 1) (hi : i ≤ 9) (hk : k < 7) (h : ¬ 7 * (i : Int) + k - 1 < 63) : inR u q i (k + 1) = inR u q i k := by
 have h1 := h9 (by omega)
 have : q < 2 ^ k := Nat.lt_of_le_of_lt h1 (Nat.one_lt_two_pow (by omega))
 rw [in_next, Nat.div_eq_of_lt this]
 simp [inR]
theorem in_first {u q i k : Nat} (hu : u < 2 ^ (7 * i)) (h : ¬ 1 ≤ 7 * (i : Int) + k) : inR u q i (k + 1) = inR u q i k := by
 obtain rfl : i = 0 := by omega
 obtain rfl : k = 0 := by omega
 simp at hu
 subst hu
 simp [inR]
 omega

theorem ref_step {l : List UInt8} {i u q : Nat} (h : RefAt l i u) (eq : q = (l.getD i 0).toNat) (hl : i < l.length) :
  got l 0 0 = if badAt q i then (0, 0, 2) else if 128 ≤ q then got (l.drop (i + 1)) (i + 1) (u + q % 128 * 2 ^ (7 * i)) else (u + q * 2 ^ (7 * i), i + 1, 0) := by
 rw [← h.2.1, got_at hl u, eq]
theorem par_is {l : List UInt8} {i u q m : Nat} (h : RefAt l i u) (eq : q = (l.getD i 0).toNat) (hm : m % 2 = q % 2) : (u + m * 2 ^ (7 * i)) % 2 = (l.getD 0 0).toNat % 2 := by
 rcases Nat.eq_zero_or_pos i with h0 | h0
 ·subst h0
  have := h.1
  simp at this
  rw [this, ← eq]
  simpa using hm
 ·rw [show 7 * i = (7 * i - 1) + 1 from by omega, Nat.pow_succ, ← Nat.mul_assoc, Nat.add_mul_mod_self_right]
  exact h.2.2 h0
theorem ref_next {l : List UInt8} {i u q : Nat} (h : RefAt l i u) (h9 : i = 9 → q ≤ 1) (hi : i ≤ 9) (hq : 128 ≤ q) (eq : q = (l.getD i 0).toNat) (hl : i < l.length) :
  i + 1 ≤ 9 ∧ RefAt l (i + 1) (u + q % 128 * 2 ^ (7 * i)) := by
 have hq2 : q < 256 := by rw [eq]; exact UInt8.toNat_lt _
 have hb : badAt q i = false := by
  simp only [badAt, Bool.or_eq_false_iff, Bool.and_eq_false_iff, beq_eq_false_iff_ne, decide_eq_false_iff_not]
  exact ⟨.inl (fun e => by have := h9 e; omega), .inr (by omega)⟩
 obtain ⟨h1, v, _, hv, rfl⟩ := or_big h.1 hi hb hq
 have hs := ref_step h eq hl
 rw [if_neg (by rw [hb]; simp), if_pos hq] at hs
 exact ⟨h1, hv, hs.symm, fun _ => par_is h eq (by omega)⟩
theorem tell_of {l : List UInt8} {u k e : Nat} (h : got l 0 0 = (u, k, e)) {a b c : Int} (ha : a = zag u) (hb : b = k) (hc : c = e) : a = gN l ∧ b = ((gK l : Nat) : Int) ∧ c = ((gE l : Nat) : Int) := by
 obtain ⟨h1, h2, h3⟩ := tup_of h
 rw [h1, h2, h3]
 exact ⟨ha, hb, hc⟩
theorem ref_short {l : List UInt8} {i u : Nat} (h : RefAt l i u) (hl : l.length ≤ i) : (0 : Int) = gN l ∧ (0 : Int) = ((gK l : Nat) : Int) ∧ (3 : Int) = ((gE l : Nat) : Int) :=
 tell_of (h.2.1.symm.trans (got_end hl)) rfl rfl rfl
theorem ref_nine {l : List UInt8} {u q : Nat} (h : RefAt l 9 u) (eq : q = (l.getD 9 0).toNat) (hl : 9 < l.length) (h1 : 1 < q) : (0 : Int) = gN l ∧ (0 : Int) = ((gK l : Nat) : Int) ∧ (2 : Int) = ((gE l : Nat) : Int) := by
 have hs := ref_step h eq hl
 rw [if_pos (by rw [bad_9, decide_eq_true h1]; rfl)] at hs
 exact tell_of hs rfl rfl rfl
theorem ref_zero {l : List UInt8} {i u q : Nat} (h : RefAt l i u) (eq : q = (l.getD i 0).toNat) (hl : i < l.length) (hz : q = 0) (hi : 0 < i) : (0 : Int) = gN l ∧ (0 : Int) = ((gK l : Nat) : Int) ∧ (2 : Int) = ((gE l : Nat) : Int) := by
 have hs := ref_step h eq hl
 rw [if_pos (by simp [badAt, hz, hi])] at hs
 exact tell_of hs rfl rfl rfl
theorem ref_last {l : List UInt8} {i u q : Nat} (h : RefAt l i u) (h9 : i = 9 → q ≤ 1) (hi : i ≤ 9) (hq : ¬ 128 ≤ q) (eq : q = (l.getD i 0).toNat) (hl : i < l.length) (hz : ¬ (q = 0 ∧ 0 < i)) :
  (∀ t : Bool, ((((l.getD 0 0).toNat : Int) % 2 == 1) = t) → (if t then wrap64 (wrap64 (-((inR u q i 7 : Nat) : Int)) - 1) else ((inR u q i 7 : Nat) : Int)) = gN l) ∧ (i : Int) + 1 = ((gK l : Nat) : Int) ∧ (0 : Int) = ((gE l : Nat) : Int) := by
 have hb : badAt q i = false := by
  simp only [badAt, Bool.or_eq_false_iff, Bool.and_eq_false_iff, beq_eq_false_iff_ne, decide_eq_false_iff_not]
  exact ⟨by by_cases e : i = 9; (· exact .inr (by have := h9 e; omega)); (· exact .inl e), by by_cases e : 0 < i; (· exact .inr (fun e0 => hz ⟨e0, e⟩)); (· exact .inl e)⟩
 have hs := ref_step h eq hl
 rw [if_neg (by rw [hb]; simp), if_neg hq] at hs
 obtain ⟨v, _, hv, rfl⟩ := or_last h.1 hi hb hq
 have hp := par_is h eq (m := q) rfl
 have hin : inR u q i 7 = (u + q * 2 ^ (7 * i)) / 2 := by unfold inR; rw [Nat.mod_eq_of_lt (by omega)]
 obtain ⟨h1, h2, h3⟩ := tup_of hs
 rw [h1, h2, h3, hin]
 generalize u + q * 2 ^ (7 * i) = v at hv hp
 refine ⟨fun t ht => ?_, by omega, rfl⟩
 unfold zag
 cases t
 ·have : ((l.getD 0 0).toNat : Int) % 2 ≠ 1 := fun e => by rw [e] at ht; simp at ht
  rw [if_neg (by simp), if_pos (by omega)]
 ·have := eq_of_beq ht
  rw [if_pos rfl, if_neg (by omega)]
  unfold wrap64
  omega
theorem HasB.cellAt {w : World} {B b o n c : Nat} {l : List UInt8} (h : HasB w B (some ⟨b, o, none⟩) n c l) {k : Nat} (hk : k < n) : w.cell? ⟨b, o + k, none⟩ = some (.int .u8 ((l.getD k 0).toNat : Int)) := by
 obtain ⟨b', o', q, e, _, hc, _, eq⟩ := h.at_ hk
 injection e with e
 injection e with e1 e2
 subst e1 e2
 rw [hc, eq.out]
set_option maxRecDepth 100000 in
set_option maxHeartbeats 2000000 in
theorem refGet_any (A : Option Addr) (n c : Nat) (l : List UInt8) (w : World) (B : Nat) (hr : HasB w B A n c l) :
  Calls Tryd.prog 38 #[.slice A n c] w fun e w' => e = .returned (.tuple #[.int .i64 (gN l), .int .i64 (gK l : Nat), .int .i64 (gE l : Nat)]) ∧ w = w' := by
 have hn := hr.lenMax
 have hll := Lib.hid hr.len
 go_enter Tryd.func38, Tryd.ntmps38
 go_wp2
 go_loop [5, 6] (fun r x => ∃ i u : Nat, x = .int .i64 i ∧ r = .int .i64 ((u / 2 : Nat) : Int) ∧ i ≤ n ∧ i ≤ 9 ∧ Hid (RefAt l i u)) (fun _ x => n - (intOf x).toNat)
 case atStart => exact ⟨0, 0, rfl, rfl, by omega, by omega, Lib.hid ⟨by simp, rfl, fun h => absurd h (by omega)⟩⟩
 case round =>
  obtain ⟨i, u, rfl, rfl, hin, hi9, hx⟩ := hrel
  have Hu := Lib.hid hx.out.1
  by_cases hlt : i < n
  ·obtain ⟨b, o, q, rfl, hb, hc, hq, eq⟩ := hr.at_ hlt
   by_cases h9 : i = 9 ∧ 1 < q
   ·obtain ⟨rfl, h1⟩ := h9
    have HF := Lib.hid (ref_nine hx.out eq.out (by rw [hll.out]; exact hlt) h1)
    go_wp2
    go_ret3
    exact ⟨three_of HF.out, rfl⟩
   ·generalize hm : u / 2 = m at *
    have Hm := Lib.hid hm
    clear hm
    have hq1 : Hid (i = 9 → q ≤ 1) := Lib.hid fun e => by omega
    obtain ⟨t, ht⟩ : ∃ t, ((i : Int) == 9) = t := ⟨_, rfl⟩
    have htd : t = true → decide (1 < (q : Int)) = false := fun e => by
     have : i = 9 := by rw [e] at ht; simp at ht; omega
     have := hq1.out this
     simp; omega
    clear h9
    cases t
    case' false => clear htd
    case' true => have hq2 : decide (1 < (q : Int)) = false := htd rfl; clear htd
    all_goals
     go_wp2
     go_loop [5, 8] (fun r x => ∃ k : Nat, x = .int .i64 k ∧ r = .int .i64 (inR u q i k : Nat) ∧ k ≤ 7) (fun _ x => 7 - (intOf x).toNat)
     case atStart => exact ⟨0, rfl, by rw [in_none]; exact congrArg (fun z : Nat => Value.int .i64 z) Hm.out.symm, by omega⟩
     case round =>
      obtain ⟨k, rfl, rfl, hk⟩ := hrel
      by_cases hk7 : k < 7
      ·go_wp2
       all_goals
        go_round
        case rel => exact ⟨k + 1, by go_num, congrArg (Value.int .i64) (by first | exact in_on Hu.out hi9 hq1.out hk7 (by assumption) (by assumption) (by assumption) | (congr 1; first | exact (in_off (by assumption)).symm | exact (in_far hq1.out hi9 hk7 (by assumption)).symm | exact (in_first Hu.out (by assumption)).symm)), by omega⟩
        case measure => simp [intOf]; omega
      ·obtain rfl : k = 7 := by omega
       generalize hy : inR u q i 7 = y
       have Hy := Lib.hid hy
       clear hy
       by_cases hq8 : 128 ≤ q
       ·have HR := Lib.hid (ref_next hx.out hq1.out hi9 hq8 eq.out (by rw [hll.out]; exact hlt))
        go_wp2
        go_round
        case rel => exact ⟨i + 1, u + q % 128 * 2 ^ (7 * i), by go_num, congrArg (fun z : Nat => Value.int .i64 z) (by rw [← Hy.out]; rfl), by omega, HR.out.1, Lib.hid HR.out.2⟩
        case measure => simp [intOf]; omega
       ·by_cases hz : q = 0 ∧ 0 < i
        ·obtain ⟨hz1, hz2⟩ := hz
         have HF := Lib.hid (ref_zero hx.out eq.out (by rw [hll.out]; exact hlt) hz1 hz2)
         go_wp2
         go_ret3
         exact ⟨three_of HF.out, rfl⟩
        ·have hc0 := hr.cellAt (k := 0) (by omega)
         rw [Nat.add_zero] at hc0
         generalize hq0 : (l.getD 0 0).toNat = q0 at hc0
         have Hq0 := Lib.hid hq0
         have hq0l : q0 < 256 := by rw [← hq0]; exact UInt8.toNat_lt _
         clear hq0
         have HF := Lib.hid (ref_last hx.out hq1.out hi9 hq8 eq.out (by rw [hll.out]; exact hlt) hz)
         have Hz := Lib.hid hz
         clear hz
         go_wp2
         all_goals
          first
           | (exfalso; exact Hz.out ⟨by assumption, by assumption⟩)
           | (go_ret3
              exact ⟨three_of ⟨by
               first
                | (have h := HF.out.1 true (by rw [Hq0.out]; assumption)
                   rw [Hy.out, if_pos rfl] at h
                   exact h)
                | (have h := HF.out.1 false (by rw [Hq0.out]; assumption)
                   rw [Hy.out, if_neg (by simp)] at h
                   exact h), HF.out.2.1, HF.out.2.2⟩, rfl⟩)
  ·have HF := Lib.hid (ref_short hx.out (by rw [hll.out]; omega))
   go_wp2
   go_ret3
   exact ⟨three_of HF.out, rfl⟩
end Go.Proofs.YtmcccpbpijnbmaaDoor
