/- Layer 3: size, head, lengthOf. -/
import Derived.Test.YtpegmingmcedmaaFrameM
import Derived.Test.YtpegmingmcedmaaCrcB
import Derived.Test.YtpegmingmcedmaaClone
import Derived.IntWalk
namespace Go.Proofs.Ytpegmingmcedmaa
open Go.RowKit

theorem size_any (n : Nat) (hn : n ≤ 1000000000) (w : World) :
    Calls Try.prog 21 #[.int .i64 n] w fun e w' => e = .returned (.int .i64 ((n : Int) + 9)) ∧ w = w' := by
  go_enter Try.func21, Try.ntmps21
  go_wp2
  go_ret
  exact ⟨i64_of (by omega), rfl⟩

theorem frHd_cells (n k : Nat) (hn : n < 4294967296) (hk : k < 256) : #[Value.int .u8 ((n : Int) % 256), Value.int .u8 ((n : Int) / 256 % 256), Value.int .u8 ((n : Int) / 65536 % 256), Value.int .u8 ((n : Int) / 16777216), Value.int .u8 (k : Int)] = ((frHd n k).map byt).toArray := by
  have h (k : Nat) : byt (UInt8.ofNat k) = .int .u8 ((k : Int) % 256) := by
    unfold byt; rw [UInt8.toNat_ofNat']; congr 1
  have h4 : (n : Int) / 16777216 = ((n / 16777216 : Nat) : Int) % 256 := by omega
  have h5 : (k : Int) = (k : Int) % 256 := by omega
  simp only [frHd, List.map_cons, List.map_nil, h]
  rw [h4, ← h5]
  rfl
theorem head_any (n k : Nat) (hn : n < 4294967296) (hk : k < 256) (w : World) :
    Calls Try.prog 22 #[.int .i64 n, .int .i64 k] w fun e w' => e = .returned (.slice (some ⟨w.heap.size, 0, none⟩) 5 5) ∧ w' = w.alloc (.cells ((frHd n k).map byt).toArray 5) := by
  go_enter Try.func22, Try.ntmps22
  go_wp2
  go_ret
  exact ⟨rfl, by rw [← frHd_cells n k hn hk]⟩

theorem i64_or_nat (a b : Nat) (ha : a < 9223372036854775808) (hb : b < 9223372036854775808) : bits .or .i64 (a : Int) (b : Int) = ((a ||| b : Nat) : Int) := by
  have hx : a ||| b < 2 ^ 63 := Nat.or_lt_two_pow (by omega) (by omega)
  show IntKind.i64.wrap ((BitVec.ofInt 64 (a : Int) ||| BitVec.ofInt 64 (b : Int)).toNat : Int) = _
  rw [BitVec.toNat_or, ofInt_u64 a (by omega), ofInt_u64 b (by omega), IntKind.wrap_i64]
  omega
/-- Four bytes put together by or. -/
theorem or_add (a b m : Nat) (h : a < 2 ^ m) : a ||| b * 2 ^ m = a + b * 2 ^ m := by
  rw [Nat.mul_comm b, Nat.or_comm, ← Nat.two_pow_add_eq_or_of_lt h, Nat.add_comm]
theorem or_four (q0 q1 q2 q3 : Nat) (h0 : q0 < 256) (h1 : q1 < 256) (h2 : q2 < 256) (h3 : q3 < 256) :
    bits .or .i64 (bits .or .i64 (bits .or .i64 (q0 : Int) ((q1 : Int) * 256)) ((q2 : Int) * 65536)) ((q3 : Int) * 16777216) = ((q0 + 256 * q1 + 65536 * q2 + 16777216 * q3 : Nat) : Int) := by
  have e1 := or_add q0 q1 8 h0
  have e2 := or_add (q0 + q1 * 2 ^ 8) q2 16 (by omega)
  have e3 := or_add (q0 + q1 * 2 ^ 8 + q2 * 2 ^ 16) q3 24 (by omega)
  rw [show (q1 : Int) * 256 = ((q1 * 2 ^ 8 : Nat) : Int) from by omega, show (q2 : Int) * 65536 = ((q2 * 2 ^ 16 : Nat) : Int) from by omega, show (q3 : Int) * 16777216 = ((q3 * 2 ^ 24 : Nat) : Int) from by omega]
  rw [i64_or_nat _ _ (by omega) (by omega), e1, i64_or_nat _ _ (by omega) (by omega), e2, i64_or_nat _ _ (by omega) (by omega), e3]
  congr 1; omega

theorem lengthOf_any (A : Option Addr) (n c : Nat) (l : List UInt8) (w : World) (B : Nat) (hr : HasB w B A n c l) (h4 : 4 ≤ n) :
    Calls Try.prog 26 #[.slice A n c] w fun e w' => e = .returned (.int .i64 (frLen l : Nat)) ∧ ∃ k, w' = w.drewN k := by
  obtain ⟨b, o, q0, rfl, hb, hc0, hq0, e0⟩ := hr.at_ (k := 0) (by omega)
  obtain ⟨b', o', q1, h, hb', hc1, hq1, e1⟩ := hr.at_ (k := 1) (by omega)
  injection h with h; injection h with h1 h2; subst h1 h2
  obtain ⟨b', o', q2, h, hb', hc2, hq2, e2⟩ := hr.at_ (k := 2) (by omega)
  injection h with h; injection h with h1 h2; subst h1 h2
  obtain ⟨b', o', q3, h, hb', hc3, hq3, e3⟩ := hr.at_ (k := 3) (by omega)
  injection h with h; injection h with h1 h2; subst h1 h2
  have hn := hr.lenMax
  rw [Nat.add_zero] at hc0
  have H : Hid (bits .or .i64 (bits .or .i64 (bits .or .i64 (q0 : Int) ((q1 : Int) * 256)) ((q2 : Int) * 65536)) ((q3 : Int) * 16777216) = ((frLen l : Nat) : Int)) := Lib.hid (by rw [or_four q0 q1 q2 q3 hq0 hq1 hq2 hq3]; unfold frLen; rw [← e0.out, ← e1.out, ← e2.out, ← e3.out])
  go_enter Try.func26, Try.ntmps26
  go_wp2
  go_quiet (fail)
  go_wp2
  go_ret
  exact ⟨i64_of H.out, _, rfl⟩
end Go.Proofs.Ytpegmingmcedmaa
