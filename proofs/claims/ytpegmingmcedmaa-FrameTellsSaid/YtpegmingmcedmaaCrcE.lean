/- Layer 1: the reference's Turned. -/
import Derived.Test.YtpegmingmcedmaaCrcC
import Derived.Test.YtpegmingmcedmaaCrcBits
import Derived.IntWalk
import Derived.BigRegion
namespace Go.Proofs.Ytpegmingmcedmaa
open Go.RowKit

theorem shl_wrap (m : Nat) (hm : m < 8) : IntKind.u8.wrap ((2 : Int) ^ m) = ((2 ^ m : Nat) : Int) := by
  rcases (show m = 0 ∨ m = 1 ∨ m = 2 ∨ m = 3 ∨ m = 4 ∨ m = 5 ∨ m = 6 ∨ m = 7 from by omega) with rfl | rfl | rfl | rfl | rfl | rfl | rfl | rfl <;> rfl

/-- What holds of Turned's own row while its bits are turned. -/
def TurnAt (w : World) (g n cap : Nat) (l : List UInt8) (f t : Nat) (k : Nat) (wr : World) : Prop :=
  OwnB wr w.heap.size 5 (.slice (some ⟨g, 0, none⟩) n cap) (turnT l f t k) ∧ Below w.heap.size w wr

set_option maxRecDepth 100000 in
set_option maxHeartbeats 2000000 in
theorem turned_any (A : Option Addr) (n c : Nat) (l : List UInt8) (w : World) (B : Nat) (hr : HasB w B A n c l) (hsmall : n ≤ 1000004) (f t : Nat) (hf : f < 8 * n) (ht : t < 4294967296) :
    Calls Try.prog 20 #[.slice A n c, .int .i64 f, .int .u32 t] w fun e w' => (∃ v, e = .returned (.tuple #[v, .bool (someT n f t 32)]) ∧ OwnB w' w.heap.size 5 v (turnT l f t 32)) ∧ Below w.heap.size w w' := by
  have hlen := Lib.hid hr.len
  obtain ⟨i0, hi, hz0, hz1, hz2⟩ := info_parts info_u8
  go_enter Try.func20, Try.ntmps20
  go_wp2_with (at_builtin; refine wpList_app _ rfl _ _ 22 rfl w.heap.size 5 i0 (.int .u8 0) Try.underlying22 hi hz0 hz1 hz2 rfl _ [] rfl (OwnB.nil_ w w.heap.size 5) B _ n c l rfl hr (by simp; omega) (Nat.le_refl _) ?_)
  intro v1 w1 ho1 hg1
  have hbel : Below w.heap.size w w1 := (Below.refl _ _).grown hg1 (Nat.le_refl _) (fun g h => by cases h)
  clear hg1 hr
  obtain ⟨g, cap, rfl, hgb, hgl⟩ := OwnB.formG (l := l) ho1 (by have := hlen.out; omega)
  have hT : TurnAt w g n cap l f t 0 w1 := by rw [hlen.out] at ho1; exact ⟨ho1, hbel⟩
  rw [hlen.out]
  clear ho1 hbel hgl hi hz0 hz1 hz2
  go_wp2_with fail
  go_loopw [2, 9, 10] (fun b s i wr => ∃ k x : Nat, k ≤ 32 ∧ i = .int .i64 k ∧ b = .int .u32 x ∧ Hid (x < 4294967296) ∧ Hid (x = t / 2 ^ k) ∧ s = .bool (someT n f t k) ∧ TurnAt w g n cap l f t k wr) (fun _ _ i _ => 32 - (intOf i).toNat)
  case atStart => exact ⟨0, t, by omega, rfl, rfl, ht, by simp [Hid], rfl, hT⟩
  case round =>
    obtain ⟨k, x, hk, rfl, rfl, hx, ex, rfl, ho, hb⟩ := hrel
    clear hT ht
    by_cases h32 : k < 32
    · by_cases hbit : x % 2 = 1
      · have hod : (x : Int) % 2 = 1 := by omega
        by_cases hrange : (f + k) / 8 < n
        · obtain ⟨q, hq, hc, Hq⟩ : ∃ q : Nat, q < 256 ∧ wr.cell? ⟨g, (f + k) / 8, none⟩ = some (.int .u8 q) ∧ Hid (((turnT l f t k).getD ((f + k) / 8) 0).toNat = q) := ⟨_, ((turnT l f t k).getD ((f + k) / 8) 0).toNat_lt, ho.cell_ _ (by rw [turnT_length, hlen.out]; exact hrange), Lib.hid rfl⟩
          have hfr := ho.free ((f + k) / 8)
          have hr1 : ((f : Int) + (k : Int)) / 8 < (n : Int) := by omega
          go_wp2_with fail
          generalize hp : f + k = p at *
          have hs : IntKind.i64.wrap ((f : Int) + (k : Int)) = (p : Int) := by rw [IntWalk.i64_in _ (by omega)]; omega
          obtain ⟨j, hj⟩ : ∃ j, j = p / 8 := ⟨_, rfl⟩
          obtain ⟨m, hm⟩ : ∃ m, m = p % 8 := ⟨_, rfl⟩
          have hd : IntKind.i64.wrap ((p : Int) / 8) = (j : Int) := by rw [IntWalk.i64_in _ (by omega)]; omega
          have hmm : (p : Int).tmod 8 = (m : Int) := by rw [Int.tmod_eq_emod_of_nonneg (by omega)]; omega
          rw [← hj] at hc hfr Hq
          have hr2 : (j : Int) < (n : Int) := by omega
          have hm8 : m < 8 := by omega
          have hsh : IntKind.u8.wrap ((2 : Int) ^ m) = ((2 ^ m : Nat) : Int) := shl_wrap m hm8
          have hx1 : bits .xor .u8 (q : Int) ((2 : Int) ^ m) = ((q ^^^ 2 ^ m : Nat) : Int) := by
            rw [← u8_xor_nat q (2 ^ m) hq (pow_lt_256 hm8)]
            congr 1
          have Hp := Lib.hid hp
          have Hj := Lib.hid hj
          have Hm := Lib.hid hm
          have hset := Lib.hid (ho.set_ j (UInt8.ofNat (q ^^^ 2 ^ m)))
          have hbv : byt (UInt8.ofNat (q ^^^ 2 ^ m)) = .int .u8 ((q ^^^ 2 ^ m : Nat) : Int) := by
            unfold byt; rw [UInt8.toNat_ofNat', Nat.mod_eq_of_lt (Nat.xor_lt_two_pow (n := 8) hq (pow_lt_256 hm8))]
          rw [hbv] at hset
          clear hp hj hm hbv hr1
          go_region
          have hb2 : Hid (Below w.heap.size w (wr.setCell ⟨g, j, none⟩ (.int .u8 ((q ^^^ 2 ^ m : Nat) : Int))).drew) := Lib.hid (hb.setCell (p := ⟨g, j, none⟩) hgb _).drew
          have hhit : hit l.length f t k = true := by
            unfold hit
            rw [← ex.out, hlen.out, Hp.out, ← Hj.out]
            simp [hbit]; omega
          have ht1 : Hid (turnT l f t (k + 1) = (turnT l f t k).set j (UInt8.ofNat (q ^^^ 2 ^ m))) := Lib.hid (by
            show (if hit l.length f t k then flip (turnT l f t k) (f + k) else turnT l f t k) = _
            rw [if_pos hhit, Hp.out]
            unfold flip
            rw [← Hj.out, ← Hm.out, Hq.out])
          have hs1 : Hid (someT n f t (k + 1) = true) := Lib.hid (by
            show (hit n f t k || someT n f t k) = true
            rw [← hlen.out, hhit]; rfl)
          have ex2 : Hid (x / 2 = t / 2 ^ (k + 1)) := Lib.hid (by rw [Nat.pow_succ, ← Nat.div_div_eq_div_mul, ← ex.out])
          have hx2 : Hid (x / 2 < 4294967296) := Lib.hid (by have := hx.out; omega)
          have hxb := hx.out
          clear hhit ho hb
          go_wp2_with fail
          go_roundw
          case rel => exact ⟨k + 1, x / 2, by omega, by go_num, by go_num, hx2, ex2, by rw [hs1.out], by rw [ht1.out]; exact hset.out, hb2⟩
          case measure => simp [intOf]; omega
        · have hr1 : ¬ ((f : Int) + (k : Int)) / 8 < (n : Int) := by omega
          have hhit : hit n f t k = false := by simp only [hit, Bool.and_eq_false_iff, decide_eq_false_iff_not]; exact .inr hrange
          have ht1 : Hid (turnT l f t (k + 1) = turnT l f t k) := Lib.hid (turn_miss l f t k (by rw [hlen.out]; exact hhit))
          have hs1 : Hid (someT n f t (k + 1) = someT n f t k) := Lib.hid (some_miss hhit)
          have ex2 : Hid (x / 2 = t / 2 ^ (k + 1)) := Lib.hid (by rw [Nat.pow_succ, ← Nat.div_div_eq_div_mul, ← ex.out])
          have hx2 : Hid (x / 2 < 4294967296) := Lib.hid (by have := hx.out; omega)
          have hxb := hx.out
          clear hhit
          go_wp2_with fail
          go_roundw
          case rel => exact ⟨k + 1, x / 2, by omega, by go_num, by go_num, hx2, ex2, by rw [hs1.out], by rw [ht1.out]; exact ho, hb⟩
          case measure => simp [intOf]; omega
      · have hod : (x : Int) % 2 = 0 := by omega
        have hhit : hit n f t k = false := by
          simp only [hit, Bool.and_eq_false_iff, decide_eq_false_iff_not]
          refine .inl ?_
          rw [← ex.out]; exact hbit
        have ht1 : Hid (turnT l f t (k + 1) = turnT l f t k) := Lib.hid (turn_miss l f t k (by rw [hlen.out]; exact hhit))
        have hs1 : Hid (someT n f t (k + 1) = someT n f t k) := Lib.hid (some_miss hhit)
        have ex2 : Hid (x / 2 = t / 2 ^ (k + 1)) := Lib.hid (by rw [Nat.pow_succ, ← Nat.div_div_eq_div_mul, ← ex.out])
        have hx2 : Hid (x / 2 < 4294967296) := Lib.hid (by have := hx.out; omega)
        have hxb := hx.out
        clear hhit
        go_wp2_with fail
        go_roundw
        case rel => exact ⟨k + 1, x / 2, by omega, by go_num, by go_num, hx2, ex2, by rw [hs1.out], by rw [ht1.out]; exact ho, hb⟩
        case measure => simp [intOf]; omega
    · have hk32 : k = 32 := by omega
      subst hk32
      go_wp2_with fail
      go_ret2
      exact ⟨⟨_, rfl, ho⟩, hb⟩
theorem turned_int (A : Option Addr) (n c : Nat) (l : List UInt8) (w : World) (B : Nat) (hr : HasB w B A n c l) (hsmall : n ≤ 1000004) (f t : Int) (hf0 : 0 ≤ f) (hf : f < 8 * n) (ht0 : 0 ≤ t) (ht : t < 4294967296) :
    Calls Try.prog 20 #[.slice A n c, .int .i64 f, .int .u32 t] w fun e w' => (∃ v, e = .returned (.tuple #[v, .bool (someT n f.toNat t.toNat 32)]) ∧ OwnB w' w.heap.size 5 v (turnT l f.toNat t.toNat 32)) ∧ Below w.heap.size w w' := by
  obtain ⟨a, rfl⟩ := Int.eq_ofNat_of_zero_le hf0
  obtain ⟨b, rfl⟩ := Int.eq_ofNat_of_zero_le ht0
  exact turned_any A n c l w B hr hsmall a b (by omega) (by omega)
end Go.Proofs.Ytpegmingmcedmaa
