/- Layer 1: the reference's With and Turned, and the document's examples. -/
import Derived.Test.YtpegmingmcedmaaCrcB
import Derived.Test.YtpegmingmcedmaaClone
namespace Go.Proofs.Ytpegmingmcedmaa
open Go.RowKit

theorem le4_take (s k : Nat) (hk : k < 4) : (le4 s).take (k + 1) = (le4 s).take k ++ [UInt8.ofNat (s / 256 ^ k)] := by
  match k, hk with
  | 0, _ => simp [le4]
  | 1, _ => simp [le4]
  | 2, _ => simp [le4]
  | 3, _ => simp [le4]

set_option maxHeartbeats 800000 in
theorem with_any (A : Option Addr) (n c : Nat) (l : List UInt8) (w : World) (B : Nat) (hB : B ≤ w.heap.size) (hr : HasB w B A n c l) (hsmall : n ≤ 1000000) :
    Calls Try.prog 25 #[.slice A n c] w fun e w' => (∃ v, e = .returned v ∧ OwnB w' w.heap.size 5 v (l ++ le4 (more 0 l))) ∧ Below w.heap.size w w' := by
  have hlen := Lib.hid hr.len
  obtain ⟨i0, hi, hz0, hz1, hz2⟩ := info_parts info_u8
  go_enter Try.func25, Try.ntmps25
  go_wp2_with (first
    | (at_builtin; refine wpList_app _ rfl _ _ 22 rfl w.heap.size 5 i0 (.int .u8 0) Try.underlying22 hi hz0 hz1 hz2 rfl _ [] rfl (OwnB.nil_ w w.heap.size 5) B _ n c l rfl hr (by simp; omega) (Nat.le_refl _) ?_)
    | fail)
  intro v1 w1 ho1 hg1
  have hr1 := hr.grown hg1 hB (fun g h => by cases h)
  have hbel : Below w.heap.size w w1 := (Below.refl _ _).grown hg1 (Nat.le_refl _) (fun g h => by cases h)
  have hsz := hbel.size
  have hml := more_lt 0 l
  clear hg1
  go_wp2_with (go_at_call 30; refine (ref_sum_any 0 (by omega) (by omega) _ _ _ _ _ B hr1).mono ?_; rintro e w' ⟨rfl, rfl⟩)
  clear hr1
  generalize hse : more 0 l = s at *
  have Hse := Lib.hid hse
  clear hse
  go_loopw [3, 4, 5] (fun v m i wr => ∃ k x : Nat, k ≤ 4 ∧ i = .int .i64 k ∧ m = .int .u32 x ∧ x < 4294967296 ∧ Hid (x = s / 256 ^ k) ∧ OwnB wr w.heap.size 5 v (l ++ (le4 s).take k) ∧ Below w.heap.size w wr) (fun _ _ i _ => 4 - (intOf i).toNat)
  case atStart => exact ⟨0, s, by omega, rfl, rfl, hml, by simp [Hid], by simpa using ho1, hbel⟩
  case round =>
    obtain ⟨k, x, hk, rfl, rfl, hx, ex, ho, hb⟩ := hrel
    have hbs := hb.size
    by_cases h4 : k < 4
    · have hcell : byt (UInt8.ofNat x) = .int .u8 ((x : Int) % 256) := by unfold byt; rw [UInt8.toNat_ofNat']; congr 1
      have Hl : Hid ((l ++ (le4 s).take k).length + 1 ≤ 1000004) := Lib.hid (by
        have := List.length_take_le k (le4 s)
        have h1 := hlen.out
        rw [List.length_append]
        omega)
      have hone := Lib.hid (HasB.lit wr [UInt8.ofNat x] 5 (by simp))
      simp only [List.map_cons, List.map_nil, hcell, List.length_singleton] at hone
      clear hcell
      go_wp2_with (at_builtin; refine wpList_app _ rfl _ _ 22 rfl w.heap.size 5 i0 (.int .u8 0) Try.underlying22 hi hz0 hz1 hz2 rfl _ _ rfl (ho.alloc _) (wr.heap.size + 1) _ 1 1 [UInt8.ofNat x] rfl hone.out (by have := Hl.out; omega) (by simp; omega) ?_)
      intro v2 w2 ho2 hg2
      have hb2 : Below w.heap.size w w2 := (hb.alloc hbs _).grown hg2 (by simp; omega) (fun g h => (ho.lt g h).1)
      have ho3 : Hid (OwnB w2 w.heap.size 5 v2 (l ++ (le4 s).take (k + 1))) := Lib.hid (by rw [le4_take s k h4, ← ex.out]; exact ho2)
      have ex2 : Hid (x / 256 = s / 256 ^ (k + 1)) := Lib.hid (by rw [Nat.pow_succ, ← Nat.div_div_eq_div_mul, ← ex.out])
      clear ho ho2 hg2 hb hbs
      go_wp2
      go_roundw
      case rel => exact ⟨k + 1, x / 256, by omega, by go_num, by go_num, by omega, ex2, ho3.out, hb2⟩
      case measure => simp [intOf]; omega
    · have hk4 : k = 4 := by omega
      subst hk4
      have hv : Hid (OwnB wr w.heap.size 5 u3 (l ++ le4 (more 0 l))) := Lib.hid (by rwa [List.take_of_length_le (by rw [le4_length]; omega), ← Hse.out] at ho)
      go_wp2
      go_ret
      exact ⟨⟨_, rfl, hv.out⟩, hb⟩
end Go.Proofs.Ytpegmingmcedmaa
