/- Layer 1: what the functions of crc and of its reference do, one by one. -/
import Derived.Test.YtpegmingmcedmaaRows
import Derived.Test.YtpegmingmcedmaaBase
import Derived.ScopeJumps
import Derived.Deep.DeepFit
namespace Go.Proofs.Ytpegmingmcedmaa
open Go.RowKit

/-! ### The sum, plainly -/
def step (x : Nat) : Nat := if x % 2 = 1 then (x / 2) ^^^ 3988292384 else x / 2
def steps : Nat → Nat → Nat
  | 0, x => x
  | k + 1, x => steps k (step x)
theorem step_odd {x : Nat} (h : x % 2 = 1) : step x = (x / 2) ^^^ 3988292384 := if_pos h
theorem step_even {x : Nat} (h : x % 2 ≠ 1) : step x = x / 2 := if_neg h
theorem step_lt {x : Nat} (h : x < 4294967296) : step x < 4294967296 := by
  unfold step
  split
  · exact Nat.xor_lt_two_pow (n := 32) (by omega) (by omega)
  · omega
theorem steps_lt (k : Nat) : ∀ {x : Nat}, x < 4294967296 → steps k x < 4294967296 := by
  induction k with
  | zero => intro x h; exact h
  | succ k ih => intro x h; exact ih (step_lt h)
theorem steps_succ (k : Nat) : ∀ x, steps (k + 1) x = step (steps k x) := by
  induction k with
  | zero => intro x; rfl
  | succ k ih => intro x; exact ih (step x)
theorem steps_pred (k : Int) (h : 0 < k) (x : Nat) : steps (k - 1).toNat (step x) = steps k.toNat x := by
  obtain ⟨j, hj⟩ : ∃ j, k.toNat = j + 1 := ⟨k.toNat - 1, by omega⟩
  rw [hj, show (k - 1).toNat = j from by omega]; rfl
def feed (r : Nat) (l : List UInt8) : Nat := l.foldl (fun r b => steps 8 (r ^^^ b.toNat)) r
def more (s : Nat) (l : List UInt8) : Nat := 4294967295 - feed (4294967295 - s) l
theorem feed_lt (l : List UInt8) : ∀ {r : Nat}, r < 4294967296 → feed r l < 4294967296 := by
  induction l with
  | nil => intro r h; exact h
  | cons b l ih =>
    intro r h
    exact ih (steps_lt 8 (Nat.xor_lt_two_pow (n := 32) h (Nat.lt_trans b.toNat_lt (by decide))))
theorem feed_take (l : List UInt8) (k : Nat) (h : k < l.length) (r : Nat) : feed r (l.take (k + 1)) = steps 8 (feed r (l.take k) ^^^ (l.getD k 0).toNat) := by
  unfold feed
  rw [List.take_succ_eq_append_getElem h, List.foldl_append]
  simp [List.getD_eq_getElem?_getD, List.getElem?_eq_getElem h]
theorem feed_append (a b : List UInt8) (r : Nat) : feed r (a ++ b) = feed (feed r a) b := List.foldl_append
theorem more_lt (s : Nat) (l : List UInt8) : more s l < 4294967296 := by unfold more; omega
theorem more_append (a b : List UInt8) (s : Nat) : more s (a ++ b) = more (more s a) b := by
  have h : feed (4294967295 - s) a < 4294967296 := feed_lt a (by omega)
  unfold more
  rw [feed_append, show 4294967295 - (4294967295 - feed (4294967295 - s) a) = feed (4294967295 - s) a from by omega]
/-- A sum's bytes, the lowest first. -/
def le4 (s : Nat) : List UInt8 := [UInt8.ofNat s, UInt8.ofNat (s / 256), UInt8.ofNat (s / 65536), UInt8.ofNat (s / 16777216)]
def wholeB (l : List UInt8) : Bool := decide (4 ≤ l.length) && l.drop (l.length - 4) == le4 (more 0 (l.take (l.length - 4)))

theorem whole_with (l : List UInt8) : wholeB (l ++ le4 (more 0 l)) = true := by
  have h : (l ++ le4 (more 0 l)).length - 4 = l.length := by simp [le4]
  unfold wholeB
  rw [h, List.drop_left, List.take_left]
  simp [le4]
theorem whole_iff (l : List UInt8) (h : 4 ≤ l.length) : wholeB l = (l == l.take (l.length - 4) ++ le4 (more 0 (l.take (l.length - 4)))) := by
  have h1 : (l == l.take (l.length - 4) ++ le4 (more 0 (l.take (l.length - 4)))) = (l.take (l.length - 4) ++ l.drop (l.length - 4) == l.take (l.length - 4) ++ le4 (more 0 (l.take (l.length - 4)))) := by rw [List.take_append_drop]
  rw [h1, Bool.eq_iff_iff]
  simp only [wholeB, decide_eq_true h, Bool.true_and, beq_iff_eq]
  exact ⟨fun e => by rw [e], fun e => List.append_cancel_left e⟩
theorem whole_short (l : List UInt8) (h : l.length < 4) : wholeB l = false := by
  unfold wholeB
  rw [decide_eq_false (by omega), Bool.false_and]

/-! ### As the walk spells it -/
theorem low_one (n : Nat) (hn : n < 4294967296) : bits .and .u32 (n : Int) 1 = ((n % 2 : Nat) : Int) := by
  rw [show (1 : Int) = ((1 : Nat) : Int) from rfl, u32_and_nat n 1 hn (by omega), nat_mask1]
theorem xor_poly (n : Nat) (hn : n < 4294967296) : bits .xor .u32 ((n : Int) / 2) 3988292384 = (((n / 2) ^^^ 3988292384 : Nat) : Int) := by
  rw [show ((n : Int) / 2) = ((n / 2 : Nat) : Int) from by omega, show (3988292384 : Int) = ((3988292384 : Nat) : Int) from rfl, u32_xor_nat _ _ (by omega) (by omega)]
theorem not32 (s : Nat) (hs : s < 4294967296) : 4294967295 ^^^ s = 4294967295 - s := by
  have h : (~~~ (BitVec.ofNat 32 s)).toNat = (BitVec.allOnes 32 ^^^ BitVec.ofNat 32 s).toNat := by
    rw [BitVec.xor_comm, BitVec.xor_allOnes]
  rw [BitVec.toNat_not, BitVec.toNat_xor, BitVec.toNat_allOnes, BitVec.toNat_ofNat, Nat.mod_eq_of_lt hs] at h
  exact h.symm
theorem turn_all (s : Nat) (hs : s < 4294967296) : bits .xor .u32 IntKind.u32.max (s : Int) = ((4294967295 - s : Nat) : Int) := by
  rw [show IntKind.u32.max = ((4294967295 : Nat) : Int) from rfl, u32_xor_nat _ _ (by omega) hs, not32 s hs]

/-! ### The eight steps, by a goto -/
def EightAt (w : World) (n : Nat) (a' : Act) (w' : World) : Prop :=
  w = w' ∧ ∃ (k : Int) (x : Nat) (u4 u5 u6 u7 u8 u9 u10 u11 u12 u13 u14 u15 u16 : Value), a' = { tmps := #[.int .u32 x, undef, .int .u32 0, .int .i64 k, u4, u5, u6, u7, u8, u9, u10, u11, u12, u13, u14, u15, u16, undef], defers := [] } ∧ 0 < k ∧ k ≤ 8 ∧ x < 4294967296 ∧ steps k.toNat x = steps 8 n
def eightLeft (a' : Act) (_ : World) : Nat := (intOf (a'.tmps.getD 3 undef)).toNat

set_option maxHeartbeats 400000 in
theorem eight (n : Nat) (hn : n < 4294967296) (w : World) :
    Calls Try.prog 32 #[.int .u32 n] w fun e w' => e = .returned (.int .u32 (steps 8 n : Nat)) ∧ w = w' := by
  go_enter Try.func32, Try.ntmps32
  go_wp2
  refine wp_scope_jumps 0 (EightAt w n) eightLeft rfl ?_ ?_
  · go_wp2
    go_step3
    have hl := low_one n hn
    have hx := xor_poly n hn
    by_cases h : n % 2 = 1
    · rw [h] at hl
      go_wp2
      go_step3
      exact ⟨rfl, rfl, 7, _, _, _, _, _, _, _, _, _, _, _, _, _, _, rfl, by omega, by omega, by rw [← step_odd h]; exact step_lt hn, by rw [← step_odd h]; rfl⟩
    · rw [show n % 2 = 0 from by omega] at hl
      go_wp2
      go_step3
      exact ⟨rfl, rfl, 7, n / 2, _, _, _, _, _, _, _, _, _, _, _, _, _, rfl, by omega, by omega, by omega, by rw [← step_even h]; rfl⟩
  · rintro a' w' ⟨rfl, k, x, u4, u5, u6, u7, u8, u9, u10, u11, u12, u13, u14, u15, u16, rfl, hk0, hk8, hx, hs⟩
    have Hs := Lib.hid hs
    clear hs
    have hl := low_one x hx
    have hxp := xor_poly x hx
    by_cases h : x % 2 = 1
    · rw [h] at hl
      by_cases hk : k = 1
      · subst hk
        go_wp2
        simp only [Exit.jump]
        go_ret
        exact ⟨u32_of (by rw [← Hs.out, ← step_odd h]; rfl), rfl⟩
      · have hk1 : 1 < k := by omega
        go_wp2
        go_step3
        exact ⟨rfl, ⟨rfl, k - 1, x / 2 ^^^ 3988292384, _, _, _, _, _, _, _, _, _, _, _, _, _, rfl, by omega, by omega, by rw [← step_odd h]; exact step_lt hx, by rw [← Hs.out, ← step_odd h]; exact steps_pred k hk0 x⟩, by simp [eightLeft, intOf]; omega⟩
    · rw [show x % 2 = 0 from by omega] at hl
      by_cases hk : k = 1
      · subst hk
        go_wp2
        simp only [Exit.jump]
        go_ret
        exact ⟨u32_of (by rw [← Hs.out]; show x / 2 = step x; rw [step_even h]), rfl⟩
      · have hk1 : 1 < k := by omega
        go_wp2
        go_step3
        exact ⟨rfl, ⟨rfl, k - 1, x / 2, _, _, _, _, _, _, _, _, _, _, _, _, _, rfl, by omega, by omega, by omega, by rw [← Hs.out, ← step_even h]; exact steps_pred k hk0 x⟩, by simp [eightLeft, intOf]; omega⟩

/-! ### crc.More, crc.Sum -/
set_option maxHeartbeats 400000 in
theorem more_nat (s : Nat) (hs : s < 4294967296) (A : Option Addr) (n c : Nat) (l : List UInt8) (w : World) (B : Nat) (hr : HasB w B A n c l) :
    Calls Try.prog 29 #[.int .u32 s, .slice A n c] w fun e w' => e = .returned (.int .u32 (more s l : Nat)) ∧ w = w' := by
  have hn := hr.lenMax
  have hsg := unsigned32
  have hm := turn_all s hs
  have hll := hr.len
  go_enter Try.func29, Try.ntmps29
  go_wp2
  clear hm
  go_loop [5, 12] (fun r i => ∃ k : Nat, k ≤ n ∧ i = .int .i64 k ∧ r = .int .u32 ((feed (4294967295 - s) (l.take k) : Nat) : Int)) (fun _ i => n - (intOf i).toNat)
  case atStart => exact ⟨0, Nat.zero_le _, rfl, rfl⟩
  case round =>
    obtain ⟨k, hk, rfl, rfl⟩ := hrel
    have hf : feed (4294967295 - s) (l.take k) < 4294967296 := feed_lt _ (by omega)
    by_cases hlt : k < n
    · obtain ⟨b, o, q, rfl, hb, hc, hq, eq⟩ := hr.at_ hlt
      have ht := Lib.hid (feed_take l k (by omega) (4294967295 - s))
      generalize feed (4294967295 - s) (l.take k) = r at *
      have hx := u32_xor_nat r q hf (by omega)
      have hr8 : r ^^^ q < 4294967296 := Nat.xor_lt_two_pow (n := 32) hf (by omega)
      go_wp2_with (go_at_call 32; refine (eight _ hr8 _).mono ?_; rintro e w' ⟨rfl, rfl⟩)
      go_round
      case rel => exact ⟨k + 1, by omega, by go_num, by rw [ht.out, eq.out]⟩
      case measure => simp [intOf]; omega
    · have hkn : k = n := by omega
      subst hkn
      have hm2 := turn_all _ hf
      have hfin := Lib.hid (show l.take k = l from List.take_of_length_le (by omega))
      go_wp2
      go_ret
      exact ⟨u32_of (by rw [hfin.out]; rfl), rfl⟩
theorem more_any (s : Int) (h0 : 0 ≤ s) (h1 : s < 4294967296) (A : Option Addr) (n c : Nat) (l : List UInt8) (w : World) (B : Nat) (hr : HasB w B A n c l) :
    Calls Try.prog 29 #[.int .u32 s, .slice A n c] w fun e w' => e = .returned (.int .u32 (more s.toNat l : Nat)) ∧ w = w' := by
  obtain ⟨k, rfl⟩ := Int.eq_ofNat_of_zero_le h0
  exact more_nat k (by omega) A n c l w B hr
theorem sum_any (A : Option Addr) (n c : Nat) (l : List UInt8) (w : World) (B : Nat) (hr : HasB w B A n c l) :
    Calls Try.prog 24 #[.slice A n c] w fun e w' => e = .returned (.int .u32 (more 0 l : Nat)) ∧ w = w' := by
  go_enter Try.func24, Try.ntmps24
  go_wp2_with (go_at_call 29; refine (more_any 0 (by omega) (by omega) A n c l _ B hr).mono ?_; rintro e w' ⟨rfl, rfl⟩)
  go_ret
  exact ⟨rfl, rfl⟩

/-! ### The reference's sum -/
set_option maxHeartbeats 800000 in
theorem ref_sum_nat (s : Nat) (hs : s < 4294967296) (A : Option Addr) (n c : Nat) (l : List UInt8) (w : World) (B : Nat) (hr : HasB w B A n c l) :
    Calls Try.prog 30 #[.int .u32 s, .slice A n c] w fun e w' => e = .returned (.int .u32 (more s l : Nat)) ∧ w = w' := by
  have hn := hr.lenMax
  have hll := hr.len
  have he : ((4294967295 : Int) - s) = ((4294967295 - s : Nat) : Int) := by omega
  go_enter Try.func30, Try.ntmps30
  go_wp2
  clear he
  go_loop [5, 6] (fun r i => ∃ k : Nat, k ≤ n ∧ i = .int .i64 k ∧ r = .int .u32 ((feed (4294967295 - s) (l.take k) : Nat) : Int)) (fun _ i => n - (intOf i).toNat)
  case atStart => exact ⟨0, Nat.zero_le _, rfl, rfl⟩
  case round =>
    obtain ⟨k, hk, rfl, rfl⟩ := hrel
    have hf : feed (4294967295 - s) (l.take k) < 4294967296 := feed_lt _ (by omega)
    by_cases hlt : k < n
    · obtain ⟨b, o, q, rfl, hb, hc, hq, eq⟩ := hr.at_ hlt
      have ht := Lib.hid (feed_take l k (by omega) (4294967295 - s))
      generalize feed (4294967295 - s) (l.take k) = r at *
      have hx := u32_xor_nat r q hf (by omega)
      have hr8 : r ^^^ q < 4294967296 := Nat.xor_lt_two_pow (n := 32) hf (by omega)
      go_wp2
      generalize hxq : r ^^^ q = x at *
      have Hxq := Lib.hid hxq
      clear hx hxq
      go_loop [5, 7] (fun r i => ∃ j : Nat, j ≤ 8 ∧ i = .int .i64 j ∧ r = .int .u32 ((steps j x : Nat) : Int)) (fun _ i => 8 - (intOf i).toNat)
      case atStart => exact ⟨0, Nat.zero_le _, rfl, rfl⟩
      case round =>
        obtain ⟨j, hj, rfl, rfl⟩ := hrel
        have hsj : steps j x < 4294967296 := steps_lt j hr8
        have hss := Lib.hid (steps_succ j x)
        generalize hyj : steps j x = y at *
        have Hyj := Lib.hid hyj
        clear hyj
        by_cases hj8 : j < 8
        · have hxp := xor_poly y hsj
          by_cases hy : y % 2 = 1
          · have hod : (y : Int) % 2 = 1 := by omega
            go_wp2
            go_round
            case rel => exact ⟨j + 1, by omega, by go_num, by rw [hss.out, step_odd hy]⟩
            case measure => simp [intOf]; omega
          · have hod : (y : Int) % 2 = 0 := by omega
            have hdv : (y : Int) / 2 = ((y / 2 : Nat) : Int) := by omega
            have Hdv := Lib.hid hdv
            clear hdv
            go_wp2
            go_round
            case rel => exact ⟨j + 1, by omega, by go_num, by rw [hss.out, step_even hy, ← Hdv.out]⟩
            case measure => simp [intOf]; omega
        · have h8 : j = 8 := by omega
          subst h8
          go_wp2
          go_round
          case rel => exact ⟨k + 1, by omega, by go_num, by rw [ht.out, ← eq.out, Hxq.out, Hyj.out]⟩
          case measure => simp [intOf]; omega
    · have hkn : k = n := by omega
      subst hkn
      have hfin := Lib.hid (show l.take k = l from List.take_of_length_le (by omega))
      have hsub := Lib.hid (show ((4294967295 : Int) - (feed (4294967295 - s) (l.take k) : Nat)) = ((4294967295 - feed (4294967295 - s) (l.take k) : Nat) : Int) from by omega)
      go_wp2
      go_ret
      exact ⟨by rw [hsub.out, hfin.out]; rfl, rfl⟩
theorem ref_sum_any (s : Int) (h0 : 0 ≤ s) (h1 : s < 4294967296) (A : Option Addr) (n c : Nat) (l : List UInt8) (w : World) (B : Nat) (hr : HasB w B A n c l) :
    Calls Try.prog 30 #[.int .u32 s, .slice A n c] w fun e w' => e = .returned (.int .u32 (more s.toNat l : Nat)) ∧ w = w' := by
  obtain ⟨k, rfl⟩ := Int.eq_ofNat_of_zero_le h0
  exact ref_sum_nat k (by omega) A n c l w B hr
end Go.Proofs.Ytpegmingmcedmaa
