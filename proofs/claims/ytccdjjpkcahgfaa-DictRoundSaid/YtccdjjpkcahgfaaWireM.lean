/- Layer 2, plainly: a number as bytes, and bytes as a number. -/
import Derived.Test.YtccdjjpkcahgfaaBase
namespace Go.Proofs.Ytccdjjpkcahgfaa

/-- The number that is put for n: the numbers below 0 lie between the others. -/
def zig (n : Int) : Nat := if 0 ≤ n then (2 * n).toNat else (-2 * n - 1).toNat
def zag (u : Nat) : Int := if u % 2 = 0 then ((u / 2 : Nat) : Int) else -((u / 2 : Nat) : Int) - 1
theorem zag_zig (n : Int) : zag (zig n) = n := by
  unfold zag zig; split <;> split <;> omega
theorem zig_zag (u : Nat) : zig (zag u) = u := by
  unfold zag zig; split <;> split <;> omega
theorem zig_lt {n : Int} (h : -9223372036854775808 ≤ n) (h' : n ≤ 9223372036854775807) : zig n < 18446744073709551616 := by
  unfold zig; split <;> omega
theorem zag_bd {u : Nat} (h : u < 18446744073709551616) : -9223372036854775808 ≤ zag u ∧ zag u ≤ 9223372036854775807 := by
  unfold zag; split <;> omega
theorem zig_half (n : Int) : zig n / 2 = (if n < 0 then -(n + 1) else n).toNat := by
  unfold zig; split <;> split <;> omega

/-- A number in groups of seven bits, the lowest first. -/
def enc (u : Nat) : List UInt8 := if u < 128 then [UInt8.ofNat u] else UInt8.ofNat (u % 128 + 128) :: enc (u / 128)
termination_by u
decreasing_by omega
theorem enc_small {u : Nat} (h : u < 128) : enc u = [UInt8.ofNat u] := by rw [enc, if_pos h]
theorem enc_big {u : Nat} (h : ¬ u < 128) : enc u = UInt8.ofNat (u % 128 + 128) :: enc (u / 128) := by rw [enc, if_neg h]
theorem enc_pos (u : Nat) : 1 ≤ (enc u).length := by
  by_cases h : u < 128
  · rw [enc_small h]; simp
  · rw [enc_big h]; simp
theorem enc_le (k : Nat) : ∀ u, u < 2 ^ (7 * k + 7) → (enc u).length ≤ k + 1 := by
  induction k with
  | zero => intro u h; rw [enc_small (by simpa using h)]; simp
  | succ k ih =>
    intro u h
    by_cases hs : u < 128
    · rw [enc_small hs]; simp
    · rw [enc_big hs]
      have h1 : u / 128 < 2 ^ (7 * k + 7) := by
        rw [show 7 * (k + 1) + 7 = (7 * k + 7) + 7 from by omega, Nat.pow_add] at h
        exact Nat.div_lt_of_lt_mul (by omega)
      have := ih _ h1
      simp; omega
theorem enc_ten {u : Nat} (h : u < 18446744073709551616) : (enc u).length ≤ 10 := enc_le 9 u (Nat.lt_trans h (by decide))
theorem enc_mono (u : Nat) : ∀ v, u / 2 ≤ v / 2 → (enc u).length ≤ (enc v).length := by
  induction u using Nat.strongRecOn with
  | _ u ih =>
    intro v h
    by_cases hu : u < 128
    · rw [enc_small hu]; exact enc_pos v
    · have hv : ¬ v < 128 := by omega
      rw [enc_big hu, enc_big hv]
      have := ih (u / 128) (by omega) (v / 128) (by omega)
      simpa using this

/-- May a byte not stand at that place? -/
def badAt (c i : Nat) : Bool := (i == 9 && decide (1 < c)) || (decide (0 < i) && c == 0)
/-- What bytes say from place i on, behind groups that are u: the number, how many bytes in all, the error. -/
def got : List UInt8 → Nat → Nat → Nat × Nat × Nat
  | [], _, _ => (0, 0, 3)
  | c :: r, i, u => if badAt c.toNat i then (0, 0, 2) else if 128 ≤ c.toNat then got r (i + 1) (u + c.toNat % 128 * 2 ^ (7 * i)) else (u + c.toNat * 2 ^ (7 * i), i + 1, 0)
/-- What GetInt answers: the number, its bytes, the error. -/
def gN (l : List UInt8) : Int := zag (got l 0 0).1
def gK (l : List UInt8) : Nat := (got l 0 0).2.1
def gE (l : List UInt8) : Nat := (got l 0 0).2.2

theorem got_err (l : List UInt8) : ∀ i u, (got l i u).2.2 = 0 ∨ ((got l i u).1 = 0 ∧ (got l i u).2.1 = 0 ∧ ((got l i u).2.2 = 2 ∨ (got l i u).2.2 = 3)) := by
  induction l with
  | nil => intro i u; right; simp [got]
  | cons c r ih =>
    intro i u
    rw [got]
    split
    · right; simp
    · split
      · exact ih _ _
      · left; rfl
/-- What is told is what was put. -/
theorem got_tells (l : List UInt8) : ∀ i u, i ≤ 9 → (got l i u).2.2 = 0 →
    ∃ v, (got l i u).1 = u + v * 2 ^ (7 * i) ∧ (got l i u).2.1 = i + (enc v).length ∧ l.take (enc v).length = enc v ∧ (0 < i → 0 < v) ∧ v < 2 ^ (64 - 7 * i) := by
  induction l with
  | nil => intro i u _ h; simp [got] at h
  | cons c r ih =>
    intro i u hi h
    have hc := c.toNat_lt
    rw [got] at h ⊢
    by_cases hb : badAt c.toNat i = true
    · rw [if_pos hb] at h; simp at h
    · rw [if_neg hb] at h ⊢
      simp [badAt] at hb
      by_cases hg : 128 ≤ c.toNat
      · rw [if_pos hg] at h ⊢
        have hi9 : i ≠ 9 := fun e => by have := hb.1 e; omega
        obtain ⟨v, h1, h2, h3, h4, h5⟩ := ih (i + 1) _ (by omega) h
        have hv := h4 (by omega)
        have hbig : ¬ c.toNat % 128 + v * 128 < 128 := by omega
        have e1 : (c.toNat % 128 + v * 128) / 128 = v := by omega
        have e2 : (c.toNat % 128 + v * 128) % 128 + 128 = c.toNat := by omega
        refine ⟨c.toNat % 128 + v * 128, ?_, ?_, ?_, fun _ => by omega, ?_⟩
        · rw [h1, show 7 * (i + 1) = 7 + 7 * i from by omega, Nat.pow_add, Nat.add_mul, Nat.mul_assoc, Nat.add_assoc]
        · rw [h2, enc_big hbig, e1]; simp; omega
        · rw [enc_big hbig, e1, e2, List.length_cons, List.take_succ_cons, h3]; simp
        · have h6 : 64 - 7 * i = 7 + (64 - 7 * (i + 1)) := by omega
          rw [h6, Nat.pow_add]
          have : c.toNat % 128 < 2 ^ 7 := by omega
          have : v + 1 ≤ 2 ^ (64 - 7 * (i + 1)) := h5
          have := Nat.mul_le_mul_left 128 this
          omega
      · rw [if_neg hg]
        refine ⟨c.toNat, rfl, by rw [enc_small (by omega)]; rfl, ?_, fun h0 => ?_, ?_⟩
        · rw [enc_small (by omega)]; simp
        · have := hb.2 h0
          exact Nat.pos_of_ne_zero this
        · by_cases h9 : i = 9
          · subst h9; have := hb.1 rfl; simpa using Nat.lt_of_le_of_lt this (by decide)
          · have : (2 : Nat) ^ 7 ≤ 2 ^ (64 - 7 * i) := Nat.pow_le_pow_right (by omega) (by omega)
            omega
/-- What is put is told, whatever stands behind. -/
theorem got_put (v : Nat) : ∀ (r : List UInt8) (i u : Nat), i ≤ 9 → (0 < i → 0 < v) → v < 2 ^ (64 - 7 * i) → got (enc v ++ r) i u = (u + v * 2 ^ (7 * i), i + (enc v).length, 0) := by
  induction v using Nat.strongRecOn with
  | _ v ih =>
    intro r i u hi h0 hv
    by_cases hs : v < 128
    · have hn : (UInt8.ofNat v).toNat = v := by rw [UInt8.toNat_ofNat']; omega
      rw [enc_small hs, List.singleton_append, got, hn, if_neg, if_neg (by omega)]
      · rfl
      · simp only [badAt, Bool.or_eq_true, Bool.and_eq_true, beq_iff_eq, decide_eq_true_eq, not_or, not_and]
        refine ⟨fun h9 => ?_, fun hp => by have := h0 hp; omega⟩
        subst h9
        have : v < 2 := by simpa using hv
        omega
    · have hn : (UInt8.ofNat (v % 128 + 128)).toNat = v % 128 + 128 := by rw [UInt8.toNat_ofNat']; omega
      have hi9 : i < 9 := by
        apply Nat.lt_of_le_of_ne hi
        rintro rfl
        have : v < 2 := by simpa using hv
        omega
      have hv' : v / 128 < 2 ^ (64 - 7 * (i + 1)) := by
        rw [show 64 - 7 * i = (64 - 7 * (i + 1)) + 7 from by omega, Nat.pow_add] at hv
        exact Nat.div_lt_of_lt_mul (by omega)
      rw [enc_big hs, List.cons_append, got, hn, if_neg, if_pos (by omega), ih (v / 128) (by omega) r (i + 1) _ (by omega) (fun _ => by omega) hv']
      · refine Prod.ext ?_ (Prod.ext ?_ rfl)
        · show u + (v % 128 + 128) % 128 * 2 ^ (7 * i) + v / 128 * 2 ^ (7 * (i + 1)) = u + v * 2 ^ (7 * i)
          rw [show 7 * (i + 1) = 7 + 7 * i from by omega, Nat.pow_add, ← Nat.mul_assoc, Nat.add_assoc, ← Nat.add_mul]
          congr 2
          omega
        · show i + 1 + (enc (v / 128)).length = i + (enc (v / 128)).length.succ
          omega
      · simp only [badAt, Bool.or_eq_true, Bool.and_eq_true, beq_iff_eq, decide_eq_true_eq, not_or, not_and]
        exact ⟨fun h9 => by omega, fun _ => by omega⟩
/-- A part of what is put is too short. -/
theorem got_cut (v : Nat) : ∀ (k i u : Nat), i ≤ 9 → v < 2 ^ (64 - 7 * i) → k < (enc v).length → got ((enc v).take k) i u = (0, 0, 3) := by
  induction v using Nat.strongRecOn with
  | _ v ih =>
    intro k i u hi hv hk
    rcases k with _ | k
    · rfl
    by_cases hs : v < 128
    · rw [enc_small hs] at hk; simp at hk
    · have hn : (UInt8.ofNat (v % 128 + 128)).toNat = v % 128 + 128 := by rw [UInt8.toNat_ofNat']; omega
      have hi9 : i < 9 := by
        apply Nat.lt_of_le_of_ne hi
        rintro rfl
        have : v < 2 := by simpa using hv
        omega
      have hv' : v / 128 < 2 ^ (64 - 7 * (i + 1)) := by
        rw [show 64 - 7 * i = (64 - 7 * (i + 1)) + 7 from by omega, Nat.pow_add] at hv
        exact Nat.div_lt_of_lt_mul (by omega)
      rw [enc_big hs] at hk ⊢
      rw [List.take_succ_cons, got, hn, if_neg, if_pos (by omega)]
      · exact ih _ (by omega) k (i + 1) _ (by omega) hv' (by simpa using hk)
      · simp only [badAt, Bool.or_eq_true, Bool.and_eq_true, beq_iff_eq, decide_eq_true_eq, not_or, not_and]
        exact ⟨fun h9 => by omega, fun _ => by omega⟩

theorem gE_or (l : List UInt8) : gE l = 0 ∨ (gN l = 0 ∧ gK l = 0 ∧ (gE l = 2 ∨ gE l = 3)) := by
  rcases got_err l 0 0 with h | ⟨h1, h2, h3⟩
  · exact .inl h
  · exact .inr ⟨by unfold gN; rw [h1]; rfl, h2, h3⟩
theorem gE_le (l : List UInt8) : gE l ≤ 3 := by rcases gE_or l with h | ⟨_, _, h | h⟩ <;> omega
theorem g_tells {l : List UInt8} (h : gE l = 0) : gK l = (enc (zig (gN l))).length ∧ l.take (gK l) = enc (zig (gN l)) ∧ 1 ≤ gK l ∧ gK l ≤ l.length ∧ gK l ≤ 10 := by
  obtain ⟨v, h1, h2, h3, _, h5⟩ := got_tells l 0 0 (by omega) h
  have e1 : (got l 0 0).1 = v := by rw [h1]; simp
  have e2 : zig (gN l) = v := by unfold gN; rw [e1, zig_zag]
  have e3 : gK l = (enc v).length := by unfold gK; rw [h2, Nat.zero_add]
  rw [e2, e3]
  refine ⟨rfl, h3, enc_pos v, ?_, enc_ten (by simpa using h5)⟩
  have := congrArg List.length h3
  rw [List.length_take] at this
  omega
theorem got_lt {l : List UInt8} : (got l 0 0).1 < 18446744073709551616 := by
  rcases got_err l 0 0 with h | ⟨h, _⟩
  · obtain ⟨v, h1, _, _, _, h5⟩ := got_tells l 0 0 (by omega) h
    rw [h1]; simpa using h5
  · rw [h]; decide
theorem gN_bd (l : List UInt8) : -9223372036854775808 ≤ gN l ∧ gN l ≤ 9223372036854775807 := zag_bd got_lt
theorem gK_le (l : List UInt8) : gK l ≤ l.length ∧ gK l ≤ 10 := by
  rcases gE_or l with h | ⟨_, h, _⟩
  · have := g_tells h; omega
  · omega
theorem g_put {n : Int} (h : -9223372036854775808 ≤ n) (h' : n ≤ 9223372036854775807) (r : List UInt8) : gN (enc (zig n) ++ r) = n ∧ gK (enc (zig n) ++ r) = (enc (zig n)).length ∧ gE (enc (zig n) ++ r) = 0 := by
  have e := got_put (zig n) r 0 0 (by omega) (by omega) (by simpa using zig_lt h h')
  simp only [Nat.mul_zero, Nat.pow_zero, Nat.mul_one, Nat.zero_add] at e
  unfold gN gK gE
  rw [e]
  exact ⟨zag_zig n, rfl, rfl⟩
theorem g_cut {n : Int} (h : -9223372036854775808 ≤ n) (h' : n ≤ 9223372036854775807) (k : Nat) (hk : k < (enc (zig n)).length) : gN ((enc (zig n)).take k) = 0 ∧ gK ((enc (zig n)).take k) = 0 ∧ gE ((enc (zig n)).take k) = 3 := by
  have e := got_cut (zig n) k 0 0 (by omega) (by simpa using zig_lt h h') hk
  unfold gN gK gE
  rw [e]
  exact ⟨rfl, rfl, rfl⟩
end Go.Proofs.Ytccdjjpkcahgfaa
