/- Layer 1, plain: the sum is linear, bit by bit; and what becomes of turned bits. -/
import Derived.Test.YtpegmingmcedmaaCrc
namespace Go.Proofs.Ytpegmingmcedmaa

/-! ### A step is linear -/
theorem xor_xor_self (a b : Nat) : a ^^^ b ^^^ b = a := by rw [Nat.xor_assoc, Nat.xor_self, Nat.xor_zero]
theorem step_xor (x y : Nat) : step (x ^^^ y) = step x ^^^ step y := by
  have hd : (x ^^^ y) / 2 = x / 2 ^^^ y / 2 := Nat.xor_div_two
  have hm : (x ^^^ y) % 2 = (x + y) % 2 := by
    have h := Nat.xor_mod_two_pow (a := x) (b := y) (n := 1)
    simp only [Nat.pow_one] at h
    rw [h]
    rcases Nat.mod_two_eq_zero_or_one x with h1 | h1 <;> rcases Nat.mod_two_eq_zero_or_one y with h2 | h2 <;> rw [h1, h2] <;> simp <;> omega
  by_cases hx : x % 2 = 1 <;> by_cases hy : y % 2 = 1
  · rw [step_odd hx, step_odd hy, step_even (by omega), hd]
    rw [Nat.xor_assoc (x / 2), Nat.xor_comm 3988292384 (y / 2 ^^^ 3988292384), xor_xor_self]
  · rw [step_odd hx, step_even hy, step_odd (by omega), hd]
    rw [Nat.xor_assoc, Nat.xor_assoc, Nat.xor_comm (y / 2)]
  · rw [step_even hx, step_odd hy, step_odd (by omega), hd, Nat.xor_assoc]
  · rw [step_even hx, step_even hy, step_even (by omega), hd]
theorem step_zero : step 0 = 0 := rfl
theorem steps_zero (k : Nat) : steps k 0 = 0 := by
  induction k with
  | zero => rfl
  | succ k ih => exact ih
theorem steps_xor (k : Nat) : ∀ x y, steps k (x ^^^ y) = steps k x ^^^ steps k y := by
  induction k with
  | zero => intro x y; rfl
  | succ k ih =>
    intro x y
    show steps k (step (x ^^^ y)) = _
    rw [step_xor]
    exact ih _ _
theorem step_double (y : Nat) : step (y * 2) = y := by rw [step_even (by omega)]; omega
theorem steps_shift (k : Nat) : ∀ b, steps k (b * 2 ^ k) = b := by
  induction k with
  | zero => intro b; simp [steps]
  | succ k ih =>
    intro b
    show steps k (step (b * 2 ^ (k + 1))) = b
    rw [Nat.pow_succ, ← Nat.mul_assoc, step_double]
    exact ih b
theorem step_eq_zero {x : Nat} (hx : x < 4294967296) (h : step x = 0) : x = 0 := by
  by_cases ho : x % 2 = 1
  · rw [step_odd ho] at h
    have : x / 2 = 3988292384 := by
      have h2 := congrArg (· ^^^ 3988292384) h
      simpa [xor_xor_self] using h2
    omega
  · rw [step_even ho] at h
    omega
theorem steps_eq_zero (k : Nat) : ∀ {x : Nat}, x < 4294967296 → steps k x = 0 → x = 0 := by
  induction k with
  | zero => intro x _ h; exact h
  | succ k ih =>
    intro x hx h
    exact step_eq_zero hx (ih (step_lt hx) h)

/-! ### Bit by bit -/
def run (d : Nat → Nat) : Nat → Nat → Nat
  | 0, r => r
  | i + 1, r => step (run d i r ^^^ d i)
theorem run_add (d : Nat → Nat) (a : Nat) (r : Nat) : ∀ b, run d (a + b) r = run (fun i => d (a + i)) b (run d a r)
  | 0 => rfl
  | b + 1 => by
    show step (run d (a + b) r ^^^ d (a + b)) = _
    rw [run_add d a r b]
    rfl
theorem run_same {d e : Nat → Nat} : ∀ (n : Nat) (r : Nat), (∀ i, i < n → d i = e i) → run d n r = run e n r
  | 0, _, _ => rfl
  | n + 1, r, h => by
    show step (run d n r ^^^ d n) = step (run e n r ^^^ e n)
    rw [run_same n r (fun i hi => h i (by omega)), h n (by omega)]
theorem run_xor (d e : Nat → Nat) : ∀ (n : Nat) (r s : Nat), run (fun i => d i ^^^ e i) n (r ^^^ s) = run d n r ^^^ run e n s
  | 0, _, _ => rfl
  | n + 1, r, s => by
    show step (run (fun i => d i ^^^ e i) n (r ^^^ s) ^^^ (d n ^^^ e n)) = step (run d n r ^^^ d n) ^^^ step (run e n s ^^^ e n)
    rw [run_xor d e n r s, ← step_xor]
    congr 1
    rw [Nat.xor_assoc, Nat.xor_assoc, ← Nat.xor_assoc (run e n s), Nat.xor_comm (run e n s) (d n), Nat.xor_assoc]
theorem run_none : ∀ (n : Nat) (r : Nat), run (fun _ => 0) n r = steps n r
  | 0, _ => rfl
  | n + 1, r => by
    show step (run (fun _ => 0) n r ^^^ 0) = _
    rw [Nat.xor_zero, run_none n r, steps_succ]
/-- A number's first bits are those ahead of bit j, and bit j. -/
theorem mod_bit (t j : Nat) : t % 2 ^ (j + 1) = t % 2 ^ j ^^^ (t / 2 ^ j % 2) * 2 ^ j := by
  apply Nat.eq_of_testBit_eq
  intro i
  rw [Nat.testBit_xor, Nat.testBit_mod_two_pow, Nat.testBit_mod_two_pow]
  have hb : ∀ b : Nat, b < 2 → (b * 2 ^ j).testBit i = (decide (i = j) && decide (b = 1)) := by
    intro b hb
    match b, hb with
    | 0, _ => simp
    | 1, _ =>
      rw [Nat.one_mul, Nat.testBit_two_pow]
      by_cases h : i = j
      · simp [h]
      · have h' : ¬ j = i := fun e => h e.symm
        simp [h, h']
  rw [hb _ (Nat.mod_lt _ (by decide))]
  have hj : t.testBit j = decide (t / 2 ^ j % 2 = 1) := Nat.testBit_eq_decide_div_mod_eq
  by_cases h1 : i < j
  · simp [h1, show i < j + 1 from by omega, show i ≠ j from by omega]
  · by_cases h2 : i = j
    · subst h2; simp [hj]
    · simp [h1, h2, show ¬ i < j + 1 from by omega]
theorem run_window (d : Nat → Nat) (t : Nat) : ∀ (j : Nat) (r : Nat), (∀ k, k < j → d k = t / 2 ^ k % 2) → run d j r = steps j (r ^^^ t % 2 ^ j)
  | 0, r, _ => by simp [run, steps, Nat.mod_one]
  | j + 1, r, h => by
    show step (run d j r ^^^ d j) = _
    rw [run_window d t j r (fun k hk => h k (by omega)), h j (by omega), steps_succ, mod_bit, ← Nat.xor_assoc, steps_xor j (r ^^^ t % 2 ^ j), steps_shift]

/-! ### Bytes as bits -/
def bitAt (l : List UInt8) (i : Nat) : Nat := (l.getD (i / 8) 0).toNat / 2 ^ (i % 8) % 2
theorem feed_run (l : List UInt8) (r : Nat) : ∀ m, m ≤ l.length → feed r (l.take m) = run (bitAt l) (8 * m) r
  | 0, _ => rfl
  | m + 1, h => by
    rw [feed_take l m (by omega), feed_run l r m (by omega), show 8 * (m + 1) = 8 * m + 8 from by omega, run_add,
      run_window _ (l.getD m 0).toNat 8 _ (fun k hk => by
        show bitAt l (8 * m + k) = _
        unfold bitAt
        rw [show (8 * m + k) / 8 = m from by omega, show (8 * m + k) % 8 = k from by omega])]
    congr 2
    exact (Nat.mod_eq_of_lt (l.getD m 0).toNat_lt).symm
theorem feed_bits (l : List UInt8) (r : Nat) : feed r l = run (bitAt l) (8 * l.length) r := by
  have h := feed_run l r l.length (Nat.le_refl _)
  rwa [List.take_length] at h
theorem le4_bit (t k : Nat) (hk : k < 32) : bitAt (le4 t) k = t / 2 ^ k % 2 := by
  have h8 (x j : Nat) (hj : j < 8) : (UInt8.ofNat x).toNat / 2 ^ j % 2 = x / 2 ^ j % 2 := by
    rw [UInt8.toNat_ofNat']
    match j, hj with
    | 0, _ => omega
    | 1, _ => omega
    | 2, _ => omega
    | 3, _ => omega
    | 4, _ => omega
    | 5, _ => omega
    | 6, _ => omega
    | 7, _ => omega
  have hq : k / 8 = 0 ∨ k / 8 = 1 ∨ k / 8 = 2 ∨ k / 8 = 3 := by omega
  have hp (a : Nat) (ha : k / 8 = a) : 2 ^ k = 256 ^ a * 2 ^ (k % 8) := by
    rw [show (256 : Nat) = 2 ^ 8 from rfl, ← Nat.pow_mul, ← Nat.pow_add]
    congr 1
    omega
  unfold bitAt
  rcases hq with h | h | h | h <;> rw [hp _ h, h] <;> simp only [le4, List.getD_cons_zero, List.getD_cons_succ] <;> rw [h8 _ _ (Nat.mod_lt _ (by decide))] <;> simp [Nat.div_div_eq_div_mul]
theorem feed_le4 (s t : Nat) (ht : t < 4294967296) : feed s (le4 t) = steps 32 (s ^^^ t) := by
  have h := run_window (bitAt (le4 t)) t 32 s (fun k hk => le4_bit t k hk)
  rw [feed_bits]
  show run (bitAt (le4 t)) 32 s = _
  rw [h, Nat.mod_eq_of_lt (by simpa using ht)]
theorem compl_xor (s : Nat) (hs : s < 4294967296) : s ^^^ (4294967295 - s) = 4294967295 := by
  rw [← not32 s hs, Nat.xor_comm 4294967295 s, ← Nat.xor_assoc, Nat.xor_self, Nat.zero_xor]
/-- Whatever is whole leaves the same rest. -/
theorem whole_feed {l : List UInt8} (h : wholeB l = true) : 4 ≤ l.length ∧ feed 4294967295 l = steps 32 4294967295 := by
  unfold wholeB at h
  simp only [Bool.and_eq_true, decide_eq_true_eq, beq_iff_eq] at h
  refine ⟨h.1, ?_⟩
  have hs : feed 4294967295 (l.take (l.length - 4)) < 4294967296 := feed_lt _ (by omega)
  rw [← List.take_append_drop (l.length - 4) l, feed_append, h.2]
  unfold more
  rw [Nat.sub_zero, feed_le4 _ _ (by omega), compl_xor _ hs]

/-! ### Three texts of one length -/
def xor3 (a b c : List UInt8) : List UInt8 := List.zipWith (· ^^^ ·) (List.zipWith (· ^^^ ·) a b) c
theorem feed_zip : ∀ (a b : List UInt8) (r s : Nat), a.length = b.length → feed (r ^^^ s) (List.zipWith (· ^^^ ·) a b) = feed r a ^^^ feed s b
  | [], [], r, s, _ => rfl
  | x :: a, y :: b, r, s, h => by
    show feed (steps 8 (r ^^^ s ^^^ (x ^^^ y).toNat)) (List.zipWith (· ^^^ ·) a b) = feed (steps 8 (r ^^^ x.toNat)) a ^^^ feed (steps 8 (s ^^^ y.toNat)) b
    rw [← feed_zip a b _ _ (by simpa using h), ← steps_xor]
    congr 2
    rw [UInt8.toNat_xor, Nat.xor_assoc, Nat.xor_assoc, ← Nat.xor_assoc s, Nat.xor_comm s, Nat.xor_assoc]
  | [], _ :: _, _, _, h => by cases h
  | _ :: _, [], _, _, h => by cases h
theorem xor3_length {a b c : List UInt8} {n : Nat} (h1 : a.length = n) (h2 : b.length = n) (h3 : c.length = n) : (xor3 a b c).length = n := by
  unfold xor3; rw [List.length_zipWith, List.length_zipWith]; omega
theorem xor3_take {a b c : List UInt8} {n k : Nat} (h1 : a.length = n) (h2 : b.length = n) (h3 : c.length = n) (hk : k < n) (x y z : Nat) (hx : x = (a.getD k 0).toNat) (hy : y = (b.getD k 0).toNat) (hz : z = (c.getD k 0).toNat) :
    (xor3 a b c).take (k + 1) = (xor3 a b c).take k ++ [UInt8.ofNat (x ^^^ y ^^^ z)] := by
  have hl := xor3_length h1 h2 h3
  rw [List.take_succ_eq_append_getElem (by omega)]
  congr 2
  have e : (xor3 a b c)[k]'(by omega) = a[k]'(by omega) ^^^ b[k]'(by omega) ^^^ c[k]'(by omega) := by
    unfold xor3; simp
  rw [e]
  apply UInt8.toNat_inj.1
  simp only [List.getD_eq_getElem?_getD, List.getElem?_eq_getElem (show k < a.length by omega), List.getElem?_eq_getElem (show k < b.length by omega), List.getElem?_eq_getElem (show k < c.length by omega), Option.getD_some] at hx hy hz
  rw [hx, hy, hz, UInt8.toNat_ofNat', UInt8.toNat_xor, UInt8.toNat_xor]
  exact (Nat.mod_eq_of_lt (Nat.xor_lt_two_pow (n := 8) (Nat.xor_lt_two_pow (n := 8) a[k].toNat_lt b[k].toNat_lt) c[k].toNat_lt)).symm
theorem more_three (a b c : List UInt8) (h1 : a.length = b.length) (h2 : a.length = c.length) : more 0 a ^^^ more 0 b ^^^ more 0 c = more 0 (xor3 a b c) := by
  have ha : feed 4294967295 a < 4294967296 := feed_lt a (by omega)
  have hb : feed 4294967295 b < 4294967296 := feed_lt b (by omega)
  have hc : feed 4294967295 c < 4294967296 := feed_lt c (by omega)
  have hlen : (List.zipWith (· ^^^ ·) a b).length = c.length := by rw [List.length_zipWith]; omega
  have hx : feed 4294967295 (xor3 a b c) = feed 4294967295 a ^^^ feed 4294967295 b ^^^ feed 4294967295 c := by
    have h3 : (4294967295 : Nat) = 4294967295 ^^^ 4294967295 ^^^ 4294967295 := by decide
    unfold xor3
    conv => lhs; rw [h3]
    rw [feed_zip _ _ _ _ hlen, feed_zip _ _ _ _ h1]
  have hxl : feed 4294967295 (xor3 a b c) < 4294967296 := feed_lt _ (by omega)
  unfold more
  rw [Nat.sub_zero, ← not32 _ ha, ← not32 _ hb, ← not32 _ hc, ← not32 _ hxl, hx]
  generalize feed 4294967295 a = x
  generalize feed 4294967295 b = y
  generalize feed 4294967295 c = z
  have e : 4294967295 ^^^ x ^^^ (4294967295 ^^^ y) = x ^^^ y := by
    rw [Nat.xor_comm 4294967295 x, Nat.xor_assoc, ← Nat.xor_assoc 4294967295 4294967295 y, Nat.xor_self, Nat.zero_xor]
  rw [e, ← Nat.xor_assoc, Nat.xor_comm (x ^^^ y) 4294967295, Nat.xor_assoc]

/-! ### Turned bits -/
/-- Is bit f + k turned: is bit k of t 1, and is there such a byte? -/
def hit (n f t k : Nat) : Bool := decide (t / 2 ^ k % 2 = 1) && decide ((f + k) / 8 < n)
def flip (l : List UInt8) (p : Nat) : List UInt8 := l.set (p / 8) (UInt8.ofNat ((l.getD (p / 8) 0).toNat ^^^ 2 ^ (p % 8)))
def turnT (l : List UInt8) (f t : Nat) : Nat → List UInt8
  | 0 => l
  | k + 1 => if hit l.length f t k then flip (turnT l f t k) (f + k) else turnT l f t k
def someT (n f t : Nat) : Nat → Bool
  | 0 => false
  | k + 1 => hit n f t k || someT n f t k
theorem turn_miss (l : List UInt8) (f t k : Nat) (h : hit l.length f t k = false) : turnT l f t (k + 1) = turnT l f t k := by
  show (if hit l.length f t k then flip (turnT l f t k) (f + k) else turnT l f t k) = _
  rw [h]; rfl
theorem some_miss {n f t k : Nat} (h : hit n f t k = false) : someT n f t (k + 1) = someT n f t k := by
  show (hit n f t k || someT n f t k) = _
  rw [h]; rfl
theorem flip_length (l : List UInt8) (p : Nat) : (flip l p).length = l.length := by simp [flip]
theorem turnT_length (l : List UInt8) (f t : Nat) : ∀ k, (turnT l f t k).length = l.length
  | 0 => rfl
  | k + 1 => by
    unfold turnT
    split
    · rw [flip_length, turnT_length l f t k]
    · exact turnT_length l f t k
theorem pow_lt_256 {m : Nat} (h : m < 8) : 2 ^ m < 256 := by
  have := Nat.pow_lt_pow_right (a := 2) (by decide) h
  simpa using this
def bitB (l : List UInt8) (i : Nat) : Bool := (l.getD (i / 8) 0).toNat.testBit (i % 8)
theorem bitAt_eq (l : List UInt8) (i : Nat) : bitAt l i = (bitB l i).toNat := by
  unfold bitAt bitB
  rw [Nat.testBit_eq_decide_div_mod_eq]
  have h := Nat.mod_lt ((l.getD (i / 8) 0).toNat / 2 ^ (i % 8)) (show 0 < 2 by decide)
  generalize (l.getD (i / 8) 0).toNat / 2 ^ (i % 8) % 2 = z at h ⊢
  match z, h with
  | 0, _ => rfl
  | 1, _ => rfl
theorem flip_bit (l : List UInt8) (p i : Nat) (hp : p / 8 < l.length) : bitB (flip l p) i = (bitB l i != decide (i = p)) := by
  unfold bitB flip
  by_cases hj : i / 8 = p / 8
  · have hv : (UInt8.ofNat ((l.getD (p / 8) 0).toNat ^^^ 2 ^ (p % 8))).toNat = (l.getD (p / 8) 0).toNat ^^^ 2 ^ (p % 8) := by
      rw [UInt8.toNat_ofNat']
      exact Nat.mod_eq_of_lt (Nat.xor_lt_two_pow (n := 8) (l.getD (p / 8) 0).toNat_lt (pow_lt_256 (Nat.mod_lt _ (by decide))))
    rw [hj]
    have hg : ((l.set (p / 8) (UInt8.ofNat ((l.getD (p / 8) 0).toNat ^^^ 2 ^ (p % 8)))).getD (p / 8) 0).toNat = (l.getD (p / 8) 0).toNat ^^^ 2 ^ (p % 8) := by
      rw [List.getD_eq_getElem?_getD, List.getElem?_set_self hp, Option.getD_some]
      exact hv
    rw [hg, Nat.testBit_xor, Nat.testBit_two_pow]
    congr 1
    rw [decide_eq_decide]
    omega
  · have hne : i ≠ p := fun e => hj (by rw [e])
    simp only [List.getD_eq_getElem?_getD, List.getElem?_set_ne (fun e => hj e.symm)]
    simp [hne]
/-- The bits that differ. -/
def diff (n f t k i : Nat) : Bool := decide (f ≤ i) && decide (i < f + k) && hit n f t (i - f)
theorem turn_bit (l : List UInt8) (f t i : Nat) : ∀ k, bitB (turnT l f t k) i = (bitB l i != diff l.length f t k i)
  | 0 => by
    have h : diff l.length f t 0 i = false := by
      unfold diff
      by_cases h : f ≤ i
      · simp [show ¬ i < f from by omega]
      · simp [h]
    rw [h]; simp [turnT]
  | k + 1 => by
    unfold turnT
    split
    · rename_i hh
      have hr : (f + k) / 8 < l.length := by
        simp only [hit, Bool.and_eq_true, decide_eq_true_eq] at hh; exact hh.2
      rw [flip_bit _ _ _ (by rw [turnT_length]; exact hr), turn_bit l f t i k]
      unfold diff
      by_cases hi : i = f + k
      · subst hi; simp [hh]
      · by_cases h1 : f ≤ i <;> by_cases h2 : i < f + k <;> simp [hi, h1, h2, show (i < f + (k + 1)) = (i < f + k) from by simp; omega]
    · rename_i hh
      rw [turn_bit l f t i k]
      unfold diff
      by_cases hi : i = f + k
      · subst hi; simp [hh]
      · by_cases h1 : f ≤ i <;> by_cases h2 : i < f + k <;> simp [h1, h2, show (i < f + (k + 1)) = (i < f + k) from by simp; omega]
theorem turn_bitAt (l : List UInt8) (f t k i : Nat) : bitAt (turnT l f t k) i = bitAt l i ^^^ (diff l.length f t k i).toNat := by
  rw [bitAt_eq, bitAt_eq, turn_bit]
  cases bitB l i <;> cases diff l.length f t k i <;> rfl
theorem someT_false {n f t : Nat} : ∀ {k : Nat}, someT n f t k = false → ∀ j, j < k → hit n f t j = false
  | k + 1, h, j, hj => by
    unfold someT at h
    rw [Bool.or_eq_false_iff] at h
    rcases Nat.lt_or_ge j k with h1 | h1
    · exact someT_false h.2 j h1
    · rw [show j = k from by omega]; exact h.1
theorem someT_true {n f t : Nat} : ∀ {k : Nat}, someT n f t k = true → ∃ j, j < k ∧ hit n f t j = true
  | k + 1, h => by
    unfold someT at h
    rw [Bool.or_eq_true] at h
    rcases h with h | h
    · exact ⟨k, by omega, h⟩
    · obtain ⟨j, hj, hh⟩ := someT_true h
      exact ⟨j, by omega, hh⟩
theorem turn_none (l : List UInt8) (f t : Nat) : ∀ k, someT l.length f t k = false → turnT l f t k = l
  | 0, _ => rfl
  | k + 1, h => by
    unfold someT at h
    rw [Bool.or_eq_false_iff] at h
    unfold turnT
    rw [h.1]
    exact turn_none l f t k h.2
/-- What differs only in some of 32 bits side by side is not whole any more. -/
theorem turn_whole (l : List UInt8) (f t : Nat) (hw : wholeB l = true) (hf : f < 8 * l.length) : wholeB (turnT l f t 32) = !someT l.length f t 32 := by
  cases hs : someT l.length f t 32 with
  | false => rw [turn_none l f t 32 hs, hw]; rfl
  | true =>
    cases hw' : wholeB (turnT l f t 32) with
    | false => rfl
    | true =>
      exfalso
      have h1 := (whole_feed hw).2
      have h2 := (whole_feed hw').2
      rw [feed_bits] at h1 h2
      rw [turnT_length] at h2
      have hx : run (bitAt (turnT l f t 32)) (8 * l.length) 4294967295 = run (bitAt l) (8 * l.length) 4294967295 ^^^ run (fun i => (diff l.length f t 32 i).toNat) (8 * l.length) 0 := by
        rw [← run_xor, Nat.xor_zero]
        exact run_same _ _ (fun i _ => turn_bitAt l f t 32 i)
      rw [h1, h2] at hx
      have hz : run (fun i => (diff l.length f t 32 i).toNat) (8 * l.length) 0 = 0 := by
        have h3 := congrArg (fun z => steps 32 4294967295 ^^^ z) hx
        simp only [Nat.xor_self] at h3
        rw [← Nat.xor_assoc, Nat.xor_self, Nat.zero_xor] at h3
        exact h3.symm
      obtain ⟨m, hm⟩ : ∃ m, 8 * l.length = f + m := ⟨8 * l.length - f, by omega⟩
      obtain ⟨j, r, hj, hjm, hjr⟩ : ∃ j r, j ≤ 32 ∧ m = j + r ∧ (r = 0 ∨ j = 32) := ⟨min 32 m, m - min 32 m, by omega, by omega, by omega⟩
      rw [hm, run_add] at hz
      have hz0 : run (fun i => (diff l.length f t 32 i).toNat) f 0 = 0 := by
        rw [run_same (e := fun _ => 0) f 0 (fun i hi => by simp [diff, show ¬ f ≤ i from by omega]), run_none, steps_zero]
      rw [hz0, hjm, run_add] at hz
      rw [run_window (fun i => (diff l.length f t 32 (f + i)).toNat) t j 0 (fun k hk => by
        have hb : (f + k) / 8 < l.length := by omega
        have hmod := Nat.mod_lt (t / 2 ^ k) (show 0 < 2 by decide)
        by_cases h1 : t / 2 ^ k % 2 = 1
        · simp [diff, hit, show k < 32 from by omega, hb, h1]
        · simp [diff, hit, hb, show t / 2 ^ k % 2 = 0 from by omega]), Nat.zero_xor] at hz
      have hz2 : run (fun i => (diff l.length f t 32 (f + (j + i))).toNat) r (steps j (t % 2 ^ j)) = steps r (steps j (t % 2 ^ j)) := by
        refine (run_same (e := fun _ => 0) _ _ (fun i hi => ?_)).trans (run_none r _)
        have : j = 32 := by omega
        simp [diff, show ¬ j + i < 32 from by omega]
      rw [hz2] at hz
      have hlt : t % 2 ^ j < 4294967296 := Nat.lt_of_lt_of_le (Nat.mod_lt _ (Nat.two_pow_pos j)) (by
        have := Nat.pow_le_pow_right (n := 2) (by decide) hj
        simpa using this)
      have hz3 := steps_eq_zero j hlt (steps_eq_zero r (steps_lt j hlt) hz)
      obtain ⟨k, hk, hh⟩ := someT_true hs
      simp only [hit, Bool.and_eq_true, decide_eq_true_eq] at hh
      have hkj : k < j := by omega
      have hbit : (t % 2 ^ j).testBit k = true := by
        rw [Nat.testBit_mod_two_pow, Nat.testBit_eq_decide_div_mod_eq]
        simp [hkj, hh.1]
      rw [hz3] at hbit
      simp at hbit
end Go.Proofs.Ytpegmingmcedmaa
