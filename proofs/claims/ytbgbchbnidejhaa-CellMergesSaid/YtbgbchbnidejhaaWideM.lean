/- Layer 4, plain: numbers as rows of bits, wide numbers. No program's text is met here. -/
import Derived.Test.YtbgbchbnidejhaaBase
namespace Go.Proofs.Ytbgbchbnidejhaa

/-- The lowest n bits of a number, the lowest first. -/
def bitsOf : Nat → Int → List Int
  | 0, _ => []
  | n + 1, z => z % 2 :: bitsOf n (z / 2)
/-- A number without its lowest k bits, rounded down. -/
def shR (z : Int) : Nat → Int
  | 0 => z
  | k + 1 => shR z k / 2
theorem shR_half (z : Int) (k : Nat) : shR (z / 2) k = shR z (k + 1) := by
  induction k with
  | zero => rfl
  | succ k ih => show shR (z / 2) k / 2 = _; rw [ih]; rfl
theorem shR_add (z : Int) (j k : Nat) : shR (shR z j) k = shR z (j + k) := by
  induction k with
  | zero => rfl
  | succ k ih => show shR (shR z j) k / 2 = _; rw [ih]; rfl
theorem shR_pow (z : Int) (k : Nat) : shR z k = z / 2 ^ k := by
  induction k with
  | zero => simp [shR]
  | succ k ih =>
    show shR z k / 2 = _
    rw [ih, Int.ediv_ediv_of_nonneg (Int.le_of_lt (Int.pow_pos (by decide))), Int.pow_succ]
theorem bitsOf_length (n : Nat) (z : Int) : (bitsOf n z).length = n := by
  induction n generalizing z with
  | zero => rfl
  | succ n ih => simp [bitsOf, ih]
theorem bitsOf_get (n : Nat) (z : Int) (k : Nat) (hk : k < n) : (bitsOf n z)[k]? = some (shR z k % 2) := by
  induction n generalizing z k with
  | zero => omega
  | succ n ih =>
    cases k with
    | zero => rfl
    | succ k =>
      show (bitsOf n (z / 2))[k]? = _
      rw [ih _ k (by omega), shR_half]
theorem bitsOf_getD (n : Nat) (z : Int) (k : Nat) (hk : k < n) : (bitsOf n z).getD k 0 = shR z k % 2 := by
  rw [List.getD_eq_getElem?_getD, bitsOf_get n z k hk]
  rfl
theorem bitsOf_snoc (n : Nat) (z : Int) : bitsOf (n + 1) z = bitsOf n z ++ [shR z n % 2] := by
  induction n generalizing z with
  | zero => rfl
  | succ n ih =>
    show z % 2 :: bitsOf (n + 1) (z / 2) = z % 2 :: (bitsOf n (z / 2) ++ _)
    rw [ih, shR_half]
theorem bitsOf_take (m n : Nat) (z : Int) (h : m ≤ n) : (bitsOf n z).take m = bitsOf m z := by
  induction m generalizing n z with
  | zero => rfl
  | succ m ih =>
    cases n with
    | zero => omega
    | succ n => show z % 2 :: (bitsOf n (z / 2)).take m = _; rw [ih n _ (by omega)]; rfl
theorem bitsOf_drop (m n : Nat) (z : Int) : (bitsOf (m + n) z).drop m = bitsOf n (shR z m) := by
  induction m generalizing z with
  | zero => simp [shR]
  | succ m ih =>
    rw [show m + 1 + n = (m + n) + 1 by omega]
    show (bitsOf (m + n) (z / 2)).drop m = _
    rw [ih, shR_half]
theorem bitsOf_app (m n : Nat) (hi lo : Int) (h0 : shR lo m = 0) : bitsOf m lo ++ bitsOf n hi = bitsOf (m + n) (hi * 2 ^ m + lo) := by
  induction m generalizing lo with
  | zero =>
    have : lo = 0 := h0
    subst this
    simp [bitsOf]
  | succ m ih =>
    have h1 : shR (lo / 2) m = 0 := by rw [shR_half]; exact h0
    rw [show m + 1 + n = (m + n) + 1 by omega]
    show lo % 2 :: (bitsOf m (lo / 2) ++ bitsOf n hi) = (hi * 2 ^ (m + 1) + lo) % 2 :: bitsOf (m + n) ((hi * 2 ^ (m + 1) + lo) / 2)
    rw [ih _ h1, show hi * 2 ^ (m + 1) + lo = lo + (hi * 2 ^ m) * 2 by rw [Int.pow_succ, ← Int.mul_assoc]; omega]
    rw [Int.add_mul_emod_self_right, Int.add_mul_ediv_right _ _ (by decide)]
    rw [Int.add_comm (lo / 2)]
theorem bitsOf_congr (n : Nat) (x y : Int) (h : x % 2 ^ n = y % 2 ^ n) : bitsOf n x = bitsOf n y := by
  induction n generalizing x y with
  | zero => rfl
  | succ n ih =>
    have h2 : (2 : Int) ^ (n + 1) = 2 * 2 ^ n := by rw [Int.pow_succ, Int.mul_comm]
    have hx : x % 2 ^ (n + 1) % 2 = x % 2 := by rw [h2]; exact Int.emod_emod_of_dvd x (Int.dvd_mul_right 2 _)
    have hy : y % 2 ^ (n + 1) % 2 = y % 2 := by rw [h2]; exact Int.emod_emod_of_dvd y (Int.dvd_mul_right 2 _)
    have e0 : x % 2 = y % 2 := by rw [← hx, ← hy, h]
    have e1 : x / 2 % 2 ^ n = y / 2 % 2 ^ n := by
      have hd := Int.emod_emod_of_dvd
      obtain ⟨q, hq⟩ : (2 : Int) ^ (n + 1) ∣ x - y := Int.dvd_of_emod_eq_zero (Int.emod_eq_emod_iff_emod_sub_eq_zero.1 h)
      rw [h2, Int.mul_assoc] at hq
      rw [Int.emod_eq_emod_iff_emod_sub_eq_zero]
      have : x / 2 - y / 2 = 2 ^ n * q := by omega
      rw [this]
      exact Int.mul_emod_right _ _
    show x % 2 :: bitsOf n (x / 2) = y % 2 :: bitsOf n (y / 2)
    rw [e0, ih _ _ e1]
theorem bit_may (z : Int) (k : Nat) : 0 ≤ shR z k % 2 ∧ shR z k % 2 ≤ 1 := by omega
theorem shR_zero {z : Int} {m : Nat} (h0 : 0 ≤ z) (h1 : z < 2 ^ m) : shR z m = 0 := by
  rw [shR_pow]
  exact Int.ediv_eq_zero_of_lt h0 h1
theorem shR_ends {z : Int} {m : Nat} (h0 : -(2 ^ m) ≤ z) (h1 : z < 2 ^ m) : (0 ≤ z ∧ shR z m = 0) ∨ (z < 0 ∧ shR z m = -1) := by
  have hp : (0 : Int) < 2 ^ m := Int.pow_pos (by decide)
  rw [shR_pow]
  by_cases h : 0 ≤ z
  · exact .inl ⟨h, Int.ediv_eq_zero_of_lt h h1⟩
  · refine .inr ⟨by omega, ?_⟩
    have e : z = (z + 2 ^ m) + (-1) * 2 ^ m := by omega
    rw [e, Int.add_mul_ediv_right _ _ (by omega), Int.ediv_eq_zero_of_lt (by omega) (by omega)]
    rfl
theorem shR_stay {z : Int} (j : Nat) (h : z = 0 ∨ z = -1) : shR z j = z := by
  induction j with
  | zero => rfl
  | succ j ih => show shR z j / 2 = z; rw [ih]; omega
theorem shR_lo {z : Int} {m : Int} (k : Nat) (h : m ≤ z) (hm : m ≤ 0) : m ≤ shR z k := by
  induction k with
  | zero => exact h
  | succ k ih => show m ≤ shR z k / 2; omega
theorem shR_hi {z : Int} {m : Int} (k : Nat) (h : z ≤ m) (hm : 0 ≤ m) : shR z k ≤ m := by
  induction k with
  | zero => exact h
  | succ k ih => show shR z k / 2 ≤ m; omega
theorem shR_lt {x y : Int} (k : Nat) (h : shR x k < shR y k) : x < y := by
  induction k with
  | zero => exact h
  | succ k ih => exact ih (by have h' : shR x k / 2 < shR y k / 2 := h; omega)
theorem shR32 (z : Int) : shR z 32 = z / 4294967296 := by rw [shR_pow]; rfl

/-- A sum's bits: what is carried into place k. -/
def carr (x y : Int) (k : Nat) : Int := shR (x + y) k - shR x k - shR y k
theorem carr_zero (x y : Int) : carr x y 0 = 0 := by show x + y - x - y = 0; omega
theorem carr_may (x y : Int) (k : Nat) : 0 ≤ carr x y k ∧ carr x y k ≤ 1 := by
  induction k with
  | zero => rw [carr_zero]; decide
  | succ k ih =>
    unfold carr at ih ⊢
    show 0 ≤ shR (x + y) k / 2 - shR x k / 2 - shR y k / 2 ∧ shR (x + y) k / 2 - shR x k / 2 - shR y k / 2 ≤ 1
    omega
theorem carr_bit (x y : Int) (k : Nat) : (shR x k % 2 + shR y k % 2 + carr x y k) % 2 = shR (x + y) k % 2 := by
  unfold carr; omega
theorem carr_next (x y : Int) (k : Nat) : (shR x k % 2 + shR y k % 2 + carr x y k) / 2 = carr x y (k + 1) := by
  have h := carr_may x y k
  unfold carr at h ⊢
  show _ = shR (x + y) k / 2 - shR x k / 2 - shR y k / 2
  omega

/-- A wide number's Hi and Lo. -/
def wHi (z : Int) : Int := z / 4294967296
def wLo (z : Int) : Int := z % 4294967296
/-- May Hi and Lo be? -/
def wMay (hi lo : Int) : Prop := 0 ≤ lo ∧ lo < 4294967296 ∧ -1099511627776 ≤ hi ∧ hi ≤ 1099511627776
instance (hi lo : Int) : Decidable (wMay hi lo) := by unfold wMay; exact inferInstance
/-- The number of Hi and Lo. -/
def wNum (hi lo : Int) : Int := hi * 4294967296 + lo
/-- May a number be a wide one? -/
def wIn (z : Int) : Prop := -4722366482869645213696 ≤ z ∧ z ≤ 4722366482869645213696 + 4294967295
theorem wIn_may (z : Int) : wMay (wHi z) (wLo z) ↔ wIn z := by unfold wMay wHi wLo wIn; omega
theorem wMay_in {hi lo : Int} (h : wMay hi lo) : wIn (wNum hi lo) := by unfold wMay at h; unfold wIn wNum; omega
theorem wHi_num {hi lo : Int} (h0 : 0 ≤ lo) (h1 : lo < 4294967296) : wHi (wNum hi lo) = hi := by unfold wHi wNum; omega
theorem wLo_num {hi lo : Int} (h0 : 0 ≤ lo) (h1 : lo < 4294967296) : wLo (wNum hi lo) = lo := by unfold wLo wNum; omega
theorem wide_bits {hi lo : Int} (h0 : 0 ≤ lo) (h1 : lo < 4294967296) : bitsOf 32 lo ++ bitsOf 48 hi = bitsOf 80 (wNum hi lo) :=
  bitsOf_app 32 48 hi lo (shR_zero h0 (by simpa using h1))
/-- The whole sum. -/
def sumI : List Int → Int
  | [] => 0
  | x :: l => x + sumI l
theorem sumI_app (a b : List Int) : sumI (a ++ b) = sumI a + sumI b := by
  induction a with
  | nil => simp [sumI]
  | cons x a ih => simp only [List.cons_append, sumI, ih]; omega
theorem sumI_take {l : List Int} {k : Nat} (hk : k < l.length) : sumI (l.take (k + 1)) = sumI (l.take k) + l.getD k 0 := by
  rw [List.take_add_one, sumI_app, List.getElem?_eq_getElem hk, List.getD_eq_getElem?_getD, List.getElem?_eq_getElem hk]
  simp [sumI]
theorem sumI_bounds {l : List Int} (h : ∀ x ∈ l, -9223372036854775808 ≤ x ∧ x ≤ 9223372036854775807) : -9223372036854775808 * (l.length : Int) ≤ sumI l ∧ sumI l ≤ 9223372036854775807 * (l.length : Int) := by
  induction l with
  | nil => simp [sumI]
  | cons x l ih =>
    have h0 := h x (by simp)
    have h1 := ih fun y hy => h y (by simp [hy])
    simp only [sumI, List.length_cons]
    omega
end Go.Proofs.Ytbgbchbnidejhaa
