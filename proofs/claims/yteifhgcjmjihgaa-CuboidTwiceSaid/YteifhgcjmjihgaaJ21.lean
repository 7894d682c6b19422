/- WireRefP -/
import Derived.Test.YteifhgcjmjihgaaJ5
import Derived.Test.YteifhgcjmjihgaaJ17
import Derived.Lib.AppendStr
namespace Go.Proofs.Yteifhgcjmjihgaa
set_option maxRecDepth 100000
open Go.RowKit

/-- The first k bits of u. -/
def bitsL (u k : Nat) : List Int := (List.range k).map fun i => ((u / 2 ^ i % 2 : Nat) : Int)
theorem bitsL_len (u k : Nat) : (bitsL u k).length = k := by simp [bitsL]
theorem bitsL_succ (u k : Nat) : bitsL u (k + 1) = bitsL u k ++ [((u / 2 ^ k % 2 : Nat) : Int)] := by simp [bitsL, List.range_succ]
theorem bitsL_get {u k i : Nat} (h : i < k) : (bitsL u k).getD i 0 = ((u / 2 ^ i % 2 : Nat) : Int) := by simp [bitsL, List.getD_eq_getElem?_getD, h]
theorem bit_next (u k : Nat) : u / 2 ^ (k + 1) % 2 = u / 2 / 2 ^ k % 2 := by rw [Nat.pow_succ, Nat.mul_comm, Nat.div_div_eq_div_mul]
theorem half_next (h k : Nat) : h / 2 ^ (k + 1) = h / 2 ^ k / 2 := by rw [Nat.pow_succ, Nat.div_div_eq_div_mul]
/-- The byte of a group, bit by bit from its highest. -/
theorem group_step (u i r : Nat) : (u / 2 ^ (i + 1) % 2 ^ r) * 2 + u / 2 ^ i % 2 = u / 2 ^ i % 2 ^ (r + 1) := by
  have e : u / 2 ^ (i + 1) = u / 2 ^ i / 2 := half_next u i
  rw [e]
  generalize u / 2 ^ i = x
  have h1 : 2 ^ (r + 1) = 2 * 2 ^ r := by rw [Nat.pow_succ, Nat.mul_comm]
  rw [h1, Nat.mod_mul]
  omega
/-- The bytes, one behind the other. -/
theorem enc_at {u G : Nat} (h1 : u < 128 ^ (G + 1)) (h2 : G = 0 ∨ 128 ^ G ≤ u) {g : Nat} (hg : g ≤ G) : enc (u / 128 ^ g) = if g < G then UInt8.ofNat (u / 128 ^ g % 128 + 128) :: enc (u / 128 ^ (g + 1)) else [UInt8.ofNat (u / 128 ^ g % 128)] := by
  have e : u / 128 ^ (g + 1) = u / 128 ^ g / 128 := by rw [Nat.pow_succ, Nat.div_div_eq_div_mul]
  by_cases hlt : g < G
  · rw [if_pos hlt, enc_big, e]
    have hG : 128 ^ G ≤ u := by rcases h2 with h | h <;> omega
    have h3 : 128 ^ (g + 1) ≤ 128 ^ G := Nat.pow_le_pow_right (by decide) hlt
    have h4 : 0 < 128 ^ g := Nat.pos_of_ne_zero (by simp)
    have : 128 ≤ u / 128 ^ g := by
      rw [Nat.le_div_iff_mul_le h4, Nat.mul_comm, ← Nat.pow_succ]
      omega
    omega
  · obtain rfl : g = G := by omega
    have h4 : 0 < 128 ^ g := Nat.pos_of_ne_zero (by simp)
    have : u / 128 ^ g < 128 := by
      rw [Nat.div_lt_iff_lt_mul h4, Nat.mul_comm, ← Nat.pow_succ]
      exact h1
    rw [if_neg hlt, enc_small this, Nat.mod_eq_of_lt this]
/-- The highest bit that is set. -/
def TopAt (u k t : Nat) : Prop := t < 64 ∧ (t = 0 ∨ u / 2 ^ t % 2 = 1) ∧ ∀ i, i < k → t < i → u / 2 ^ i % 2 = 0
theorem lt_of_zeros {u : Nat} : ∀ (k t : Nat), u < 2 ^ k → t ≤ k → (∀ i, i < k → t ≤ i → u / 2 ^ i % 2 = 0) → u < 2 ^ t
  | 0, t, h, ht, _ => by
    obtain rfl : t = 0 := by omega
    exact h
  | k + 1, t, h, ht, hz => by
    rcases Nat.lt_or_ge t (k + 1) with hlt | hge
    · have h0 := hz k (by omega) (by omega)
      have h2 : u / 2 ^ k < 2 := by
        rw [Nat.div_lt_iff_lt_mul (Nat.pos_of_ne_zero (by simp)), Nat.mul_comm, ← Nat.pow_succ]
        exact h
      have h3 : u / 2 ^ k = 0 := by
        generalize u / 2 ^ k = x at h0 h2
        omega
      have h4 : u < 2 ^ k := by
        rcases Nat.div_eq_zero_iff.1 h3 with h | h
        · simp at h
        · exact h
      exact lt_of_zeros k t h4 (by omega) fun i hi hti => hz i (by omega) hti
    · obtain rfl : t = k + 1 := by omega
      exact h
theorem TopAt.bounds {u t : Nat} (h : TopAt u 64 t) (hu : u < 18446744073709551616) : u < 128 ^ (t / 7 + 1) ∧ (t / 7 = 0 ∨ 128 ^ (t / 7) ≤ u) ∧ t / 7 ≤ 9 := by
  obtain ⟨h1, h2, h3⟩ := h
  have e : ∀ g : Nat, 128 ^ g = 2 ^ (7 * g) := fun g => by rw [show (128 : Nat) = 2 ^ 7 from rfl, ← Nat.pow_mul]
  refine ⟨?_, ?_, by omega⟩
  · have hlt : u < 2 ^ (t + 1) := lt_of_zeros 64 (t + 1) hu (by omega) fun i hi hti => h3 i hi (by omega)
    rw [e]
    exact Nat.lt_of_lt_of_le hlt (Nat.pow_le_pow_right (by decide) (by omega))
  · rcases h2 with h | h
    · left; rw [h]
    · right
      rw [e]
      have h4 : 2 ^ t ≤ u := by
        rcases Nat.lt_or_ge u (2 ^ t) with h5 | h5
        · rw [Nat.div_eq_of_lt h5] at h; simp at h
        · exact h5
      exact Nat.le_trans (Nat.pow_le_pow_right (by decide) (by omega)) h4
theorem topAt_step {u k t : Nat} (hk : k < 64) (h : TopAt u k t) : TopAt u (k + 1) (if u / 2 ^ k % 2 = 1 then k else t) := by
  obtain ⟨h1, h2, h3⟩ := h
  by_cases hb : u / 2 ^ k % 2 = 1
  · rw [if_pos hb]
    exact ⟨hk, .inr hb, fun i hi hki => by omega⟩
  · rw [if_neg hb]
    refine ⟨h1, h2, fun i hi hti => ?_⟩
    rcases Nat.lt_or_ge i k with h4 | h4
    · exact h3 i h4 hti
    · obtain rfl : i = k := by omega
      omega

theorem bit_far {u q : Nat} (hu : u < 18446744073709551616) (hq : 64 ≤ q) : u / 2 ^ q = 0 :=
  Nat.div_eq_of_lt (Nat.lt_of_lt_of_le hu (Nat.le_trans (Nat.le_of_eq (by decide : (18446744073709551616 : Nat) = 2 ^ 64)) (Nat.pow_le_pow_right (by decide) hq)))
theorem group_all (u g : Nat) : u / 2 ^ (7 * g + 0) % 2 ^ 7 = u / 128 ^ g % 128 := by
  rw [Nat.add_zero, Nat.pow_mul]
theorem strCells_is (t : List UInt8) : Lib.strCells ⟨t.toArray⟩ = t.map byt := by simp [Lib.strCells, byt]
/-- append of a text's bytes. -/
theorem wpList_appS {w : World} {ops : Array Oper} {rest : List Oper} {o : Oper} {a : Act} {Q : Exit → Act → World → Prop} (hgd : o.guard = none) (s x : Operand)
    (ho : o.op = .call { callee := .builtin .append, args := #[s, x], argTypes := #[35, 9] })
    (base : Nat) (v : Value) (l : List UInt8) (hs : a.eval s = v) (hown : OwnB w base 5 v l) (t : List UInt8) (hx : a.eval x = .string ⟨t.toArray⟩) (hbytes : l.length + t.length ≤ 140737488355328) (hbase : base ≤ w.heap.size)
    (h : ∀ v' w', OwnB w' base 5 v' (l ++ t) → Below base w w' → wpList Try.prog ops Q rest (a.put o.dst v') w') : wpList Try.prog ops Q (o :: rest) a w := by
  obtain ⟨i, hi, hz0, hz1, hz2⟩ := info_parts info_u8
  have hsz : (⟨t.toArray⟩ : ByteArray).size = t.length := by show t.toArray.size = _; simp
  refine Lib.wpList_append_own_string w hgd s x 35 9 ho base 5 i Try.underlying35 Try.underlying9 hi hz0 hz1 hz2 v l.length (l.map byt) hs hown ⟨t.toArray⟩ hx (by rw [hsz]; unfold maxLen; omega) (by rw [hsz]; omega) hbase fun v' w' h1 h2 _ => h v' w' ?_ ?_
  · rw [strCells_is, hsz, ← List.map_append, ← List.length_append] at h1
    exact h1
  · exact ⟨h2.os, h2.tape, h2.output, h2.size, fun k hk => h2.block k (by omega) fun e => by have := (hown.lt k e.symm).1; omega⟩
end Go.Proofs.Yteifhgcjmjihgaa
