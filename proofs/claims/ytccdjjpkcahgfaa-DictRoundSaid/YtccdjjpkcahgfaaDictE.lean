/- Layer 7, plain: a dictionary is read. -/
import Derived.Test.YtccdjjpkcahgfaaDictN
import Derived.Test.YtccdjjpkcahgfaaWireRd
namespace Go.Proofs.Ytccdjjpkcahgfaa

theorem lk_le (l : List UInt8) (p e : Nat) {hi : Int} (h : 0 ≤ hi) : (lk l p e 0 hi).1 ≤ hi := by
  unfold lk
  split
  · exact h
  · split
    · exact h
    · split
      · exact h
      · show gN _ ≤ hi
        omega
theorem lk_nat (l : List UInt8) (p e : Nat) {hi : Nat} : ∃ a : Nat, (lk l p e 0 (hi : Int)).1 = (a : Int) ∧ a ≤ hi :=
  ⟨(lk l p e 0 hi).1.toNat, by have := lk_pos l p e hi; omega, by have := lk_le l p e (hi := (hi : Int)) (by omega); omega⟩
theorem tx_fail {l : List UInt8} {p e : Nat} {hi : Int} (h : e ≠ 0) : tx l p e hi = ([], p, e) := tx_err (lk_err h) h
theorem tx_len (l : List UInt8) (p e : Nat) : (tx l p e 12).1.length ≤ 12 := by
  have h := lk_le l p e (hi := 12) (by decide)
  unfold tx
  simp only
  split
  · simp
  · split
    · refine Nat.le_trans (List.length_take_le _ _) ?_
      omega
    · simp
theorem tx_name {l : List UInt8} {p e : Nat} {hi : Int} (h : nameP (tx l p e hi).1) : (tx l p e hi).2.2 = 0 := by
  have h1 := h.1
  unfold tx at h1 ⊢
  simp only at h1 ⊢
  split
  · rename_i h2; rw [if_pos h2] at h1; simp at h1
  · rename_i h2
    rw [if_neg h2] at h1
    split
    · rfl
    · rename_i h3; rw [if_neg h3] at h1; simp at h1

/-- One path more: what is there, the place, the error. -/
def rdS (n : Nat) (l : List UInt8) (x : List Pth × Nat × Nat) : List Pth × Nat × Nat :=
  let k := lk l x.2.1 x.2.2 0 x.1.length
  let t := tx l (x.2.1 + k.2.1) k.2.2 12
  if mayC n x.1 k.1.toNat t.1 then (x.1 ++ [pth x.1 k.1.toNat ++ [t.1]], t.2.1, t.2.2) else (x.1, t.2.1, if t.2.2 = 0 then 2 else t.2.2)
def rdN (n : Nat) (l : List UInt8) (x : List Pth × Nat × Nat) : Nat → List Pth × Nat × Nat
  | 0 => x
  | i + 1 => rdS n l (rdN n l x i)
def rdI (l : List UInt8) (p e : Nat) : Int × Nat × Nat := lk l p e 0 40
/-- The whole. -/
def rdD (n : Nat) (l : List UInt8) (p e : Nat) : List Pth × Nat × Nat :=
  let x := rdN n l ([], p + (rdI l p e).2.1, (rdI l p e).2.2) (rdI l p e).1.toNat
  (x.1, x.2.1, if x.2.2 = 0 then (if dueP n x.1 = 0 then 0 else 2) else x.2.2)
theorem rdS_is {n : Nat} {l : List UInt8} {Q : List Pth} {p e : Nat} {a k1 e1 : Nat} {s : Txt} {p2 e2 : Nat} (h1 : lk l p e 0 Q.length = ((a : Int), k1, e1)) (h2 : tx l (p + k1) e1 12 = (s, p2, e2)) :
    rdS n l (Q, p, e) = if mayC n Q a s then (Q ++ [pth Q a ++ [s]], p2, e2) else (Q, p2, if e2 = 0 then 2 else e2) := by
  unfold rdS
  simp only [h1, h2, Int.toNat_natCast]
theorem rdS_stick {n : Nat} {l : List UInt8} {Q : List Pth} {p e : Nat} (h : e ≠ 0) : rdS n l (Q, p, e) = (Q, p, e) := by
  have h1 : lk l p e 0 Q.length = (((0 : Nat) : Int), 0, e) := lk_err h
  have h2 : tx l (p + 0) e 12 = ([], p, e) := tx_fail h
  rw [rdS_is h1 h2, if_neg, if_neg h]
  intro hm
  have := hm.1.1
  simp at this
theorem rdN_stick {n : Nat} {l : List UInt8} {x : List Pth × Nat × Nat} {i j : Nat} (h : (rdN n l x i).2.2 ≠ 0) (hij : i ≤ j) : rdN n l x j = rdN n l x i := by
  obtain ⟨d, rfl⟩ : ∃ d, j = i + d := ⟨j - i, by omega⟩
  induction d with
  | zero => rfl
  | succ d ih =>
    have := ih (by omega)
    show rdS n l (rdN n l x (i + d)) = _
    rw [this]
    exact rdS_stick h
theorem rdS_good {n : Nat} {l : List UInt8} {x : List Pth × Nat × Nat} (h : Good n x.1) (hs : x.1.length < 40) : Good n (rdS n l x).1 ∧ (rdS n l x).1.length ≤ x.1.length + 1 := by
  obtain ⟨Q, p, e⟩ := x
  obtain ⟨a, ha, hal⟩ := lk_nat l p e (hi := Q.length)
  obtain ⟨s, p2, e2, ht⟩ : ∃ s p2 e2, tx l (p + (lk l p e 0 Q.length).2.1) (lk l p e 0 Q.length).2.2 12 = (s, p2, e2) := ⟨_, _, _, rfl⟩
  rw [rdS_is (a := a) (k1 := (lk l p e 0 Q.length).2.1) (e1 := (lk l p e 0 Q.length).2.2) (by rw [← ha]) ht]
  split
  · rename_i hm
    exact ⟨h.mayC_come hal hm hs, by simp⟩
  · exact ⟨h, by simp⟩
theorem rdN_good {n : Nat} {l : List UInt8} {x : List Pth × Nat × Nat} (h : Good n x.1) (hx : x.1 = []) : ∀ {i : Nat}, i ≤ 40 → Good n (rdN n l x i).1 ∧ (rdN n l x i).1.length ≤ i := by
  intro i hi
  induction i with
  | zero => exact ⟨h, by rw [show rdN n l x 0 = x from rfl, hx]; simp⟩
  | succ i ih =>
    obtain ⟨h1, h2⟩ := ih (by omega)
    obtain ⟨h3, h4⟩ := rdS_good (l := l) h1 (by omega)
    exact ⟨h3, by show (rdS n l _).1.length ≤ _; omega⟩
end Go.Proofs.Ytccdjjpkcahgfaa
