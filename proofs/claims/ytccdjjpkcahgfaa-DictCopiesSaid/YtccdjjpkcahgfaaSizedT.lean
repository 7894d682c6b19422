/- Rows of rows of texts that came in, and how long they may be. -/
import Derived.Test.YtccdjjpkcahgfaaSized
import Derived.Test.YtccdjjpkcahgfaaDictH
namespace Go.Proofs.Ytccdjjpkcahgfaa
open Go.RowKit

theorem weights_mem_all {H : Type} {P : Program} {e : TypeId} {l : List (DataW H)} {d : DataW H} (hd : d ∈ l) : ∀ n ∈ d.weights P e, n ∈ DataW.weightsAll P e l := by
  intro n hn
  induction l with
  | nil => simp at hd
  | cons x r ih =>
    simp only [DataW.weightsAll, List.mem_append]
    rcases List.mem_cons.1 hd with rfl | hd
    · exact .inl hn
    · exact .inr (ih hd)
theorem RZ.slice {P : Program} {w : World} {t e : TypeId} {a : Option Addr} {n c : Nat} (ht : P.underlying t = some (.slice e)) (h : RZ P w t [.slice a n c]) :
    (a = none ∧ n = 0 ∧ c = 0) ∨ ∃ ad, a = some ad ∧ n ≤ c ∧ c ≤ maxLen ∧ ∀ i, i < n → ∃ cs, cs.length = P.cellsOf e ∧ (∀ j, j < P.cellsOf e → w.cell? (ad.add (i * P.cellsOf e + j)) = cs[j]?) ∧ RZ P w e cs := by
  obtain ⟨H, enc, base, spare, held, fuel, x, h, hz⟩ := h
  rcases Go.Deep.open_slice ht h with ⟨h1, _⟩ | ⟨ad, len, cap, m, k, D, Pl, h1, _, hl, hm, hmm, hx, hi⟩
  · injection h1 with h1 _
    injection h1 with h1 h2 h3
    exact .inl ⟨h1, h2, h3⟩
  · injection h1 with h1 _
    injection h1 with h1 h2 h3
    subst h1 h2 h3
    refine .inr ⟨ad, rfl, hl, hm, fun i hin => ?_⟩
    have him : i < m := by rw [hmm]; split <;> omega
    obtain ⟨cs, hc, ht'⟩ := hi i him
    obtain ⟨_, hcl, hat⟩ := World.cells?_some hc
    refine ⟨cs, hcl, fun j hj => ?_, H, enc, base, spare, held, k, _, ht', fun q hq => hz q ?_⟩
    · rw [← Go.Deep.add_add]
      exact hat j hj
    · rw [hx]
      simp only [DataW.weights, ht, List.mem_cons, List.mem_append]
      exact .inr (.inl (weights_mem_all (List.mem_map.2 ⟨i, List.mem_range.2 hin, rfl⟩) q hq))
theorem RZ.textss {P : Program} {w : World} {t e f : TypeId} {a : Option Addr} {n c : Nat} (ht : P.underlying t = some (.slice e)) (he : P.underlying e = some (.slice f)) (hf : P.underlying f = some .string) (hc : P.cellsOf e = 1) (hc' : P.cellsOf f = 1) (hb16 : P.bytesOf f = 16) (h : RZ P w t [.slice a n c]) :
    ∃ L, HasTs w a n c L ∧ ∀ q ∈ L, q.length * 16 ≤ 140737488351232 := by
  obtain ⟨L, hL⟩ := h.rc.textss ht he hf hc hc'
  refine ⟨L, hL, fun q hq => ?_⟩
  obtain ⟨i, hi⟩ := List.getElem?_of_mem hq
  obtain ⟨b, o, A', n', c', rfl, hb, hcell, hT⟩ := hL.has i q hi
  have hin : i < n := by have := (List.getElem?_eq_some_iff.1 hi).1; rwa [hL.len] at this
  rcases h.slice ht with ⟨h1, _⟩ | ⟨ad, h1, _, _, hx⟩
  · cases h1
  · injection h1 with h1
    subst h1
    obtain ⟨cs, hl, hat, hr⟩ := hx i hin
    rw [hc] at hl hat
    have h2 := hat 0 (by omega)
    rw [Nat.mul_one, Nat.add_zero, add_flat, hcell] at h2
    obtain ⟨x, rfl⟩ : ∃ x, cs = [x] := by
      match cs, hl with
      | [x], _ => exact ⟨x, rfl⟩
    simp at h2
    subst h2
    have h3 := hr.slice_len he
    rw [hb16] at h3
    rw [hT.len]
    unfold reachBytes at h3
    exact h3
end Go.Proofs.Ytccdjjpkcahgfaa
