/- Layer 5, plain: cells that may be, of one number of measures. -/
import Derived.Test.YtbgbchbnidejhaaCellT
import Derived.Test.YtbgbchbnidejhaaCellN
namespace Go.Proofs.Ytbgbchbnidejhaa
open Go.RowKit

/-! ### Cells that may be, of one number of measures -/
def AllC (m : Nat) (L : List PC) : Prop := ∀ k, k < L.length → cMay (L.getD k zeroC) ∧ (L.getD k zeroC).2.1.length = m
def sumsAt (L : List PC) (k : Nat) : List Int := L.map fun c => c.2.1.getD k 0
/-- What cells are together, of which the first is not empty. -/
def togC (m : Nat) (L : List PC) : PC × Int := if cMay (sumC m L) then (sumC m L, 0) else (zeroC, 14)
theorem cMay_count {c : PC} (h : cMay c) : 0 ≤ c.1 ∧ c.1 ≤ 1099511627776 := by
  obtain ⟨n, S, M, X⟩ := c
  obtain ⟨_, _, _, h1, h2, _⟩ := (cMay_iff n S M X).1 h
  exact ⟨h1, h2⟩
theorem cMay_in {c : PC} (h : cMay c) {k : Nat} (hk : k < c.2.1.length) : inS (c.2.1.getD k 0) := by
  obtain ⟨n, S, M, X⟩ := c
  obtain ⟨_, _, _, _, _, h3⟩ := (cMay_iff n S M X).1 h
  rcases h3 k hk with ⟨_, h, _⟩ | ⟨_, _, _, _, h, _⟩
  · have h : S.getD k 0 = 0 := h
    show inS (S.getD k 0)
    rw [h]
    exact ⟨by decide, by decide⟩
  · exact h
theorem AllC.mem {m : Nat} {L : List PC} (h : AllC m L) : ∀ c ∈ L, cMay c ∧ c.2.1.length = m := by
  intro c hc
  obtain ⟨k, hk, rfl⟩ := List.mem_iff_getElem.1 hc
  have := h k hk
  rwa [List.getD_eq_getElem?_getD, List.getElem?_eq_getElem hk] at this
theorem AllC.i64c {m : Nat} {L : List PC} (h : AllC m L) : I64 (L.map fun c => c.1) := by
  intro x hx
  obtain ⟨c, hc, rfl⟩ := List.mem_map.1 hx
  have := cMay_count (h.mem c hc).1
  show -9223372036854775808 ≤ c.1 ∧ c.1 ≤ 9223372036854775807
  omega
theorem AllC.i64s {m : Nat} {L : List PC} (h : AllC m L) {k : Nat} (hk : k < m) : I64 (sumsAt L k) := by
  intro x hx
  obtain ⟨c, hc, rfl⟩ := List.mem_map.1 hx
  obtain ⟨h1, h2⟩ := h.mem c hc
  have := cMay_in h1 (k := k) (by omega)
  unfold inS at this
  show -9223372036854775808 ≤ c.2.1.getD k 0 ∧ c.2.1.getD k 0 ≤ 9223372036854775807
  omega
theorem sumI_count : ∀ {l : List Int}, (∀ x ∈ l, 0 ≤ x ∧ x ≤ 1099511627776) → 0 ≤ sumI l ∧ sumI l ≤ 1099511627776 * (l.length : Int) := by
  intro l
  induction l with
  | nil => intro _; simp [sumI]
  | cons x l ih =>
    intro h
    have h1 := h x (by simp)
    have h2 := ih fun y hy => h y (by simp [hy])
    simp only [sumI, List.length_cons]
    omega
theorem AllC.count {m : Nat} {L : List PC} (h : AllC m L) (hn : L.length ≤ 1000000) : 0 ≤ sumI (L.map fun c => c.1) ∧ is64 (sumI (L.map fun c => c.1)) := by
  have h1 := sumI_count (l := L.map fun c => c.1) (by
    intro x hx
    obtain ⟨c, hc, rfl⟩ := List.mem_map.1 hx
    exact cMay_count (h.mem c hc).1)
  rw [List.length_map] at h1
  unfold is64
  omega
theorem sumC_get {m k : Nat} (L : List PC) (h : k < m) : (sumC m L).2.1.getD k 0 = sumI (sumsAt L k) ∧ (sumC m L).2.2.1.getD k 0 = minL ((fullC L).map fun c => c.2.2.1.getD k 0) ∧ (sumC m L).2.2.2.getD k 0 = maxL ((fullC L).map fun c => c.2.2.2.getD k 0) := by
  simp [sumC, sumsAt, List.getD_eq_getElem?_getD, h]
theorem sumC_length (m : Nat) (L : List PC) : (sumC m L).2.1.length = m ∧ (sumC m L).2.2.1.length = m ∧ (sumC m L).2.2.2.length = m := by simp [sumC]
theorem togC_far {m k : Nat} {L : List PC} (hk : k < m) (h : ¬ is64 (sumI (sumsAt L k))) : togC m L = (zeroC, 14) := by
  unfold togC
  rw [if_neg]
  intro hc
  have := cMay_in hc (k := k) (by rw [(sumC_length m L).1]; exact hk)
  rw [(sumC_get L hk).1] at this
  apply h
  unfold inS at this
  unfold is64
  omega
theorem full_first {L : List PC} (h0 : 0 < L.length) (h : 0 < (L.getD 0 zeroC).1) : L.getD 0 zeroC ∈ fullC L := by
  rw [List.getD_eq_getElem?_getD, List.getElem?_eq_getElem h0] at h ⊢
  refine List.mem_filter.2 ⟨List.getElem_mem h0, ?_⟩
  simp only [Option.getD_some] at h ⊢
  simp only [decide_eq_true_eq]
  omega
theorem loL_is {L : List PC} (h0 : 0 < L.length) (h : 0 < (L.getD 0 zeroC).1) (i : Nat) : minL (loL L i) = minL ((fullC L).map fun c => c.2.2.1.getD i 0) := by
  have hm := full_first h0 h
  refine minL_same (by simp [loL]) (fun e => ?_) fun x => ?_
  · rw [List.map_eq_nil_iff] at e; rw [e] at hm; cases hm
  · unfold loL
    rw [List.mem_cons]
    exact ⟨fun hx => hx.elim (fun e => by rw [e]; exact List.mem_map.2 ⟨_, hm, rfl⟩) id, .inr⟩
theorem hiL_is {L : List PC} (h0 : 0 < L.length) (h : 0 < (L.getD 0 zeroC).1) (i : Nat) : maxL (hiL L i) = maxL ((fullC L).map fun c => c.2.2.2.getD i 0) := by
  have hm := full_first h0 h
  refine maxL_same (by simp [hiL]) (fun e => ?_) fun x => ?_
  · rw [List.map_eq_nil_iff] at e; rw [e] at hm; cases hm
  · unfold hiL
    rw [List.mem_cons]
    exact ⟨fun hx => hx.elim (fun e => by rw [e]; exact List.mem_map.2 ⟨_, hm, rfl⟩) id, .inr⟩
end Go.Proofs.Ytbgbchbnidejhaa
