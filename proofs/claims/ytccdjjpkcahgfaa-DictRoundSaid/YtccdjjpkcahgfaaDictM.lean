/- Layer 7, plain: dictionaries as rows of paths. No program's text is met here. -/
import Derived.Test.YtccdjjpkcahgfaaNamesM
namespace Go.Proofs.Ytccdjjpkcahgfaa

/-- A path: its names. -/
abbrev Pth := List Txt

theorem nodup_inj {α : Type} {L : List α} {x : α} (hd : L.Nodup) {i j : Nat} (hi : L[i]? = some x) (hj : L[j]? = some x) : i = j := by
  induction L generalizing i j with
  | nil => simp at hi
  | cons y r ih =>
    obtain ⟨h1, h2⟩ := List.nodup_cons.1 hd
    cases i with
    | zero =>
      cases j with
      | zero => rfl
      | succ j =>
        simp at hi hj
        exact absurd (hi ▸ List.mem_of_getElem? hj) h1
    | succ i =>
      cases j with
      | zero =>
        simp at hi hj
        exact absurd (hj ▸ List.mem_of_getElem? hi) h1
      | succ j =>
        simp at hi hj
        rw [ih h2 hi hj]
/-- The place of x in L, from 1 on; 0, if it is not there. -/
def fnd {α : Type} [DecidableEq α] : List α → α → Nat
  | [], _ => 0
  | y :: r, x => if y = x then 1 else if fnd r x = 0 then 0 else fnd r x + 1
section
variable {α : Type} [DecidableEq α] {L M : List α} {x y : α}
theorem fnd_zero : fnd L x = 0 ↔ x ∉ L := by
  induction L with
  | nil => simp [fnd]
  | cons y r ih =>
    unfold fnd
    by_cases h : y = x
    · simp [h]
    · by_cases h0 : fnd r x = 0
      · have := ih.1 h0
        simp [h, h0, this, Ne.symm h]
      · have := (not_congr ih).1 h0
        rw [if_neg h, if_neg h0]
        simp only [Nat.add_eq_zero_iff, Nat.succ_ne_self, and_false, false_iff]
        simpa [Ne.symm h] using this
theorem fnd_no (h : x ∉ L) : fnd L x = 0 := fnd_zero.2 h
theorem fnd_pos : 0 < fnd L x ↔ x ∈ L := by
  have := fnd_zero (L := L) (x := x)
  constructor
  · intro h; exact Classical.byContradiction fun hn => by have := this.2 hn; omega
  · intro h
    rcases Nat.eq_zero_or_pos (fnd L x) with h0 | h0
    · exact absurd h (this.1 h0)
    · exact h0
theorem fnd_le : fnd L x ≤ L.length := by
  induction L with
  | nil => simp [fnd]
  | cons y r ih =>
    unfold fnd
    split
    · simp
    · split <;> simp <;> omega
theorem fnd_get (h : x ∈ L) : L[fnd L x - 1]? = some x := by
  induction L with
  | nil => simp at h
  | cons y r ih =>
    unfold fnd
    by_cases e : y = x
    · simp [e]
    · have hr : x ∈ r := by simpa [Ne.symm e] using h
      have h0 := fnd_pos.2 hr
      rw [if_neg e, if_neg (by omega), Nat.add_sub_cancel]
      have := ih hr
      obtain ⟨k, hk⟩ : ∃ k, fnd r x = k + 1 := ⟨fnd r x - 1, by omega⟩
      rw [hk] at this ⊢
      simpa using this
theorem fnd_first {j : Nat} (h : j + 1 < fnd L x) : L[j]? ≠ some x := by
  induction L generalizing j with
  | nil => simp
  | cons y r ih =>
    unfold fnd at h
    split at h
    · omega
    · rename_i e
      split at h
      · omega
      · cases j with
        | zero => simpa using e
        | succ j => simpa using ih (by omega)
theorem fnd_of {i : Nat} (h : L[i]? = some x) (hn : ∀ j, j < i → L[j]? ≠ some x) : fnd L x = i + 1 := by
  have hm : x ∈ L := List.mem_of_getElem? h
  have h1 := fnd_get hm
  have hp := fnd_pos.2 hm
  have h2 : ¬ fnd L x - 1 < i := fun hlt => hn _ hlt h1
  have h3 : ¬ i + 1 < fnd L x := fun hlt => fnd_first hlt h
  omega
theorem fnd_nodup (hd : L.Nodup) {i : Nat} (h : L[i]? = some x) : fnd L x = i + 1 :=
  fnd_of h fun j hj hh => by have := nodup_inj hd h hh; omega
theorem fnd_inj (h : fnd L x = fnd L y) (hx : x ∈ L) : x = y := by
  have hy : y ∈ L := fnd_pos.1 (by rw [← h]; exact fnd_pos.2 hx)
  have h1 := fnd_get hx
  have h2 := fnd_get hy
  rw [h, h2] at h1
  exact (Option.some.inj h1).symm
theorem fnd_left (h : x ∈ L) : fnd (L ++ M) x = fnd L x := by
  have hp := fnd_pos.2 h
  have hl := fnd_le (L := L) (x := x)
  have e : fnd L x = (fnd L x - 1) + 1 := by omega
  rw [e]
  refine fnd_of (by rw [List.getElem?_append_left (by omega)]; exact fnd_get h) fun j hj hh => ?_
  rw [List.getElem?_append_left (by omega)] at hh
  exact fnd_first (by omega) hh
theorem fnd_new (h : x ∉ L) : fnd (L ++ [x]) x = L.length + 1 := by
  refine fnd_of (by simp) fun j hj hh => h ?_
  rw [List.getElem?_append_left hj] at hh
  exact List.mem_of_getElem? hh
theorem fnd_other (h : x ≠ y) : fnd (L ++ [y]) x = fnd L x := by
  by_cases hx : x ∈ L
  · exact fnd_left hx
  · rw [fnd_no hx, fnd_no]
    simp [hx, h]
end
/-- A one-to-one look at the members and x changes no place. -/
theorem fnd_map {α β : Type} [DecidableEq α] [DecidableEq β] {L : List α} {x : α} (f : α → β) (hf : ∀ y ∈ L, f y = f x → y = x) : fnd (L.map f) (f x) = fnd L x := by
  induction L with
  | nil => rfl
  | cons y r ih =>
    have ih' := ih fun z hz => hf z (List.mem_cons_of_mem _ hz)
    simp only [List.map_cons, fnd, ih']
    by_cases e : y = x
    · simp [e]
    · rw [if_neg e, if_neg fun h => e (hf y (by simp) h)]

/-- The path of a code. -/
def pth (Q : List Pth) (c : Nat) : Pth := if c = 0 then [] else Q.getD (c - 1) []
/-- A path by the code of the one with one name less. -/
def ent (Q : List Pth) (q : Pth) : Nat × Txt := (fnd Q q.dropLast, q.getLastD [])
def ents (Q : List Pth) : List (Nat × Txt) := Q.map (ent Q)

/-- Paths of a dictionary of n levels, by their codes. -/
structure Good (n : Nat) (Q : List Pth) : Prop where
  lv : 1 ≤ n ∧ n ≤ 3
  size : Q.length ≤ 40
  one : ∀ q ∈ Q, 1 ≤ q.length ∧ q.length ≤ n
  nam : ∀ q ∈ Q, ∀ s ∈ q, nameP s
  nodup : Q.Nodup
  up : ∀ (i : Nat) (q : Pth), Q[i]? = some q → q.dropLast = [] ∨ q.dropLast ∈ Q.take i
/-- Behind a path with fewer names than there are levels comes one name more of it. -/
def Whole (n : Nat) (Q : List Pth) : Prop := ∀ (i : Nat) (q : Pth), Q[i]? = some q → q.length < n → ∃ q', Q[i + 1]? = some q' ∧ q'.dropLast = q

theorem good_nil {n : Nat} (h : 1 ≤ n ∧ n ≤ 3) : Good n [] := ⟨h, by simp, by simp, by simp, by simp, by simp⟩
theorem whole_nil (n : Nat) : Whole n [] := fun i q h => by simp at h

section
variable {n : Nat} {Q : List Pth}
theorem Good.ne_nil (h : Good n Q) : [] ∉ Q := fun hm => by have := (h.one _ hm).1; simp at this
theorem Good.fnd_nil (h : Good n Q) : fnd Q [] = 0 := fnd_no h.ne_nil
theorem Good.pth_len (h : Good n Q) {c : Nat} : (pth Q c).length ≤ n := by
  unfold pth
  split
  · simp
  · by_cases hc : c - 1 < Q.length
    · rw [List.getD_eq_getElem?_getD, List.getElem?_eq_getElem hc]
      exact (h.one _ (List.getElem_mem hc)).2
    · rw [List.getD_eq_getElem?_getD, List.getElem?_eq_none (by omega)]
      simp
theorem pth_some {c : Nat} (h0 : 0 < c) (hc : c ≤ Q.length) : Q[c - 1]? = some (pth Q c) := by
  unfold pth
  rw [if_neg (by omega), List.getD_eq_getElem?_getD, List.getElem?_eq_getElem (by omega)]
  rfl
theorem pth_mem {c : Nat} (h0 : 0 < c) (hc : c ≤ Q.length) : pth Q c ∈ Q := List.mem_of_getElem? (pth_some h0 hc)
theorem Good.fnd_pth (h : Good n Q) {c : Nat} (hc : c ≤ Q.length) : fnd Q (pth Q c) = c := by
  rcases Nat.eq_zero_or_pos c with h0 | h0
  · subst h0; exact h.fnd_nil
  · rw [fnd_nodup h.nodup (pth_some h0 hc)]; omega
theorem pth_fnd {q : Pth} (hq : q ∈ Q) : pth Q (fnd Q q) = q := by
  have h1 := pth_some (fnd_pos.2 hq) (fnd_le (L := Q) (x := q))
  rw [fnd_get hq] at h1
  exact (Option.some.inj h1).symm
theorem Good.drop_mem (h : Good n Q) {q : Pth} (hq : q ∈ Q) : q.dropLast = [] ∨ q.dropLast ∈ Q := by
  obtain ⟨i, hi⟩ := List.getElem?_of_mem hq
  exact (h.up i q hi).imp id List.mem_of_mem_take
theorem Good.take_mem (h : Good n Q) {q : Pth} (hq : q ∈ Q) : ∀ {k : Nat}, 1 ≤ k → k ≤ q.length → q.take k ∈ Q := by
  intro k h1 h2
  obtain ⟨d, hd⟩ : ∃ d, q.length = k + d := ⟨q.length - k, by omega⟩
  clear h2
  induction d generalizing q with
  | zero => rw [List.take_of_length_le (by omega)]; exact hq
  | succ d ih =>
    rcases h.drop_mem hq with e | e
    · have := congrArg List.length e
      simp at this
      omega
    · have := ih e (by simp; omega)
      rwa [List.dropLast_eq_take, List.take_take, Nat.min_eq_left (by omega)] at this
theorem Good.fnd_drop (h : Good n Q) {M : List Pth} (hM : [] ∉ M) {q : Pth} (hq : q.dropLast = [] ∨ q.dropLast ∈ Q) : fnd (Q ++ M) q.dropLast = fnd Q q.dropLast := by
  rcases hq with e | e
  · rw [e, fnd_no h.ne_nil, fnd_no]
    simp [h.ne_nil, hM]
  · exact fnd_left e
theorem Good.come (h : Good n Q) {q : Pth} (hq : 1 ≤ q.length ∧ q.length ≤ n) (hn : ∀ s ∈ q, nameP s) (hnew : q ∉ Q) (hup : q.dropLast = [] ∨ q.dropLast ∈ Q) (hs : Q.length < 40) : Good n (Q ++ [q]) := by
  refine ⟨h.lv, by simp; omega, fun x hx => ?_, fun x hx => ?_, ?_, fun i x hx => ?_⟩
  · rcases List.mem_append.1 hx with hx | hx
    · exact h.one x hx
    · rw [List.mem_singleton.1 hx]; exact hq
  · rcases List.mem_append.1 hx with hx | hx
    · exact h.nam x hx
    · rw [List.mem_singleton.1 hx]; exact hn
  · rw [List.nodup_append]
    exact ⟨h.nodup, by simp, fun a ha b hb => by rw [List.mem_singleton.1 hb]; exact fun e => hnew (e ▸ ha)⟩
  · by_cases hi : i < Q.length
    · rw [List.getElem?_append_left hi] at hx
      rw [List.take_append_of_le_length (by omega)]
      exact h.up i x hx
    · have hie : i = Q.length := by
        have := (List.getElem?_eq_some_iff.1 hx).1
        simp at this
        omega
      subst hie
      simp at hx
      subst hx
      simpa using hup
theorem Good.ents_come (h : Good n Q) {q : Pth} (hne : q ≠ []) (hup : q.dropLast = [] ∨ q.dropLast ∈ Q) : ents (Q ++ [q]) = ents Q ++ [(fnd Q q.dropLast, q.getLastD [])] := by
  have hM : ([] : Pth) ∉ [q] := by simpa using hne.symm
  unfold ents
  rw [List.map_append]
  congr 1
  · refine List.map_congr_left fun x hx => ?_
    unfold ent
    rw [h.fnd_drop hM (h.drop_mem hx)]
  · simp only [List.map_cons, List.map_nil, ent]
    rw [h.fnd_drop hM hup]
theorem ents_len (Q : List Pth) : (ents Q).length = Q.length := by simp [ents]
theorem ents_get {i : Nat} {q : Pth} (h : Q[i]? = some q) : (ents Q)[i]? = some (fnd Q q.dropLast, q.getLastD []) := by
  unfold ents
  rw [List.getElem?_map, h]
  rfl
theorem last_of (q : Pth) (s : Txt) : (q ++ [s]).getLastD [] = s := by simp [List.getLastD_eq_getLast?]
theorem split_last {q : Pth} (h : q ≠ []) : q.dropLast ++ [q.getLastD []] = q := by
  have := List.dropLast_concat_getLast h
  rwa [← show q.getLastD [] = q.getLast h from by rw [List.getLastD_eq_getLast?, List.getLast?_eq_some_getLast h]; rfl] at this
/-- What the map tells. -/
theorem Good.fnd_ents (h : Good n Q) {a : Nat} {s : Txt} (ha : a ≤ Q.length) : fnd (ents Q) (a, s) = fnd Q (pth Q a ++ [s]) := by
  have e : (a, s) = ent Q (pth Q a ++ [s]) := by
    unfold ent
    rw [List.dropLast_concat, last_of, h.fnd_pth ha]
  rw [e]
  refine fnd_map (ent Q) fun y hy hh => ?_
  rw [← e] at hh
  simp only [ent, Prod.mk.injEq] at hh
  have hyn : y ≠ [] := fun e => h.ne_nil (e ▸ hy)
  have h1 : y.dropLast = pth Q a := by
    rcases h.drop_mem hy with e1 | e1
    · rw [e1, h.fnd_nil] at hh
      rw [e1, ← hh.1]
      rfl
    · rw [← hh.1, pth_fnd e1]
  rw [← h1, ← hh.2, split_last hyn]
theorem Good.mem_ents (h : Good n Q) {a : Nat} {s : Txt} (ha : a ≤ Q.length) : (a, s) ∈ ents Q ↔ pth Q a ++ [s] ∈ Q := by
  rw [← fnd_pos, h.fnd_ents ha, fnd_pos]
end
end Go.Proofs.Ytccdjjpkcahgfaa
