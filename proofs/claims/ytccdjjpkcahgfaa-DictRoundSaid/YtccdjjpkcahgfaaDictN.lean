/- Layer 7, plain: what is added, the codes of a path's first names, what may come next. -/
import Derived.Test.YtccdjjpkcahgfaaDictM
namespace Go.Proofs.Ytccdjjpkcahgfaa

/-- The codes of a path's first 0, 1, .. names (m of them). -/
def cds (Q : List Pth) (p : Pth) (m : Nat) : List Int := (List.range m).map fun i => ((fnd Q (p.take i) : Nat) : Int)
theorem cds_len (Q : List Pth) (p : Pth) (m : Nat) : (cds Q p m).length = m := by simp [cds]
theorem cds_succ (Q : List Pth) (p : Pth) (m : Nat) : cds Q p (m + 1) = cds Q p m ++ [((fnd Q (p.take m) : Nat) : Int)] := by
  simp [cds, List.range_succ]
theorem cds_get {Q : List Pth} {p : Pth} {m i : Nat} (h : i < m) : (cds Q p m).getD i 0 = ((fnd Q (p.take i) : Nat) : Int) := by
  simp [cds, List.getD_eq_getElem?_getD, h]
theorem cds_one {n : Nat} {Q : List Pth} (h : Good n Q) (p : Pth) : cds Q p 1 = [0] := by
  simp [cds, h.fnd_nil]
/-- A path's first 1, 2, .. names. -/
def pres (p : Pth) : List Pth := (List.range p.length).map fun i => p.take (i + 1)
theorem pres_len (p : Pth) : (pres p).length = p.length := by simp [pres]
theorem pres_get {p : Pth} {i : Nat} (h : i < p.length) : (pres p)[i]? = some (p.take (i + 1)) := by simp [pres, h]
theorem cds_drop {Q : List Pth} (p : Pth) : (cds Q p (p.length + 1)).drop 1 = (pres p).map fun q => ((fnd Q q : Nat) : Int) := by
  apply List.ext_getElem?
  intro i
  rw [List.getElem?_drop, List.getElem?_map]
  by_cases h : i < p.length
  · rw [pres_get h]
    unfold cds
    rw [List.getElem?_map, List.getElem?_range (show 1 + i < p.length + 1 by omega), Nat.add_comm 1 i]
    rfl
  · rw [List.getElem?_eq_none (by rw [cds_len]; omega), List.getElem?_eq_none (by rw [pres_len]; omega)]
    rfl
/-- What is lacking of a path, and of all that it stands under. -/
def lackP (Q : List Pth) (p : Pth) : List Pth := (pres p).filter fun q => decide (q ∉ Q)

section
variable {n : Nat} {Q : List Pth} {p : Pth}
theorem Good.lack_drop (h : Good n Q) {k : Nat} (hk : k ≤ p.length) (hall : ∀ j, j < k → p.take (j + 1) ∈ Q) (hno : k = p.length ∨ p.take (k + 1) ∉ Q) : lackP Q p = (pres p).drop k := by
  unfold lackP
  conv => lhs; rw [← List.take_append_drop k (pres p), List.filter_append]
  have h1 : ((pres p).take k).filter (fun q => decide (q ∉ Q)) = [] := by
    rw [List.filter_eq_nil_iff]
    intro q hq
    obtain ⟨j, hj⟩ := List.getElem?_of_mem hq
    rw [List.getElem?_take] at hj
    split at hj
    · rename_i hjk
      rw [pres_get (by omega)] at hj
      rw [← Option.some.inj hj]
      simpa using hall j hjk
    · cases hj
  have h2 : ((pres p).drop k).filter (fun q => decide (q ∉ Q)) = (pres p).drop k := by
    rw [List.filter_eq_self]
    intro q hq
    obtain ⟨j, hj⟩ := List.getElem?_of_mem hq
    rw [List.getElem?_drop] at hj
    have hjl := (List.getElem?_eq_some_iff.1 hj).1
    rw [pres_len] at hjl
    rw [pres_get hjl] at hj
    rcases hno with e | e
    · omega
    · rw [← Option.some.inj hj]
      simp only [decide_eq_true_eq]
      intro hm
      refine e ?_
      have := h.take_mem hm (k := k + 1) (by omega) (by simp; omega)
      rwa [List.take_take, Nat.min_eq_left (by omega)] at this
  rw [h1, h2, List.nil_append]
/-- What is known of a path: the first k names. -/
def Known (Q : List Pth) (p : Pth) (k : Nat) : Prop := k ≤ p.length ∧ (∀ j, j < k → p.take (j + 1) ∈ Q) ∧ (k = p.length ∨ p.take (k + 1) ∉ Q)
theorem Good.known_mem (h : Good n Q) {k : Nat} (hk : Known Q p k) : p ∈ Q ↔ k = p.length ∧ p ≠ [] := by
  obtain ⟨h1, h2, h3⟩ := hk
  constructor
  · intro hm
    have hne : p ≠ [] := fun e => h.ne_nil (e ▸ hm)
    refine ⟨?_, hne⟩
    rcases h3 with e | e
    · exact e
    · rcases Nat.lt_or_ge k p.length with hlt | hge
      · exact absurd (h.take_mem hm (by omega) (by omega)) e
      · omega
  · rintro ⟨rfl, hne⟩
    have hl : 0 < p.length := List.length_pos_iff.2 hne
    have := h2 (p.length - 1) (by omega)
    rwa [Nat.sub_add_cancel hl, List.take_length] at this
theorem Good.known_code (_h : Good n Q) {k i : Nat} (hk : Known Q p k) (hi : i ≤ k) : p.take i = [] ∨ p.take i ∈ Q := by
  cases i with
  | zero => left; rfl
  | succ i => right; exact hk.2.1 i (by omega)

/-- Q with j more of what is lacking of p behind its first k names. -/
def grown (Q : List Pth) (p : Pth) (k j : Nat) : List Pth := Q ++ ((pres p).drop k).take j
theorem grown_zero (k : Nat) : grown Q p k 0 = Q := by simp [grown]
theorem grown_len {k j : Nat} (h : k + j ≤ p.length) : (grown Q p k j).length = Q.length + j := by
  simp [grown, pres_len]; omega
theorem grown_succ {k j : Nat} (h : k + j < p.length) : grown Q p k (j + 1) = grown Q p k j ++ [p.take (k + j + 1)] := by
  unfold grown
  rw [List.append_assoc]
  congr 1
  have hl : j < ((pres p).drop k).length := by simp [pres_len]; omega
  rw [List.take_succ_eq_append_getElem hl]
  congr 2
  have := pres_get (p := p) (i := k + j) h
  rw [← List.getElem?_drop, List.getElem?_eq_getElem hl] at this
  exact Option.some.inj this
theorem grown_all {k : Nat} (_h : k ≤ p.length) : grown Q p k (p.length - k) = Q ++ (pres p).drop k := by
  unfold grown
  rw [List.take_of_length_le (by simp [pres_len])]
theorem grown_new {k j i : Nat} (hk : Known Q p k) (h : k + j < i + 1) (hi : i < p.length) (hg : Good n Q) : p.take (i + 1) ∉ grown Q p k j := by
  intro hm
  rcases List.mem_append.1 hm with hm | hm
  · rcases hk.2.2 with e | e
    · omega
    · have := hg.take_mem hm (k := k + 1) (by omega) (by simp; omega)
      rw [List.take_take, Nat.min_eq_left (by omega)] at this
      exact e this
  · obtain ⟨a, ha⟩ := List.getElem?_of_mem hm
    rw [List.getElem?_take] at ha
    split at ha
    · rename_i haj
      rw [List.getElem?_drop] at ha
      rw [pres_get (by omega)] at ha
      have := congrArg List.length (Option.some.inj ha)
      simp at this
      omega
    · cases ha
theorem grown_mem {k j i : Nat} (hk : Known Q p k) (h : i + 1 ≤ k + j) (hi : i < p.length) : p.take (i + 1) ∈ grown Q p k j := by
  by_cases hik : i < k
  · exact List.mem_append_left _ (hk.2.1 i hik)
  · refine List.mem_append_right _ ?_
    refine List.mem_of_getElem? (i := i - k) ?_
    rw [List.getElem?_take, if_pos (by omega), List.getElem?_drop, show k + (i - k) = i by omega]
    exact pres_get hi
theorem grown_up {k j : Nat} (hk : Known Q p k) (h : k + j < p.length) : (p.take (k + j + 1)).dropLast = [] ∨ (p.take (k + j + 1)).dropLast ∈ grown Q p k j := by
  have e : (p.take (k + j + 1)).dropLast = p.take (k + j) := by
    rw [List.dropLast_eq_take, List.take_take, List.length_take]
    congr 1
    omega
  rw [e]
  rcases Nat.eq_zero_or_pos (k + j) with h0 | h0
  · left; rw [h0]; rfl
  · right
    obtain ⟨i, hi⟩ : ∃ i, k + j = i + 1 := ⟨k + j - 1, by omega⟩
    rw [hi]
    exact grown_mem hk (by omega) (by omega)
theorem grown_good (hg : Good n Q) (hn : ∀ s ∈ p, nameP s) (hl : p.length ≤ n) {k : Nat} (hk : Known Q p k) (h40 : Q.length + (p.length - k) ≤ 40) : ∀ {j : Nat}, k + j ≤ p.length → Good n (grown Q p k j) := by
  intro j hj
  induction j with
  | zero => rw [grown_zero]; exact hg
  | succ j ih =>
    rw [grown_succ (by omega)]
    refine (ih (by omega)).come ⟨by simp; omega, by simp; omega⟩ (fun s hs => hn s (List.mem_of_mem_take hs)) (grown_new hk (by omega) (by omega) hg) (grown_up hk (by omega)) ?_
    rw [grown_len (by omega)]
    omega
theorem grown_cds (hg : Good n Q) {k j : Nat} (hk : Known Q p k) (h : k + j < p.length) : cds (grown Q p k (j + 1)) p (k + (j + 1) + 1) = cds (grown Q p k j) p (k + j + 1) ++ [((Q.length + j + 1 : Nat) : Int)] := by
  rw [show k + (j + 1) + 1 = (k + j + 1) + 1 by omega, cds_succ]
  congr 1
  · unfold cds
    refine List.map_congr_left fun i hi => ?_
    have hi := List.mem_range.1 hi
    rw [grown_succ h, fnd_other]
    intro e
    have := congrArg List.length e
    simp at this
    omega
  · rw [grown_succ h, fnd_new (grown_new hk (by omega) h hg), grown_len (by omega)]
theorem last_take {q : Pth} {k : Nat} (h : k < q.length) : (q.take (k + 1)).getLastD [] = q.getD k [] := by
  rw [List.take_succ_eq_append_getElem h, last_of]
  simp [List.getD_eq_getElem?_getD, h]
theorem drop_take {q : Pth} {k : Nat} (h : k < q.length) : (q.take (k + 1)).dropLast = q.take k := by
  rw [List.dropLast_eq_take, List.take_take, List.length_take]
  congr 1
  omega
end

/-- What Add leaves, and answers. -/
def addOk (n : Nat) (Q : List Pth) (p : Pth) : Prop := (p.length = n ∧ mayP p) ∧ Q.length + (lackP Q p).length ≤ 40
instance (n : Nat) (Q : List Pth) (p : Pth) : Decidable (addOk n Q p) := by unfold addOk; exact inferInstance
def addQ (n : Nat) (Q : List Pth) (p : Pth) : List Pth := if addOk n Q p then Q ++ lackP Q p else Q
def addC (n : Nat) (Q : List Pth) (p : Pth) : List Int := if addOk n Q p then (pres p).map fun q => ((fnd (Q ++ lackP Q p) q : Nat) : Int) else []
def addE (n : Nat) (Q : List Pth) (p : Pth) : Nat := if addOk n Q p then 0 else if p.length = n ∧ mayP p then 15 else 10
section
variable {n : Nat} {Q : List Pth} {p : Pth}
theorem add_name (h : ¬ (p.length = n ∧ mayP p)) : addQ n Q p = Q ∧ addC n Q p = [] ∧ addE n Q p = 10 := by
  have h' : ¬ addOk n Q p := fun a => h a.1
  simp [addQ, addC, addE, h', h]
theorem add_full (h : p.length = n ∧ mayP p) (h' : 40 < Q.length + (lackP Q p).length) : addQ n Q p = Q ∧ addC n Q p = [] ∧ addE n Q p = 15 := by
  have h' : ¬ addOk n Q p := fun a => by have := a.2; omega
  simp [addQ, addC, addE, h', h]
theorem add_ok (h : p.length = n ∧ mayP p) (h' : Q.length + (lackP Q p).length ≤ 40) : addQ n Q p = Q ++ lackP Q p ∧ addC n Q p = (pres p).map (fun q => ((fnd (Q ++ lackP Q p) q : Nat) : Int)) ∧ addE n Q p = 0 := by
  have h' : addOk n Q p := ⟨h, h'⟩
  simp [addQ, addC, addE, h']
theorem known_ex (Q : List Pth) (p : Pth) : ∃ k, Known Q p k := by
  have key : ∀ m, m ≤ p.length → (∀ j, j < m → p.take (j + 1) ∈ Q) → ∃ k, Known Q p k := by
    intro m hm hall
    obtain ⟨d, hd⟩ : ∃ d, p.length = m + d := ⟨p.length - m, by omega⟩
    induction d generalizing m with
    | zero => exact ⟨m, hm, hall, .inl (by omega)⟩
    | succ d ih =>
      by_cases h : p.take (m + 1) ∈ Q
      · exact ih (m + 1) (by omega) (fun j hj => by
          rcases Nat.lt_or_ge j m with h1 | h1
          · exact hall j h1
          · obtain rfl : j = m := by omega
            exact h) (by omega)
      · exact ⟨m, hm, hall, .inr h⟩
  exact key 0 (Nat.zero_le _) (fun j hj => by omega)
theorem Good.add (h : Good n Q) : Good n (addQ n Q p) := by
  by_cases ho : addOk n Q p
  · obtain ⟨k, hk⟩ := known_ex Q p
    have hl := h.lack_drop hk.1 hk.2.1 hk.2.2
    have h40 := ho.2
    rw [hl, List.length_drop, pres_len] at h40
    rw [(add_ok ho.1 ho.2).1, hl, ← grown_all hk.1]
    exact grown_good h ho.1.2.2 (Nat.le_of_eq ho.1.1) hk h40 (by have := hk.1; omega)
  · unfold addQ; rw [if_neg ho]; exact h
theorem Whole.add (h : Good n Q) (hw : Whole n Q) : Whole n (addQ n Q p) := by
  by_cases ho : addOk n Q p
  · obtain ⟨k, hk⟩ := known_ex Q p
    have hl := h.lack_drop hk.1 hk.2.1 hk.2.2
    rw [(add_ok ho.1 ho.2).1, hl]
    have hpn : p.length = n := ho.1.1
    intro i q hi hq
    by_cases hlt : i < Q.length
    · rw [List.getElem?_append_left hlt] at hi
      obtain ⟨q', h1, h2⟩ := hw i q hi hq
      have : i + 1 < Q.length := (List.getElem?_eq_some_iff.1 h1).1
      exact ⟨q', by rw [List.getElem?_append_left this]; exact h1, h2⟩
    · have hil := (List.getElem?_eq_some_iff.1 hi).1
      simp only [List.length_append, List.length_drop, pres_len] at hil
      rw [List.getElem?_append_right (by omega), List.getElem?_drop, pres_get (by omega)] at hi
      have e := Option.some.inj hi
      have hlen : q.length = k + (i - Q.length) + 1 := by rw [← e]; simp; omega
      refine ⟨p.take (k + (i - Q.length) + 2), ?_, ?_⟩
      · rw [List.getElem?_append_right (by omega), List.getElem?_drop, show k + (i + 1 - Q.length) = k + (i - Q.length) + 1 by omega]
        exact pres_get (by omega)
      · rw [← e]
        exact drop_take (by omega)
  · unfold addQ; rw [if_neg ho]; exact hw
/-- Once it is there it comes no second time. -/
theorem add_there (h : Good n Q) (ho : addOk n Q p) : p ∈ addQ n Q p := by
  obtain ⟨k, hk⟩ := known_ex Q p
  have hl := h.lack_drop hk.1 hk.2.1 hk.2.2
  rw [(add_ok ho.1 ho.2).1, hl, ← grown_all hk.1]
  have hn := h.lv.1
  have hp : p.length = n := ho.1.1
  have := grown_mem (Q := Q) (p := p) (k := k) (j := p.length - k) (i := p.length - 1) hk (by have := hk.1; omega) (by omega)
  rwa [Nat.sub_add_cancel (by omega), List.take_length] at this
end

/-- The code that must come next has this one above; 0: any may. -/
def dueP (n : Nat) (Q : List Pth) : Nat := if (pth Q Q.length).length < n then Q.length else 0
/-- May the path of code a, with one name more, come next? -/
def mayC (n : Nat) (Q : List Pth) (a : Nat) (s : Txt) : Prop := nameP s ∧ (pth Q a).length < n ∧ pth Q a ++ [s] ∉ Q ∧ (dueP n Q = 0 ∨ dueP n Q = a)
instance (n : Nat) (Q : List Pth) (a : Nat) (s : Txt) : Decidable (mayC n Q a s) := by unfold mayC; exact inferInstance
theorem due_le (n : Nat) (Q : List Pth) : dueP n Q ≤ Q.length := by unfold dueP; split <;> simp
theorem Good.mayC_come {n : Nat} {Q : List Pth} {a : Nat} {s : Txt} (h : Good n Q) (ha : a ≤ Q.length) (hm : mayC n Q a s) (hs : Q.length < 40) : Good n (Q ++ [pth Q a ++ [s]]) := by
  refine h.come ⟨by simp, by have := hm.2.1; simp; omega⟩ (fun x hx => ?_) hm.2.2.1 ?_ hs
  · rcases List.mem_append.1 hx with hx | hx
    · rcases Nat.eq_zero_or_pos a with h0 | h0
      · subst h0; simp [pth] at hx
      · exact h.nam _ (pth_mem h0 ha) x hx
    · rw [List.mem_singleton.1 hx]; exact hm.1
  · rw [List.dropLast_concat]
    rcases Nat.eq_zero_or_pos a with h0 | h0
    · left; subst h0; rfl
    · right; exact pth_mem h0 ha
theorem Good.mayC_ents {n : Nat} {Q : List Pth} {a : Nat} {s : Txt} (h : Good n Q) (ha : a ≤ Q.length) : ents (Q ++ [pth Q a ++ [s]]) = ents Q ++ [(a, s)] := by
  rw [h.ents_come (by simp) (by
    rw [List.dropLast_concat]
    rcases Nat.eq_zero_or_pos a with h0 | h0
    · left; subst h0; rfl
    · right; exact pth_mem h0 ha), List.dropLast_concat, last_of, h.fnd_pth ha]
end Go.Proofs.Ytccdjjpkcahgfaa
