/- Layer 7, plain: what Put puts is read again. -/
import Derived.Test.YtccdjjpkcahgfaaDictB
import Derived.Test.YtccdjjpkcahgfaaDictW
namespace Go.Proofs.Ytccdjjpkcahgfaa

section
variable {n : Nat} {Q : List Pth}
theorem Good.up_ (h : Good n Q) {k : Nat} {q : Pth} (hq : Q[k]? = some q) : fnd Q q.dropLast ≤ k ∧ pth (Q.take k) (fnd Q q.dropLast) = q.dropLast := by
  rcases h.up k q hq with e | e
  · rw [e, h.fnd_nil]
    exact ⟨Nat.zero_le _, rfl⟩
  · have h1 : fnd (Q.take k ++ Q.drop k) q.dropLast = fnd (Q.take k) q.dropLast := fnd_left e
    rw [List.take_append_drop] at h1
    rw [h1]
    exact ⟨Nat.le_trans fnd_le (List.length_take_le _ _), pth_fnd e⟩
theorem due_take (hg : Good n Q) (hw : Whole n Q) {k : Nat} {q : Pth} (hq : Q[k]? = some q) : dueP n (Q.take k) = 0 ∨ dueP n (Q.take k) = fnd Q q.dropLast := by
  have hkl := (List.getElem?_eq_some_iff.1 hq).1
  have hlen : (Q.take k).length = k := by simp; omega
  unfold dueP
  split
  · rename_i h1
    rcases k with _ | j
    · left; simp
    · right
      rw [hlen] at h1 ⊢
      have h2 : Q[j]? = some (pth (Q.take (j + 1)) (j + 1)) := by
        have := pth_some (Q := Q.take (j + 1)) (c := j + 1) (by omega) (by omega)
        rw [Nat.add_sub_cancel, List.getElem?_take, if_pos (by omega)] at this
        exact this
      obtain ⟨q', h3, h4⟩ := hw j _ h2 h1
      rw [hq] at h3
      obtain rfl := Option.some.inj h3
      rw [h4, fnd_nodup hg.nodup h2]
  · left; rfl
theorem due_end (hw : Whole n Q) : dueP n Q = 0 := by
  unfold dueP
  split
  · rename_i h1
    rcases Nat.eq_zero_or_pos Q.length with h0 | h0
    · exact h0
    · obtain ⟨q', h3, _⟩ := hw _ _ (pth_some h0 (Nat.le_refl _)) h1
      have := (List.getElem?_eq_some_iff.1 h3).1
      omega
  · rfl
theorem lk_put {F R : List UInt8} {m : Nat} {hi : Int} (hm : (m : Int) ≤ hi) (hb : m ≤ 1000) : lk (F ++ (enc (zig (m : Int)) ++ R)) F.length 0 0 hi = ((m : Int), (enc (zig (m : Int))).length, 0) := by
  have hd : (F ++ (enc (zig (m : Int)) ++ R)).drop F.length = enc (zig (m : Int)) ++ R := List.drop_left
  obtain ⟨g1, g2, g3⟩ := g_put (n := (m : Int)) (by omega) (by omega) R
  rw [lk_ok (by rw [hd]; exact g3) (by rw [hd, g1]; omega), hd, g1, g2]
theorem tx_put {F R : List UInt8} {s : Txt} (hs : s.length ≤ 12) : tx (F ++ (enc (zig (s.length : Int)) ++ (s ++ R))) F.length 0 12 = (s, F.length + (enc (zig (s.length : Int))).length + s.length, 0) := by
  have h1 := lk_put (F := F) (R := s ++ R) (m := s.length) (hi := 12) (by omega) (by omega)
  have hd : (F ++ (enc (zig (s.length : Int)) ++ (s ++ R))).drop (F.length + (enc (zig (s.length : Int))).length) = s ++ R := by
    rw [← List.append_assoc, ← List.length_append, List.drop_left]
  rw [tx_ok h1 (by simp), hd, Int.toNat_natCast, List.take_left]
theorem rdN_put (hg : Good n Q) (hw : Whole n Q) : ∀ {k : Nat}, k ≤ Q.length → rdN n (encD Q) ([], (enc (zig (Q.length : Int))).length, 0) k = (Q.take k, (enc (zig (Q.length : Int)) ++ ((ents Q).take k).flatMap encE).length, 0) := by
  intro k
  induction k with
  | zero => intro _; simp [rdN]
  | succ k ih =>
    intro hk
    obtain ⟨q, hq⟩ : ∃ q, Q[k]? = some q := ⟨_, List.getElem?_eq_getElem (by omega)⟩
    have hqm := List.mem_of_getElem? hq
    have hne : q ≠ [] := fun e => by have := (hg.one q hqm).1; rw [e] at this; simp at this
    have hent := ents_get hq
    obtain ⟨hak, hpt⟩ := hg.up_ hq
    have hdue := due_take hg hw hq
    obtain ⟨ha40, hs12⟩ := hg.ent_bd hent
    have hsl := split_last hne
    have hnm : nameP (q.getLastD []) := hg.nam q hqm _ (by
      have h1 : q.getLastD [] ∈ q.dropLast ++ [q.getLastD []] := by simp
      rwa [hsl] at h1)
    generalize fnd Q q.dropLast = a at *
    generalize q.getLastD [] = s at *
    have hft := flat_take encE hent
    have hsplit : encD Q = enc (zig (Q.length : Int)) ++ ((ents Q).take k).flatMap encE ++ (enc (zig (a : Int)) ++ (enc (zig (s.length : Int)) ++ (s ++ ((ents Q).drop (k + 1)).flatMap encE))) := by
      have h1 : (ents Q).flatMap encE = ((ents Q).take (k + 1)).flatMap encE ++ ((ents Q).drop (k + 1)).flatMap encE := by
        rw [← List.flatMap_append, List.take_append_drop]
      unfold encD
      rw [h1, hft]
      simp only [encE, List.append_assoc]
    have hlen : (Q.take k).length = k := by simp; omega
    show rdS n (encD Q) (rdN n (encD Q) _ k) = _
    rw [ih (by omega)]
    have h1 : lk (encD Q) (enc (zig (Q.length : Int)) ++ ((ents Q).take k).flatMap encE).length 0 0 (Q.take k).length = ((a : Int), (enc (zig (a : Int))).length, 0) := by
      rw [hsplit]
      exact lk_put (by rw [hlen]; omega) (by omega)
    have h2 : tx (encD Q) ((enc (zig (Q.length : Int)) ++ ((ents Q).take k).flatMap encE).length + (enc (zig (a : Int))).length) 0 12 = (s, (enc (zig (Q.length : Int)) ++ ((ents Q).take k).flatMap encE).length + (enc (zig (a : Int))).length + (enc (zig (s.length : Int))).length + s.length, 0) := by
      rw [hsplit, ← List.length_append, ← List.append_assoc _ (enc (zig (a : Int))) _]
      exact tx_put hs12
    have hmay : mayC n (Q.take k) a s := by
      refine ⟨hnm, ?_, ?_, hdue⟩
      · rw [hpt, List.length_dropLast]
        have := hg.one q hqm
        omega
      · rw [hpt, hsl]
        intro hm
        obtain ⟨j, hj⟩ := List.getElem?_of_mem hm
        rw [List.getElem?_take] at hj
        split at hj
        · have e1 := fnd_nodup hg.nodup hj
          have e2 := fnd_nodup hg.nodup hq
          omega
        · cases hj
    rw [rdS_is h1 h2, if_pos hmay, hpt, hsl, List.take_add_one, hq, hft]
    refine Prod.ext rfl (Prod.ext ?_ rfl)
    simp only [encE, List.length_append]
    omega
theorem encD_len (hg : Good n Q) : 1 ≤ (encD Q).length ∧ (encD Q).length ≤ 2000 := by
  have h1 : ∀ {k : Nat}, k ≤ Q.length → (((ents Q).take k).flatMap encE).length ≤ 32 * k := by
    intro k
    induction k with
    | zero => intro _; simp
    | succ k ih =>
      intro hk
      obtain ⟨a, s, hent⟩ : ∃ a s, (ents Q)[k]? = some (a, s) := ⟨_, _, ents_get (List.getElem?_eq_getElem (show k < Q.length by omega))⟩
      obtain ⟨ha40, hs12⟩ := hg.ent_bd hent
      have h2 := ih (by omega)
      have h3 := encE_len (e := (a, s)) (by omega) hs12
      rw [flat_take encE hent, List.length_append]
      omega
  have h2 := h1 (Nat.le_refl Q.length)
  rw [List.take_of_length_le (by rw [ents_len]; exact Nat.le_refl _)] at h2
  have h3 := hg.size
  have h4 := enc_pos (zig (Q.length : Int))
  have h5 := enc_ten (zig_lt (n := (Q.length : Int)) (by omega) (by omega))
  unfold encD
  rw [List.length_append]
  omega
/-- What is put is read again. -/
theorem rdD_put (hg : Good n Q) (hw : Whole n Q) : rdD n (encD Q) 0 0 = (Q, (encD Q).length, 0) := by
  have h1 : rdI (encD Q) 0 0 = ((Q.length : Int), (enc (zig (Q.length : Int))).length, 0) := by
    have := lk_put (F := []) (R := (ents Q).flatMap encE) (m := Q.length) (hi := 40) (by have := hg.size; omega) (by have := hg.size; omega)
    exact this
  have h2 := rdN_put hg hw (Nat.le_refl Q.length)
  rw [List.take_of_length_le (Nat.le_refl _), List.take_of_length_le (by rw [ents_len]; exact Nat.le_refl _)] at h2
  rw [rdD_is h1 (by rw [Nat.zero_add]; exact h2) (due_end hw)]
  rfl
end
end Go.Proofs.Ytccdjjpkcahgfaa
