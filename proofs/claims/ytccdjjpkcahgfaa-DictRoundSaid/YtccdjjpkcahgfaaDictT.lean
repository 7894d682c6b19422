/- Layer 7: rows of rows of texts of the call's own. -/
import Derived.Test.YtccdjjpkcahgfaaNamesU
import Derived.Test.YtccdjjpkcahgfaaRowNe
import Derived.Test.YtccdjjpkcahgfaaDictO
namespace Go.Proofs.Ytccdjjpkcahgfaa
open Go.RowKit

/-- A row of the call's own, of rows of texts of the call's own. -/
def OwnTs (w : World) (base : Nat) (v : Value) (Q : List Pth) : Prop :=
  ∃ vs : List Value, w.ownsRow base 30 1 v Q.length vs ∧ ∀ (i : Nat) (q : Pth), Q[i]? = some q → ∃ x, vs[i]? = some x ∧ OwnT w base x q
/-- What reads as rows of texts. -/
structure HasTs (w : World) (A : Option Addr) (n c : Nat) (Q : List Pth) : Prop where
  len : Q.length = n
  cap : n ≤ c
  fit : c ≤ maxLen
  void : A = none → c = 0
  has : ∀ (i : Nat) (q : Pth), Q[i]? = some q → ∃ b o A' n' c', A = some ⟨b, o, none⟩ ∧ b < w.heap.size ∧ w.cell? ⟨b, o + i, none⟩ = some (.slice A' n' c') ∧ HasT w w.heap.size A' n' c' q
section
variable {w w' : World} {base : Nat} {v : Value} {Q : List Pth}
theorem OwnTs.nil_ (w : World) (base : Nat) : OwnTs w base (.slice none 0 0) [] := ⟨[], World.ownsRow_nil w base _ 1, fun i q h => by simp at h⟩
theorem OwnTs.low {base' : Nat} (h : OwnTs w base v Q) (hb : base' ≤ base) : OwnTs w base' v Q := by
  obtain ⟨vs, h1, h2⟩ := h
  exact ⟨vs, row_low h1 hb, fun i q hi => by obtain ⟨x, e, hx⟩ := h2 i q hi; exact ⟨x, e, hx.low hb⟩⟩
theorem OwnTs.lt (h : OwnTs w base v Q) : ∀ k, v.ownBlock = some k → base ≤ k ∧ k < w.heap.size := by
  obtain ⟨vs, h1, _⟩ := h
  exact World.ownsRow.lt h1
theorem OwnTs.form (h : OwnTs w base v Q) : ∃ A c, v = .slice A Q.length c ∧ HasTs w A Q.length c Q := by
  obtain ⟨vs, h1, h2⟩ := h
  rcases h1.2 with ⟨rfl, h0⟩ | ⟨g, cap, cur, rfl, hb, hg, hnc, hcm, hcs, ht⟩
  · have hl : Q = [] := List.eq_nil_of_length_eq_zero h0
    subst hl
    exact ⟨none, 0, rfl, rfl, Nat.le_refl _, Nat.zero_le _, fun _ => rfl, fun i q h => by simp at h⟩
  · refine ⟨_, cap, rfl, rfl, hnc, hcm, (fun h => by cases h), fun i q hi => ?_⟩
    obtain ⟨x, e, hx⟩ := h2 i q hi
    obtain ⟨A', c', rfl, hT, _⟩ := hx.form
    have hc := World.ownsRow.cells h1 (g := g) rfl i _ e
    rw [add_flat] at hc
    exact ⟨g, 0, A', _, c', rfl, (Array.getElem?_eq_some_iff.1 hg).1, hc, hT⟩
/-- Blocks that hold neither rows of texts nor rows of such. -/
def NoT (w : World) (S : Nat → Prop) : Prop := ∀ k, S k → ∀ cs e fr, w.heap[k]? = some (.cells cs e fr) → e ≠ 30 ∧ e ≠ 9
theorem row_not {B e size m : Nat} {xs : List Value} (h : w.ownsRow B e size v m xs) {S : Nat → Prop} (hS : ∀ k, S k → ∀ cs e' fr, w.heap[k]? = some (.cells cs e' fr) → e' ≠ e) : ∀ k, v.ownBlock = some k → ¬ S k := by
  intro k hk hs
  rcases h.2 with ⟨rfl, _⟩ | ⟨g, cap, cur, rfl, _, hg, _⟩
  · cases hk
  · simp only [Value.ownBlock, Option.some.injEq] at hk
    subst hk
    exact hS _ hs _ _ _ hg rfl
theorem OwnT.chg {S : Nat → Prop} {x : Value} {q : Pth} (h : OwnT w base x q) (hc : Chg S w w') (hS : NoT w S) : OwnT w' base x q :=
  hc.row h (row_not h fun k hs cs e fr he => (hS k hs cs e fr he).2)
theorem OwnTs.chg {S : Nat → Prop} (h : OwnTs w base v Q) (hc : Chg S w w') (hS : NoT w S) : OwnTs w' base v Q := by
  obtain ⟨vs, h1, h2⟩ := h
  exact ⟨vs, hc.row h1 (row_not h1 fun k hs cs e fr he => (hS k hs cs e fr he).1), fun i q hi => by obtain ⟨x, e, hx⟩ := h2 i q hi; exact ⟨x, e, hx.chg hc hS⟩⟩
theorem NoT.none (w : World) : NoT w (fun _ => False) := fun _ h => h.elim
theorem OwnTs.below (h : OwnTs w base v Q) (hb : Below w.heap.size w w') : OwnTs w' base v Q := h.chg (S := fun _ => False) (Chg.of_below hb (Nat.le_refl _)) (NoT.none w)
theorem OwnTs.drewN (h : OwnTs w base v Q) (k : Nat) : OwnTs (w.drewN k) base v Q := h
theorem OwnTs.alloc (h : OwnTs w base v Q) (o : Obj) : OwnTs (w.alloc o) base v Q := h.below (below_a1 w o)
/-- Its own block is a row of rows: what it writes there changes no row of texts. -/
theorem OwnTs.kept_row (h : OwnTs w base v Q) {B : Nat} {x : Value} {q : Pth} (hx : OwnT w B x q) (hg : w.grownBy w' v.ownBlock) : OwnT w' B x q := by
  obtain ⟨vs, h1, _⟩ := h
  refine World.ownsRow.kept hx hg ?_
  rcases row_ne hx h1 (by decide) with h2 | h2
  · exact .inl h2
  · exact .inr h2
end
theorem info_texts : (Try.prog.info? 30).map (fun i => (i.zero, i.size, i.bytes)) = some (some (.slice none 0 0), 1, 24) := by kernel_rfl
/-- Rows more: what append leaves. -/
theorem OwnTs.more {w w' : World} {base : Nat} {v v' : Value} {Q P : List Pth} {vs us : List Value} (h1 : w.ownsRow base 30 1 v Q.length vs) (h2 : ∀ (i : Nat) (q : Pth), Q[i]? = some q → ∃ x, vs[i]? = some x ∧ OwnT w base x q)
    (_hus : us.length = P.length) (h3 : ∀ (i : Nat) (q : Pth), P[i]? = some q → ∃ x, us[i]? = some x ∧ OwnT w base x q)
    (hown : w'.ownsRow base 30 1 v' (Q.length + P.length) (vs ++ us)) (hg : w.grownBy w' v.ownBlock) : OwnTs w' base v' (Q ++ P) := by
  have hl : vs.length = Q.length := by have := h1.1; omega
  have keep : ∀ (x : Value) (q : Pth), OwnT w base x q → OwnT w' base x q := fun x q hx => World.ownsRow.kept hx hg (row_ne hx h1 (by decide))
  refine ⟨vs ++ us, by rw [List.length_append]; exact hown, fun i q hi => ?_⟩
  by_cases hlt : i < Q.length
  · rw [List.getElem?_append_left hlt] at hi
    obtain ⟨x, e, hx⟩ := h2 i q hi
    exact ⟨x, by rw [List.getElem?_append_left (by omega)]; exact e, keep x q hx⟩
  · rw [List.getElem?_append_right (by omega)] at hi
    obtain ⟨x, e, hx⟩ := h3 _ q hi
    exact ⟨x, by rw [List.getElem?_append_right (by omega), hl]; exact e, keep x q hx⟩
section
variable {w : World} {ops : Array Oper} {rest : List Oper} {o : Oper} {a : Act} {K : Exit → Act → World → Prop}
/-- One row more. -/
theorem wpList_appR (hgd : o.guard = none) (s x : Operand)
    (ho : o.op = .call { callee := .builtin .append, args := #[s, x], argTypes := #[22, 22] })
    (base : Nat) (v : Value) (Q : List Pth) (hs : a.eval s = v) (hown : OwnTs w base v Q) (g : Nat) (hx : a.eval x = .slice (some ⟨g, 0, none⟩) 1 1) (y : Value) (q : Pth) (hy : w.cell? ⟨g, 0, none⟩ = some y) (hyo : OwnT w base y q) (hl : Q.length ≤ 1000000) (hbase : base ≤ w.heap.size)
    (h : ∀ v' w', OwnTs w' base v' (Q ++ [q]) → Grew w v w' v' → wpList Try.prog ops K rest (a.put o.dst v') w') : wpList Try.prog ops K (o :: rest) a w := by
  obtain ⟨i, hi, hz0, hz1, hz2⟩ := info_parts info_texts
  obtain ⟨vs, h1, h2⟩ := hown
  have hone : y.oneCell' = true := by obtain ⟨A', c', rfl, _⟩ := hyo.form; rfl
  refine wpList_append_own_at w hgd s x 22 ho base 30 i _ 1 24 Try.underlying22 hi hz0 hz1 hz2 rfl (by decide) v Q.length vs hs h1 ⟨g, 0, none⟩ 1 1 [y] hx rfl (fun j u hj => ?_) (fun u hu => ?_) (by unfold maxLen; omega) (by omega) hbase ?_
  · match j, hj with
    | 0, hj => simp at hj; subst hj; rw [add_flat]; exact hy
    | (j + 1), hj => simp at hj
  · simp at hu; subst hu; exact hone
  · intro v' w' e1 e2 _ e4
    refine h v' w' (OwnTs.more h1 h2 (us := [y]) (P := [q]) rfl (fun i q' hi => ?_) e1 e2) ⟨e2, fun k hk => ?_⟩
    · match i, hi with
      | 0, hi => simp at hi; subst hi; exact ⟨y, rfl, hyo⟩
      | (i + 1), hi => simp at hi
    · rcases e4 with e4 | e4
      · exact .inl (e4 ▸ hk)
      · rw [e4] at hk
        injection hk with hk
        exact .inr (Nat.le_of_eq hk)
/-- Any rows more. -/
theorem wpList_appRs (hgd : o.guard = none) (s x : Operand)
    (ho : o.op = .call { callee := .builtin .append, args := #[s, x], argTypes := #[22, 22] })
    (base : Nat) (v : Value) (Q : List Pth) (hs : a.eval s = v) (hown : OwnTs w base v Q) (u : Value) (P : List Pth) (hx : a.eval x = u) (hu : OwnTs w base u P) (hl : Q.length + P.length ≤ 1000000) (hbase : base ≤ w.heap.size)
    (h : ∀ v' w', OwnTs w' base v' (Q ++ P) → Grew w v w' v' → wpList Try.prog ops K rest (a.put o.dst v') w') : wpList Try.prog ops K (o :: rest) a w := by
  obtain ⟨i, hi, hz0, hz1, hz2⟩ := info_parts info_texts
  have hown0 := hown
  obtain ⟨vs, h1, h2⟩ := hown
  obtain ⟨us, u1, u2⟩ := hu
  have hul : us.length = P.length := by have := u1.1; omega
  rcases u1.2 with ⟨rfl, h0⟩ | ⟨g, cap, cur, rfl, hb, hg, hnc, hcm, hcs, ht⟩
  · obtain rfl : P = [] := List.eq_nil_of_length_eq_zero h0
    refine wpList_plain hgd fun K' hK => ?_
    have hrun := run_append_owned_none (P := Try.prog) (w := w) base 22 o.type 30 i 1 Try.underlying22 hi v Q.length vs h1
    unfold Oper.wp execOp
    simp only [ho, resolve, invoke, builtin, Sem.run_bind, Sem.run_pure, Result.andThen_ok, List.map_toArray, List.map_cons, List.map_nil, hs, hx, hrun]
    exact hK _ _ (h v w (by rw [List.append_nil]; exact hown0) (Grew.refl w v))
  · have hcells := World.ownsRow.cells u1 (g := g) rfl
    have hones : ∀ x ∈ us, x.oneCell' = true := fun x hx => by
      obtain ⟨j, hj⟩ := List.getElem?_of_mem hx
      have hjl : j < P.length := by have := (List.getElem?_eq_some_iff.1 hj).1; omega
      obtain ⟨x', e, hx'⟩ := u2 j _ (List.getElem?_eq_getElem hjl)
      rw [hj] at e
      obtain rfl := Option.some.inj e
      obtain ⟨A', c', rfl, _⟩ := hx'.form
      rfl
    refine wpList_append_own_at w hgd s x 22 ho base 30 i _ 1 24 Try.underlying22 hi hz0 hz1 hz2 rfl (by decide) v Q.length vs hs h1 ⟨g, 0, none⟩ P.length cap us hx (by omega) hcells hones (by unfold maxLen; omega) (by omega) hbase ?_
    intro v' w' e1 e2 _ e4
    refine h v' w' (OwnTs.more h1 h2 hul u2 e1 e2) ⟨e2, fun k hk => ?_⟩
    rcases e4 with e4 | e4
    · exact .inl (e4 ▸ hk)
    · rw [e4] at hk
      injection hk with hk
      exact .inr (Nat.le_of_eq hk)
end
end Go.Proofs.Ytccdjjpkcahgfaa
