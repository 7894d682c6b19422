/- Rows of rows of ints: one row more. -/
import Derived.Test.YtbiogldapodhmaaRows
import Derived.Test.YtbiogldapodhmaaLists
import Derived.Test.YtbiogldapodhmaaIntsB
namespace Go.Proofs.Ytbiogldapodhmaa
open Go.RowKit

theorem info_ints : (Try.prog.info? 30).map (fun i => (i.zero, i.size, i.bytes)) = some (some (.slice none 0 0), 1, 24) := by kernel_rfl
theorem one_slice (A : Option Addr) (n c : Nat) : ∀ u ∈ [Value.slice A n c], u.oneCell' = true := by
  intro u hu
  simp at hu
  subst hu
  rfl
/-- What lies below was so before. -/
theorem HasI.back {w w' : World} {C n c : Nat} {A : Option Addr} {l : List Int} (h : HasI w' C A n c l) (hb : Below C w w') : HasI w C A n c l :=
  h.keep fun b o hp => (hb.cell (p := ⟨b, o, none⟩) hp).symm
theorem takeL_snoc {l : List (List Int)} {k : Nat} (h : k < l.length) {y : List Int} (hy : l.getD k [] = y) : l.take k ++ [y] = l.take (k + 1) := by
  rw [List.take_add_one, ← hy, List.getD_eq_getElem?_getD, List.getElem?_eq_getElem h]
  rfl
theorem cell_litS (w : World) (y : Value) (t : TypeId) (g : Nat) (hg : g = w.heap.size) : (w.alloc (.cells #[y] t)).cell? ⟨g, 0, none⟩ = some y := by
  subst hg
  rw [cell_new]; rfl
/-- One row more. -/
theorem wpList_appL {w : World} {ops : Array Oper} {rest : List Oper} {o : Oper} {a : Act} {Q : Exit → Act → World → Prop} (hgd : o.guard = none) (s x : Operand)
    (ho : o.op = .call { callee := .builtin .append, args := #[s, x], argTypes := #[24, 24] })
    (base C : Nat) (v : Value) (L : List (List Int)) (hs : a.eval s = v) (hown : OwnL w base C 30 v L) (g : Nat) (hx : a.eval x = .slice (some ⟨g, 0, none⟩) 1 1) (A : Option Addr) (n c : Nat) (l : List Int)
    (hy : w.cell? ⟨g, 0, none⟩ = some (.slice A n c)) (hl : HasI w C A n c l) (hlen : L.length ≤ 1000000) (hbase : base ≤ w.heap.size) (hC : C ≤ base)
    (h : ∀ v' w', OwnL w' base C 30 v' (L ++ [l]) → Grew w v w' v' → (∀ k, v.ownBlock = some k → base ≤ k) → wpList Try.prog ops Q rest (a.put o.dst v') w') : wpList Try.prog ops Q (o :: rest) a w := by
  obtain ⟨i, hi, hz0, hz1, hz2⟩ := info_parts info_ints
  obtain ⟨xs, hr, hxs⟩ := hown
  have hlo := fun k e => (hr.lt k e).1
  refine wpList_append_own_at w hgd s x 24 ho base 30 i _ 1 24 Try.underlying24 hi hz0 hz1 hz2 rfl (by decide) v L.length xs hs hr ⟨g, 0, none⟩ 1 1 [.slice A n c] hx rfl (fun j u hj => ?_) (one_slice A n c) (by unfold maxLen; omega) (by omega) hbase ?_
  · match j, hj with
    | 0, hj => simp at hj; subst hj; rw [add_flat]; exact hy
    | (j + 1), hj => simp at hj
  · intro v' w' h1 h2 _ h4
    have hk : ∀ b o, b < C → w'.cell? ⟨b, o, none⟩ = w.cell? ⟨b, o, none⟩ := fun b o hb => World.cell?_of_block (h2.block b (by omega) (fun e => by have := hlo _ e.symm; omega))
    refine h v' w' (OwnL.snoc hxs (by rw [hr.1, Nat.mul_one]) hl h1 hk) ⟨h2, fun k hk => ?_⟩ hlo
    rcases h4 with h4 | h4
    · exact .inl (h4 ▸ hk)
    · rw [h4] at hk
      injection hk with hk
      exact .inr (Nat.le_of_eq hk)
/-- Another row that grows leaves it. -/
theorem OwnL.kept_ {w w' : World} {base C : Nat} {u v v' : Value} {M : List (List Int)} (h : OwnL w base C 30 u M) (hG : Grew w v w' v') (hne : u.ownBlock = none ∨ u.ownBlock ≠ v.ownBlock) (hlo : ∀ k, v.ownBlock = some k → base ≤ k) (hb : base ≤ w.heap.size) (hC : C ≤ base) : OwnL w' base C 30 u M := by
  obtain ⟨xs, hr, hxs⟩ := h
  refine ⟨xs, hr.kept hG.1 hne, fun i l hi => ?_⟩
  obtain ⟨A, n, c, e, hh⟩ := hxs i l hi
  exact ⟨A, n, c, e, hh.keep fun b o hb => World.cell?_of_block (hG.1.block b (by omega) (fun e => by have := hlo _ e.symm; omega))⟩
theorem OwnL.alloc_ {w : World} {base C : Nat} {T : TypeId} {v : Value} {L : List (List Int)} (h : OwnL w base C T v L) (o : Obj) (hC : C ≤ w.heap.size) : OwnL (w.alloc o) base C T v L := h.below (below_a1 w o) (Nat.le_refl _) hC
theorem OwnL.ltB {w : World} {base C : Nat} {T : TypeId} {v : Value} {L : List (List Int)} (h : OwnL w base C T v L) : ∀ k, v.ownBlock = some k → base ≤ k ∧ k < w.heap.size := by
  obtain ⟨xs, hr, _⟩ := h
  exact hr.lt
theorem OwnL.shape {w : World} {base C : Nat} {T : TypeId} {v : Value} {L : List (List Int)} (h : OwnL w base C T v L) : ∃ A n c, v = .slice A n c := by
  obtain ⟨xs, hr, _⟩ := h
  rcases hr.2 with ⟨rfl, _⟩ | ⟨g, cap, cur, rfl, _⟩
  · exact ⟨_, _, _, rfl⟩
  · exact ⟨_, _, _, rfl⟩
/-- One row more, inside a region that draws its order. -/
theorem step_appL {w : World} {ops : Array Oper} {o : Oper} {a : Act} {Q : Exit → Act → World → Prop} {K : Act → World → Prop} {F : Prop} (hgd : o.guard = none) (s x : Operand)
    (ho : o.op = .call { callee := .builtin .append, args := #[s, x], argTypes := #[24, 24] })
    (base C : Nat) (v : Value) (L : List (List Int)) (hs : a.eval s = v) (hown : OwnL w base C 30 v L) (g : Nat) (hx : a.eval x = .slice (some ⟨g, 0, none⟩) 1 1) (A : Option Addr) (n c : Nat) (l : List Int)
    (hy : w.cell? ⟨g, 0, none⟩ = some (.slice A n c)) (hl : HasI w C A n c l) (hlen : L.length ≤ 1000000) (hbase : base ≤ w.heap.size) (hC : C ≤ base)
    (h : ∀ v' w', OwnL w' base C 30 v' (L ++ [l]) → Grew w v w' v' → K (a.put o.dst v') w') :
    if Region.wanted o (yielded ops a.tmps) = true then Oper.wp Try.prog o a w K Q else F := by
  have hw : Region.wanted o (yielded ops a.tmps) = true := by simp [Region.wanted, hgd]
  rw [if_pos hw]
  obtain ⟨i, hi, hz0, hz1, hz2⟩ := info_parts info_ints
  obtain ⟨xs, hr, hxs⟩ := hown
  have hlo := fun k e => (hr.lt k e).1
  obtain ⟨v', w', hrun, h2, h3, _, h5⟩ := run_append_own_at (P := Try.prog) w base 24 o.type 30 i _ 1 24 Try.underlying24 hi hz0 hz1 hz2 rfl (by decide) v L.length xs hr ⟨g, 0, none⟩ 1 1 [.slice A n c] rfl (fun j u hj => by
    match j, hj with
    | 0, hj => simp at hj; subst hj; rw [add_flat]; exact hy
    | (j + 1), hj => simp at hj) (one_slice A n c) (by unfold maxLen; omega) (by omega) hbase
  unfold Oper.wp execOp
  simp only [ho, resolve, invoke, builtin, Sem.run_bind, Sem.run_pure, Result.andThen_ok, List.map_toArray, List.map_cons, List.map_nil, hs, hx, hrun]
  have hk : ∀ b o, b < C → w'.cell? ⟨b, o, none⟩ = w.cell? ⟨b, o, none⟩ := fun b o hb => World.cell?_of_block (h3.block b (by omega) (fun e => by have := hlo _ e.symm; omega))
  refine h v' w' (OwnL.snoc hxs (by rw [hr.1, Nat.mul_one]) hl h2 hk) ⟨h3, fun q hq => ?_⟩
  rcases h5 with h5 | h5
  · exact .inl (h5 ▸ hq)
  · rw [h5] at hq
    injection hq with hq
    exact .inr (Nat.le_of_eq hq)
end Go.Proofs.Ytbiogldapodhmaa
