/- Rows of ints of the call's own: one int more, cells, a row turned round. -/
import Derived.Test.YtccdjjpkcahgfaaRows
import Derived.Test.YtccdjjpkcahgfaaInts
import Derived.Test.YtccdjjpkcahgfaaRowNe
import Derived.Test.YtccdjjpkcahgfaaLay
import Derived.Maps.AppendAt
import Derived.Laws.OwnMore
namespace Go.Proofs.Ytccdjjpkcahgfaa
open Go.RowKit

/-- One int more. -/
theorem wpList_appI {w : World} {ops : Array Oper} {rest : List Oper} {o : Oper} {a : Act} {Q : Exit → Act → World → Prop} (hgd : o.guard = none) (s x : Operand)
    (ho : o.op = .call { callee := .builtin .append, args := #[s, x], argTypes := #[51, 51] })
    (base : Nat) (v : Value) (l : List Int) (hs : a.eval s = v) (hown : OwnI w base v l) (g : Nat) (hx : a.eval x = .slice (some ⟨g, 0, none⟩) 1 1) (y : Int) (hy : w.cell? ⟨g, 0, none⟩ = some (.int .i64 y)) (hl : l.length ≤ 1000000) (hbase : base ≤ w.heap.size)
    (h : ∀ v' w', OwnI w' base v' (l ++ [y]) → Grew w v w' v' → wpList Try.prog ops Q rest (a.put o.dst v') w') : wpList Try.prog ops Q (o :: rest) a w := by
  obtain ⟨i, hi, hz0, hz1, hz2⟩ := info_parts info_int
  refine wpList_append_own_at w hgd s x 51 ho base 3 i _ 1 8 Try.underlying51 hi hz0 hz1 hz2 rfl (by decide) v l.length (l.map i64v) hs hown ⟨g, 0, none⟩ 1 1 [.int .i64 y] hx rfl (fun j u hj => ?_) (fun u hu => ?_) (by unfold maxLen; omega) (by omega) hbase ?_
  · match j, hj with
    | 0, hj => simp at hj; subst hj; rw [add_flat]; exact hy
    | (j + 1), hj => simp at hj
  · simp at hu; subst hu; rfl
  · intro v' w' h1 h2 _ h4
    refine h v' w' (by unfold OwnI; simpa [i64v] using h1) ⟨h2, fun k hk => ?_⟩
    rcases h4 with h4 | h4
    · exact .inl (h4 ▸ hk)
    · rw [h4] at hk
      injection hk with hk
      exact .inr (Nat.le_of_eq hk)
theorem cell_lit (w : World) (y : Int) (t : TypeId) (g : Nat) (hg : g = w.heap.size) : (w.alloc (.cells #[.int .i64 y] t)).cell? ⟨g, 0, none⟩ = some (.int .i64 y) := by
  subst hg
  rw [cell_new]; rfl
section
variable {w w' : World} {base : Nat} {v : Value} {l : List Int}
theorem OwnI.len_ {A : Option Addr} {n cap : Nat} (h : OwnI w base (.slice A n cap) l) : l.length = n := by
  obtain ⟨A', c', e', _⟩ := h.form
  injection e' with _ e2 _
  exact e2.symm
theorem OwnI.cell_ {g n cap : Nat} (h : OwnI w base (.slice (some ⟨g, 0, none⟩) n cap) l) (j : Nat) (hj : j < l.length) : w.cell? ⟨g, j, none⟩ = some (.int .i64 (l.getD j 0)) := by
  have hc := World.ownsRow.cells h (g := g) rfl j (i64v (l.getD j 0)) (by simp [List.getElem?_map, List.getD_eq_getElem?_getD, List.getElem?_eq_getElem hj])
  rwa [add_flat, Nat.zero_add] at hc
theorem OwnI.free {g n cap : Nat} (h : OwnI w base (.slice (some ⟨g, 0, none⟩) n cap) l) (j : Nat) : w.frozen? ⟨g, j, none⟩ = false := by
  have hn := h.len_
  unfold OwnI at h
  rw [hn] at h
  exact World.ownsRow.frozenAt h j
theorem OwnI.set_ {g n cap : Nat} (h : OwnI w base (.slice (some ⟨g, 0, none⟩) n cap) l) (j : Nat) (u : Int) : OwnI (w.setCell ⟨g, j, none⟩ (.int .i64 u)) base (.slice (some ⟨g, 0, none⟩) n cap) (l.set j u) := by
  have hn := h.len_
  unfold OwnI at h ⊢
  rw [List.length_set, List.map_set, hn]
  rw [hn] at h
  exact (World.ownsRow.stored h j (i64v u)).1
theorem OwnI.other (h : OwnI w base v l) {g j : Nat} (hg : v.ownBlock ≠ some g) (u : Value) : OwnI (w.setCell ⟨g, j, none⟩ u) base v l := ownsRow_setCell_other h (a := ⟨g, j, none⟩) hg u
theorem OwnI.has {A : Option Addr} {n c : Nat} (h : OwnI w base (.slice A n c) l) : HasI w w.heap.size A n c l := by
  obtain ⟨A', n', c', e', h', _⟩ := h.formN
  injection e' with e1 e2 e3
  subst e1 e2 e3
  exact h'
end

theorem OwnI.formP {w : World} {base : Nat} {v : Value} {l : List Int} (h : OwnI w base v l) (hl : 0 < l.length) :
    ∃ g c, v = .slice (some ⟨g, 0, none⟩) l.length c ∧ base ≤ g ∧ g < w.heap.size ∧ l.length ≤ c ∧ c ≤ 9223372036854775807 ∧ ∀ j, j < l.length → w.cell? ⟨g, j, none⟩ = some (.int .i64 (l.getD j 0)) := by
  rcases h.2 with ⟨_, h0⟩ | ⟨g, cap, cur, rfl, hb, hg, hnc, hcm, _⟩
  · omega
  · exact ⟨g, cap, rfl, hb, (Array.getElem?_eq_some_iff.1 hg).1, hnc, by unfold maxLen at hcm; omega, fun j hj => h.cell_ j hj⟩

theorem own_setCells {base g n cap : Nat} : ∀ (ys : List Int) (o : Nat) (l : List Int) (w : World), o + ys.length ≤ l.length → OwnI w base (.slice (some ⟨g, 0, none⟩) n cap) l →
    OwnI (w.setCells g o (ys.map (Value.int .i64))) base (.slice (some ⟨g, 0, none⟩) n cap) (l.take o ++ ys ++ l.drop (o + ys.length))
  | [], o, l, w, _, h => by simpa [World.setCells] using h
  | y :: r, o, l, w, hl, h => by
    have hl' : o + 1 + r.length ≤ (l.set o y).length := by simp at hl ⊢; omega
    have h2 := own_setCells r (o + 1) (l.set o y) (w.setCell ⟨g, o, none⟩ (.int .i64 y)) hl' (h.set_ o y)
    simp only [List.map_cons, World.setCells]
    have hol : o < l.length := by simp at hl; omega
    have e : (l.set o y).take (o + 1) ++ r ++ (l.set o y).drop (o + 1 + r.length) = l.take o ++ (y :: r) ++ l.drop (o + (y :: r).length) := by
      rw [List.drop_set_of_lt (by omega), List.take_succ_eq_append_getElem (by simpa using hol)]
      simp [Nat.add_assoc, Nat.add_comm 1, List.take_set_of_le]
    rwa [e] at h2
theorem grown_setCells (g : Nat) : ∀ (ys : List Value) (o : Nat) (w : World), w.grownBy (w.setCells g o ys) (some g)
  | [], o, w => World.grownBy.refl w _
  | y :: r, o, w => by
    have h1 : w.grownBy (w.setCell ⟨g, o, none⟩ y) (some g) := ⟨rfl, rfl, rfl, by simp [World.setCell], fun k _ hk => by
      simp [World.setCell, Array.getElem?_modify]
      intro e; exact absurd (congrArg some e.symm) hk⟩
    exact grownBy_trans h1 (grown_setCells g r (o + 1) _) (fun k hk => .inl hk)
/-- slices.Reverse of a row of the call's own. -/
theorem reverse_own {w : World} {base g c : Nat} {l : List Int} (h : OwnI w base (.slice (some ⟨g, 0, none⟩) l.length c) l) (hl : l.length ≤ 1000000) :
    Calls Try.prog 65 #[.slice (some ⟨g, 0, none⟩) l.length c] w fun e w' => e = .returned (.tuple #[]) ∧ OwnI w' base (.slice (some ⟨g, 0, none⟩) l.length c) l.reverse ∧ w.grownBy w' (some g) := by
  refine (Try.slices_Reverse_int_cells g 0 l.length c l w (Nat.le_refl _) (by omega) (fun j hj => ?_) (fun j hj => ?_)).mono ?_
  · rw [Nat.zero_add]; exact h.cell_ j hj
  · rw [Nat.zero_add]; exact h.free j
  · rintro e w' ⟨rfl, q, rfl⟩
    refine ⟨rfl, ?_, ?_⟩
    · have h2 := own_setCells l.reverse 0 l (w.drewN q) (by simp) (h.drewN q)
      rw [List.take_length]
      simpa using h2
    · have h3 := grown_setCells g ((l.take l.length).reverse.map (Value.int .i64)) 0 (w.drewN q)
      exact ⟨h3.os, h3.tape, h3.output, h3.size, h3.block⟩
end Go.Proofs.Ytccdjjpkcahgfaa
