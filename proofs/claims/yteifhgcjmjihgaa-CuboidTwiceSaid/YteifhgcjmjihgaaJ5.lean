/- IntsB, IntsA -/
import Derived.Test.YteifhgcjmjihgaaJ2
import Derived.Test.YteifhgcjmjihgaaJ3
import Derived.Laws.OwnMore
import Derived.Maps.AppendAt
import Derived.Test.YteifhgcjmjihgaaRows
namespace Go.Proofs.Yteifhgcjmjihgaa
set_option maxRecDepth 100000
open Go.RowKit

/-- One int more. -/
theorem wpList_appI {w : World} {ops : Array Oper} {rest : List Oper} {o : Oper} {a : Act} {Q : Exit → Act → World → Prop} (hgd : o.guard = none) (s x : Operand)
    (ho : o.op = .call { callee := .builtin .append, args := #[s, x], argTypes := #[33, 33] })
    (base : Nat) (v : Value) (l : List Int) (hs : a.eval s = v) (hown : OwnI w base v l) (g : Nat) (hx : a.eval x = .slice (some ⟨g, 0, none⟩) 1 1) (y : Int) (hy : w.cell? ⟨g, 0, none⟩ = some (.int .i64 y)) (hl : l.length ≤ 1000000) (hbase : base ≤ w.heap.size)
    (h : ∀ v' w', OwnI w' base v' (l ++ [y]) → Grew w v w' v' → wpList Try.prog ops Q rest (a.put o.dst v') w') : wpList Try.prog ops Q (o :: rest) a w := by
  obtain ⟨i, hi, hz0, hz1, hz2⟩ := info_parts info_int
  refine wpList_append_own_at w hgd s x 33 ho base 3 i _ 1 8 Try.underlying33 hi hz0 hz1 hz2 rfl (by decide) v l.length (l.map i64v) hs hown ⟨g, 0, none⟩ 1 1 [.int .i64 y] hx rfl (fun j u hj => ?_) (fun u hu => ?_) (by unfold maxLen; omega) (by omega) hbase ?_
  · match j, hj with
    | 0, hj => simp at hj; subst hj; rw [add_flat]; exact hy
    | (j + 1), hj => simp at hj
  · simp at hu; subst hu; rfl
  · intro v' w' h1 h2 _ h4
    refine h v' w' (by unfold OwnI; simpa [i64v] using h1) ⟨h2, fun k hk => ?_⟩
    rcases h4 with h4 | h4
    · exact .inl (h4 ▸ hk)
    · rw [h4] at hk
      injection hk with hk
      exact .inr (Nat.le_of_eq hk)
/-- The same, inside a region that draws its order. -/
theorem step_appI {w : World} {ops : Array Oper} {o : Oper} {a : Act} {Q : Exit → Act → World → Prop} {K : Act → World → Prop} {F : Prop} (hgd : o.guard = none) (s x : Operand)
    (ho : o.op = .call { callee := .builtin .append, args := #[s, x], argTypes := #[33, 33] })
    (base : Nat) (v : Value) (l : List Int) (hs : a.eval s = v) (hown : OwnI w base v l) (g : Nat) (hx : a.eval x = .slice (some ⟨g, 0, none⟩) 1 1) (y : Int) (hy : w.cell? ⟨g, 0, none⟩ = some (.int .i64 y)) (hl : l.length ≤ 1000000) (hbase : base ≤ w.heap.size)
    (h : ∀ v' w', OwnI w' base v' (l ++ [y]) → Grew w v w' v' → K (a.put o.dst v') w') :
    if Region.wanted o (yielded ops a.tmps) = true then Oper.wp Try.prog o a w K Q else F := by
  have hw : Region.wanted o (yielded ops a.tmps) = true := by simp [Region.wanted, hgd]
  rw [if_pos hw]
  obtain ⟨i, hi, hz0, hz1, hz2⟩ := info_parts info_int
  obtain ⟨v', w', hrun, h2, h3, _, h5⟩ := run_append_own_at (P := Try.prog) w base 33 o.type 3 i _ 1 8 Try.underlying33 hi hz0 hz1 hz2 rfl (by decide) v l.length (l.map i64v) hown ⟨g, 0, none⟩ 1 1 [.int .i64 y] rfl (fun j u hj => by
    match j, hj with
    | 0, hj => simp at hj; subst hj; rw [add_flat]; exact hy
    | (j + 1), hj => simp at hj) (fun u hu => by simp at hu; subst hu; rfl) (by unfold maxLen; omega) (by omega) hbase
  unfold Oper.wp execOp
  simp only [ho, resolve, invoke, builtin, Sem.run_bind, Sem.run_pure, Result.andThen_ok, List.map_toArray, List.map_cons, List.map_nil, hs, hx, hrun]
  refine h v' w' (by unfold OwnI; simpa [i64v] using h2) ⟨h3, fun q hq => ?_⟩
  rcases h5 with h5 | h5
  · exact .inl (h5 ▸ hq)
  · rw [h5] at hq
    injection hq with hq
    exact .inr (Nat.le_of_eq hq)
theorem cell_lit (w : World) (y : Int) (t : TypeId) (g : Nat) (hg : g = w.heap.size) : (w.alloc (.cells #[.int .i64 y] t)).cell? ⟨g, 0, none⟩ = some (.int .i64 y) := by
  subst hg
  rw [cell_new]; rfl
section
variable {w w' : World} {base : Nat} {v : Value} {l : List Int}
theorem OwnI.len_ {A : Option Addr} {n cap : Nat} (h : OwnI w base (.slice A n cap) l) : l.length = n := by
  obtain ⟨A', c', e', _⟩ := h.form
  injection e' with _ e2 _
  exact e2.symm
theorem OwnI.cell_ {g n cap : Nat} (h : OwnI w base (.slice (some ⟨g, 0, none⟩) n cap) l) (j : Nat) (hj : j < l.length) : w.cell? ⟨g, j, none⟩ = some (.int .i64 (l.getD j 0)) := by
  have hc := World.ownsRow.cells h (g := g) rfl j (i64v (l.getD j 0)) (by simp [List.getElem?_map, List.getD_eq_getElem?_getD, List.getElem?_eq_getElem hj])
  rwa [add_flat, Nat.zero_add] at hc
theorem OwnI.free {g n cap : Nat} (h : OwnI w base (.slice (some ⟨g, 0, none⟩) n cap) l) (j : Nat) : w.frozen? ⟨g, j, none⟩ = false := by
  have hn := h.len_
  unfold OwnI at h
  rw [hn] at h
  exact World.ownsRow.frozenAt h j
theorem OwnI.set_ {g n cap : Nat} (h : OwnI w base (.slice (some ⟨g, 0, none⟩) n cap) l) (j : Nat) (u : Int) : OwnI (w.setCell ⟨g, j, none⟩ (.int .i64 u)) base (.slice (some ⟨g, 0, none⟩) n cap) (l.set j u) := by
  have hn := h.len_
  unfold OwnI at h ⊢
  rw [List.length_set, List.map_set, hn]
  rw [hn] at h
  exact (World.ownsRow.stored h j (i64v u)).1
theorem OwnI.other (h : OwnI w base v l) {g j : Nat} (hg : v.ownBlock ≠ some g) (u : Value) : OwnI (w.setCell ⟨g, j, none⟩ u) base v l := ownsRow_setCell_other h (a := ⟨g, j, none⟩) hg u
theorem OwnI.has {A : Option Addr} {n c : Nat} (h : OwnI w base (.slice A n c) l) : HasI w w.heap.size A n c l := by
  obtain ⟨A', n', c', e', h', _⟩ := h.formN
  injection e' with e1 e2 e3
  subst e1 e2 e3
  exact h'
end

theorem OwnI.formP {w : World} {base : Nat} {v : Value} {l : List Int} (h : OwnI w base v l) (hl : 0 < l.length) :
    ∃ g c, v = .slice (some ⟨g, 0, none⟩) l.length c ∧ base ≤ g ∧ g < w.heap.size ∧ l.length ≤ c ∧ c ≤ 9223372036854775807 ∧ ∀ j, j < l.length → w.cell? ⟨g, j, none⟩ = some (.int .i64 (l.getD j 0)) := by
  rcases h.2 with ⟨_, h0⟩ | ⟨g, cap, cur, rfl, hb, hg, hnc, hcm, _⟩
  · omega
  · exact ⟨g, cap, rfl, hb, (Array.getElem?_eq_some_iff.1 hg).1, hnc, by unfold maxLen at hcm; omega, fun j hj => h.cell_ j hj⟩
/-- append of ints, wherever they lie, onto a row of the call's own. -/
theorem wpList_appIs {w : World} {ops : Array Oper} {rest : List Oper} {o : Oper} {a : Act} {Q : Exit → Act → World → Prop} (hgd : o.guard = none) (s x : Operand)
    (ho : o.op = .call { callee := .builtin .append, args := #[s, x], argTypes := #[33, 33] })
    (base : Nat) (v : Value) (l : List Int) (hs : a.eval s = v) (hown : OwnI w base v l) (B : Nat) (A : Option Addr) (m c : Nat) (news : List Int) (hx : a.eval x = .slice A m c) (hr : HasI w B A m c news) (hbytes : (l.length + m) * 8 ≤ 140737488355328) (hbase : base ≤ w.heap.size)
    (h : ∀ v' w', OwnI w' base v' (l ++ news) → Grew w v w' v' → wpList Try.prog ops Q rest (a.put o.dst v') w') : wpList Try.prog ops Q (o :: rest) a w := by
  obtain ⟨i, hi, hz0, hz1, hz2⟩ := info_parts info_int
  have hml := hr.len
  have hmap : (l ++ news).map i64v = l.map i64v ++ news.map i64v := List.map_append
  have key : ∃ v' w', (Builtin.append_ #[33, 33] o.type #[v, .slice A m c]).run Try.prog w = .ok v' w' ∧ OwnI w' base v' (l ++ news) ∧ Grew w v w' v' := by
    rcases A with _ | ad
    · obtain rfl := hr.void rfl
      have hc := hr.cap
      obtain rfl : m = 0 := by omega
      obtain rfl : news = [] := List.eq_nil_of_length_eq_zero hml
      exact ⟨v, w, run_append_owned_none (P := Try.prog) (w := w) base 33 o.type 3 i 1 Try.underlying33 hi v l.length (l.map i64v) hown, by rw [List.append_nil]; exact hown, Grew.refl w v⟩
    · have hcells : ∀ j u, (news.map i64v)[j]? = some u → w.cell? (ad.add j) = some u := by
        intro j u hu
        have hj : j < (news.map i64v).length := by
          rcases Nat.lt_or_ge j (news.map i64v).length with h1 | h1
          · exact h1
          · rw [List.getElem?_eq_none h1] at hu; cases hu
        obtain ⟨b, o', e', _, hc⟩ := hr.has (by omega)
        injection e' with e'
        subst e'
        rw [add_flat]
        exact hc j u hu
      obtain ⟨v', w', h1, h2, h3, _, h5⟩ := run_append_own_at (P := Try.prog) w base 33 o.type 3 i _ 1 8 Try.underlying33 hi hz0 hz1 hz2 rfl (by decide) v l.length (l.map i64v) hown ad m c (news.map i64v) (by simp [hml]) hcells (i64v_one news) (by unfold maxLen; omega) (by omega) hbase
      refine ⟨v', w', h1, by unfold OwnI; rw [hmap, List.length_append, hml]; exact h2, h3, fun k hk => ?_⟩
      rcases h5 with h5 | h5
      · exact .inl (h5 ▸ hk)
      · rw [h5] at hk
        injection hk with hk
        exact .inr (Nat.le_of_eq hk)
  obtain ⟨v', w', hrun, h2, h3⟩ := key
  refine wpList_plain hgd fun K hK => ?_
  unfold Oper.wp execOp
  simp only [ho, resolve, invoke, builtin, Sem.run_bind, Sem.run_pure, Result.andThen_ok, List.map_toArray, List.map_cons, List.map_nil, hs, hx, hrun]
  exact hK _ _ (h v' w' h2 h3)

theorem OwnI.ne_blk {w : World} {base s : Nat} {v : Value} {l : List Int} {T : TypeId} {cs : Array Value} (h : OwnI w base v l) (hb : Block w s T cs) (hT : T ≠ 3) : v.ownBlock ≠ some s := by
  rcases h.2 with ⟨rfl, _⟩ | ⟨g, cap, cur, rfl, _, hg, _⟩
  · intro e; cases e
  · intro e
    simp only [Value.ownBlock, Option.some.injEq] at e
    subst e
    have hb : w.heap[g]? = some (.cells cs T (0, 0)) := hb
    rw [hg] at hb
    simp only [Option.some.injEq, Obj.cells.injEq] at hb
    exact hT hb.2.1.symm
end Go.Proofs.Yteifhgcjmjihgaa
namespace Go.Proofs.Yteifhgcjmjihgaa
set_option maxRecDepth 100000
open Go.RowKit

theorem own_setCells {base g n cap : Nat} : ∀ (ys : List Int) (o : Nat) (l : List Int) (w : World), o + ys.length ≤ l.length → OwnI w base (.slice (some ⟨g, 0, none⟩) n cap) l →
    OwnI (w.setCells g o (ys.map (Value.int .i64))) base (.slice (some ⟨g, 0, none⟩) n cap) (l.take o ++ ys ++ l.drop (o + ys.length))
  | [], o, l, w, _, h => by simpa [World.setCells] using h
  | y :: r, o, l, w, hl, h => by
    have hl' : o + 1 + r.length ≤ (l.set o y).length := by simp at hl ⊢; omega
    have h2 := own_setCells r (o + 1) (l.set o y) (w.setCell ⟨g, o, none⟩ (.int .i64 y)) hl' (h.set_ o y)
    simp only [List.map_cons, World.setCells]
    have hol : o < l.length := by simp at hl; omega
    have e : (l.set o y).take (o + 1) ++ r ++ (l.set o y).drop (o + 1 + r.length) = l.take o ++ (y :: r) ++ l.drop (o + (y :: r).length) := by
      rw [List.drop_set_of_lt (by omega), List.take_succ_eq_append_getElem (by simpa using hol)]
      simp [Nat.add_assoc, Nat.add_comm 1, List.take_set_of_le]
    rwa [e] at h2
theorem grown_setCells (g : Nat) : ∀ (ys : List Value) (o : Nat) (w : World), w.grownBy (w.setCells g o ys) (some g)
  | [], o, w => World.grownBy.refl w _
  | y :: r, o, w => by
    have h1 : w.grownBy (w.setCell ⟨g, o, none⟩ y) (some g) := ⟨rfl, rfl, rfl, by simp [World.setCell], fun k _ hk => by
      simp [World.setCell, Array.getElem?_modify]
      intro e; exact absurd (congrArg some e.symm) hk⟩
    exact grownBy_trans h1 (grown_setCells g r (o + 1) _) (fun k hk => .inl hk)
end Go.Proofs.Yteifhgcjmjihgaa
