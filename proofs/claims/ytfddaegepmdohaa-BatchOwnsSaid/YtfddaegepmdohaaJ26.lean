/- NamesU -/
import Derived.Test.YtfddaegepmdohaaJ14
import Derived.Test.YtfddaegepmdohaaJ24
namespace Go.Proofs.Ytfddaegepmdohaa
set_option maxRecDepth 100000
open Go.RowKit

/-- append of any texts, wherever they lie. -/
theorem wpList_appTs {w : World} {ops : Array Oper} {rest : List Oper} {o : Oper} {a : Act} {Q : Exit → Act → World → Prop} (hgd : o.guard = none) (s x : Operand)
    (ho : o.op = .call { callee := .builtin .append, args := #[s, x], argTypes := #[23, 23] })
    (base : Nat) (v : Value) (l : List Txt) (hs : a.eval s = v) (hown : OwnT w base v l) (B : Nat) (A : Option Addr) (m c : Nat) (news : List Txt) (hx : a.eval x = .slice A m c) (hr : HasT w B A m c news) (hbytes : (l.length + m) * 16 ≤ 140737488355328) (hbase : base ≤ w.heap.size)
    (h : ∀ v' w', OwnT w' base v' (l ++ news) → Grew w v w' v' → wpList Try.prog ops Q rest (a.put o.dst v') w') : wpList Try.prog ops Q (o :: rest) a w := by
  obtain ⟨i, hi, hz0, hz1, hz2⟩ := info_parts info_string
  have hml := hr.len
  have hmap : (l ++ news).map strV = l.map strV ++ news.map strV := List.map_append
  have key : ∃ v' w', (Builtin.append_ #[23, 23] o.type #[v, .slice A m c]).run Try.prog w = .ok v' w' ∧ OwnT w' base v' (l ++ news) ∧ Grew w v w' v' := by
    rcases A with _ | ad
    · obtain rfl := hr.void rfl
      have hc := hr.cap
      obtain rfl : m = 0 := by omega
      obtain rfl : news = [] := List.eq_nil_of_length_eq_zero hml
      exact ⟨v, w, run_append_owned_none (P := Try.prog) (w := w) base 23 o.type 9 i 1 Try.underlying23 hi v l.length (l.map strV) hown, by rw [List.append_nil]; exact hown, Grew.refl w v⟩
    · have hcells : ∀ j u, (news.map strV)[j]? = some u → w.cell? (ad.add j) = some u := by
        intro j u hu
        have hj : j < (news.map strV).length := by
          rcases Nat.lt_or_ge j (news.map strV).length with h1 | h1
          · exact h1
          · rw [List.getElem?_eq_none h1] at hu; cases hu
        obtain ⟨b, o', e', _, hc⟩ := hr.has (by omega)
        injection e' with e'
        subst e'
        rw [add_flat]
        exact hc j u hu
      obtain ⟨v', w', h1, h2, h3, _, h5⟩ := run_append_own_at (P := Try.prog) w base 23 o.type 9 i _ 1 16 Try.underlying23 hi hz0 hz1 hz2 rfl (by decide) v l.length (l.map strV) hown ad m c (news.map strV) (by simp [hml]) hcells (strV_one news) (by unfold maxLen; omega) (by omega) hbase
      refine ⟨v', w', h1, by unfold OwnT; rw [hmap, List.length_append, hml]; exact h2, h3, fun k hk => ?_⟩
      rcases h5 with h5 | h5
      · exact .inl (h5 ▸ hk)
      · rw [h5] at hk
        injection hk with hk
        exact .inr (Nat.le_of_eq hk)
  obtain ⟨v', w', hrun, h2, h3⟩ := key
  refine wpList_plain hgd fun K hK => ?_
  unfold Oper.wp execOp
  simp only [ho, resolve, invoke, builtin, Sem.run_bind, Sem.run_pure, Result.andThen_ok, List.map_toArray, List.map_cons, List.map_nil, hs, hx, hrun]
  exact hK _ _ (h v' w' h2 h3)
theorem cell_litT (w : World) (y : Value) (t : TypeId) (g : Nat) (hg : g = w.heap.size) : (w.alloc (.cells #[y] t)).cell? ⟨g, 0, none⟩ = some y := by
  subst hg
  rw [cell_new]; rfl
theorem takeT_snoc {L : List Txt} {k : Nat} (h : k < L.length) {x : Txt} (hx : x = L.getD k []) : L.take k ++ [x] = L.take (k + 1) := by
  rw [List.take_add_one, hx, List.getD_eq_getElem?_getD, List.getElem?_eq_getElem h]
  rfl

end Go.Proofs.Ytfddaegepmdohaa
