/- Rows of texts: one text more by append. -/
import Derived.Test.YtccdjjpkcahgfaaRows
import Derived.Test.YtccdjjpkcahgfaaTexts
import Derived.Maps.AppendAt
namespace Go.Proofs.Ytccdjjpkcahgfaa
open Go.RowKit

theorem info_string : (Try.prog.info? 9).map (fun i => (i.zero, i.size, i.bytes)) = some (some (.string ByteArray.empty), 1, 16) := by kernel_rfl
/-- One text more. -/
theorem wpList_appT {w : World} {ops : Array Oper} {rest : List Oper} {o : Oper} {a : Act} {Q : Exit → Act → World → Prop} (hgd : o.guard = none) (s x : Operand)
    (ho : o.op = .call { callee := .builtin .append, args := #[s, x], argTypes := #[30, 30] })
    (base : Nat) (v : Value) (l : List Txt) (hs : a.eval s = v) (hown : OwnT w base v l) (g : Nat) (hx : a.eval x = .slice (some ⟨g, 0, none⟩) 1 1) (y : Txt) (hy : w.cell? ⟨g, 0, none⟩ = some (strV y)) (hl : l.length ≤ 1000000) (hbase : base ≤ w.heap.size)
    (h : ∀ v' w', OwnT w' base v' (l ++ [y]) → Grew w v w' v' → wpList Try.prog ops Q rest (a.put o.dst v') w') : wpList Try.prog ops Q (o :: rest) a w := by
  obtain ⟨i, hi, hz0, hz1, hz2⟩ := info_parts info_string
  refine wpList_append_own_at w hgd s x 30 ho base 9 i _ 1 16 Try.underlying30 hi hz0 hz1 hz2 rfl (by decide) v l.length (l.map strV) hs hown ⟨g, 0, none⟩ 1 1 [strV y] hx rfl (fun j u hj => ?_) (fun u hu => ?_) (by unfold maxLen; omega) (by omega) hbase ?_
  · match j, hj with
    | 0, hj => simp at hj; subst hj; rw [add_flat]; exact hy
    | (j + 1), hj => simp at hj
  · simp at hu; subst hu; rfl
  · intro v' w' h1 h2 _ h4
    refine h v' w' (by unfold OwnT; simpa [strV] using h1) ⟨h2, fun k hk => ?_⟩
    rcases h4 with h4 | h4
    · exact .inl (h4 ▸ hk)
    · rw [h4] at hk
      injection hk with hk
      exact .inr (Nat.le_of_eq hk)
end Go.Proofs.Ytccdjjpkcahgfaa
