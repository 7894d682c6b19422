/- Layer 5: cells that are built by append: a variable of the call's own and its three rows. -/
import Derived.Test.YtbgbchbnidejhaaCellE
import Derived.Test.YtbgbchbnidejhaaRowNe
import Derived.Maps.AppendAt
namespace Go.Proofs.Ytbgbchbnidejhaa
open Go.RowKit

/-- One int more. -/
theorem wpList_appI {w : World} {ops : Array Oper} {rest : List Oper} {o : Oper} {a : Act} {Q : Exit → Act → World → Prop} (hgd : o.guard = none) (s x : Operand)
    (ho : o.op = .call { callee := .builtin .append, args := #[s, x], argTypes := #[24, 24] })
    (base : Nat) (v : Value) (l : List Int) (hs : a.eval s = v) (hown : OwnI w base v l) (g : Nat) (hx : a.eval x = .slice (some ⟨g, 0, none⟩) 1 1) (y : Int) (hy : w.cell? ⟨g, 0, none⟩ = some (.int .i64 y)) (hl : l.length ≤ 1000000) (hbase : base ≤ w.heap.size)
    (h : ∀ v' w', OwnI w' base v' (l ++ [y]) → Grew w v w' v' → wpList Try.prog ops Q rest (a.put o.dst v') w') : wpList Try.prog ops Q (o :: rest) a w := by
  obtain ⟨i, hi, hz0, hz1, hz2⟩ := info_parts info_int
  refine wpList_append_own_at w hgd s x 24 ho base 3 i _ 1 8 Try.underlying24 hi hz0 hz1 hz2 rfl (by decide) v l.length (l.map i64v) hs hown ⟨g, 0, none⟩ 1 1 [.int .i64 y] hx rfl (fun j u hj => ?_) (fun u hu => ?_) (by unfold maxLen; omega) (by omega) hbase ?_
  · match j, hj with
    | 0, hj => simp at hj; subst hj; rw [add_flat]; exact hy
    | (j + 1), hj => simp at hj
  · simp at hu; subst hu; rfl
  · intro v' w' h1 h2 _ h4
    refine h v' w' (by unfold OwnI; simpa [i64v] using h1) ⟨h2, fun k hk => ?_⟩
    rcases h4 with h4 | h4
    · exact .inl (h4 ▸ hk)
    · rw [h4] at hk
      injection hk with hk
      exact .inr (Nat.le_of_eq hk)
theorem cell_lit (w : World) (y : Int) (t : TypeId) (g : Nat) (hg : g = w.heap.size) : (w.alloc (.cells #[.int .i64 y] t)).cell? ⟨g, 0, none⟩ = some (.int .i64 y) := by
  subst hg
  rw [cell_new]; rfl
theorem OwnI.ne_blk {w : World} {base s : Nat} {v : Value} {l : List Int} {T : TypeId} {cs : Array Value} (h : OwnI w base v l) (hb : Block w s T cs) (hT : T ≠ 3) : v.ownBlock ≠ some s := by
  rcases h.2 with ⟨rfl, _⟩ | ⟨g, cap, cur, rfl, _, hg, _⟩
  · intro e; cases e
  · intro e
    simp only [Value.ownBlock, Option.some.injEq] at e
    subst e
    have hb : w.heap[g]? = some (.cells cs T (0, 0)) := hb
    rw [hg] at hb
    simp only [Option.some.injEq, Obj.cells.injEq] at hb
    exact hT hb.2.1.symm
theorem ne_of {v v' : Value} (h : ∀ g, v.ownBlock = some g → v'.ownBlock ≠ some g) : v.ownBlock = none ∨ v.ownBlock ≠ v'.ownBlock := by
  cases hv : v.ownBlock with
  | none => exact .inl rfl
  | some g => exact .inr fun e => h g hv e.symm
/-- A block of another type is not written by an append. -/
theorem Block.app {w w' : World} {r base : Nat} {T : TypeId} {cs : Array Value} {v v' : Value} {l : List Int} (hb : Block w r T cs) (hT : T ≠ 3) (hO : OwnI w base v l) (hG : Grew w v w' v') : Block w' r T cs := hb.grown hG.1 (hO.ne_blk hb hT)
/-- The variable s and its rows, each in a block of its own. -/
structure Acc (w0 w : World) (s : Nat) (q : Int) (v1 v2 v3 : Value) (S M X : List Int) : Prop where
  blk : Block w s 26 #[.int .i64 q, v1, v2, v3]
  r1 : OwnI w w0.heap.size v1 S
  r2 : OwnI w w0.heap.size v2 M
  r3 : OwnI w w0.heap.size v3 X
  bel : Below w0.heap.size w0 w
  hs : w0.heap.size ≤ s
  d12 : ∀ g, v1.ownBlock = some g → v2.ownBlock ≠ some g
  d13 : ∀ g, v1.ownBlock = some g → v3.ownBlock ≠ some g
  d23 : ∀ g, v2.ownBlock = some g → v3.ownBlock ≠ some g
section
variable {w0 w w' : World} {s : Nat} {q : Int} {v1 v2 v3 : Value} {S M X : List Int}
theorem Acc.below (h : Acc w0 w s q v1 v2 v3 S M X) (hb : Below w.heap.size w w') : Acc w0 w' s q v1 v2 v3 S M X :=
  ⟨h.blk.below hb h.blk.lt, h.r1.below hb (Nat.le_refl _), h.r2.below hb (Nat.le_refl _), h.r3.below hb (Nat.le_refl _), h.bel.trans (hb.mono h.bel.size), h.hs, h.d12, h.d13, h.d23⟩
theorem Acc.alloc (h : Acc w0 w s q v1 v2 v3 S M X) (o : Obj) : Acc w0 (w.alloc o) s q v1 v2 v3 S M X := h.below (below_a1 w o)
theorem Acc.own (h : Acc w0 w s q v1 v2 v3 S M X) : OwnC w w0.heap.size v1 v2 v3 S M X := ⟨h.r1, h.r2, h.r3⟩
/-- A variable that is begun. -/
theorem Acc.new {s : Nat} (hb : Block w s 26 #[.int .i64 q, .slice none 0 0, .slice none 0 0, .slice none 0 0]) (hbe : Below w0.heap.size w0 w) (hs : w0.heap.size ≤ s) : Acc w0 w s q (.slice none 0 0) (.slice none 0 0) (.slice none 0 0) [] [] [] :=
  ⟨hb, OwnI.nil_ _ _, OwnI.nil_ _ _, OwnI.nil_ _ _, hbe, hs, (fun g h => by cases h), (fun g h => by cases h), (fun g h => by cases h)⟩
theorem Acc.app1 {y : Int} {v' : Value} (h : Acc w0 w s q v1 v2 v3 S M X) (hO : OwnI w' w0.heap.size v' (S ++ [y])) (hG : Grew w v1 w' v') : Block w' s 26 #[.int .i64 q, v1, v2, v3] ∧ Acc w0 (w'.setCell ⟨s, 1, none⟩ v') s q v' v2 v3 (S ++ [y]) M X := by
  have hT : 26 ≠ 3 := by decide
  have hb : Block w' s 26 #[.int .i64 q, v1, v2, v3] := h.blk.grown hG.1 (OwnI.ne_blk h.r1 h.blk hT)
  have hbe : Below w0.heap.size w0 w' := h.bel.trans (hG.below_ h.bel.size fun k e => (h.r1.lt k e).1)
  exact ⟨hb, ⟨hb.set_ 1 v', hO.other (hO.ne_blk hb hT) _, (OwnI.kept h.r2 hG.1 (ne_of fun g h1 h2 => h.d12 g h2 h1)).other (fun e => (OwnI.ne_blk h.r2 h.blk hT) e) _, (OwnI.kept h.r3 hG.1 (ne_of fun g h1 h2 => h.d13 g h2 h1)).other (fun e => (OwnI.ne_blk h.r3 h.blk hT) e) _, hbe.setCell (p := ⟨s, 1, none⟩) h.hs _, h.hs, fun g h1 h2 => (hG.2 g h1).elim (fun e => h.d12 g e h2) (fun e => by have := (h.r2.lt g h2).2; omega), fun g h1 h2 => (hG.2 g h1).elim (fun e => h.d13 g e h2) (fun e => by have := (h.r3.lt g h2).2; omega), h.d23⟩⟩
theorem Acc.app2 {y : Int} {v' : Value} (h : Acc w0 w s q v1 v2 v3 S M X) (hO : OwnI w' w0.heap.size v' (M ++ [y])) (hG : Grew w v2 w' v') : Block w' s 26 #[.int .i64 q, v1, v2, v3] ∧ Acc w0 (w'.setCell ⟨s, 2, none⟩ v') s q v1 v' v3 S (M ++ [y]) X := by
  have hT : 26 ≠ 3 := by decide
  have hb : Block w' s 26 #[.int .i64 q, v1, v2, v3] := h.blk.grown hG.1 (OwnI.ne_blk h.r2 h.blk hT)
  have hbe : Below w0.heap.size w0 w' := h.bel.trans (hG.below_ h.bel.size fun k e => (h.r2.lt k e).1)
  exact ⟨hb, ⟨hb.set_ 2 v', (OwnI.kept h.r1 hG.1 (ne_of fun g h1 => h.d12 g h1)).other (fun e => (OwnI.ne_blk h.r1 h.blk hT) e) _, hO.other (hO.ne_blk hb hT) _, (OwnI.kept h.r3 hG.1 (ne_of fun g h1 h2 => h.d23 g h2 h1)).other (fun e => (OwnI.ne_blk h.r3 h.blk hT) e) _, hbe.setCell (p := ⟨s, 2, none⟩) h.hs _, h.hs, fun g h1 h2 => (hG.2 g h2).elim (fun e => h.d12 g h1 e) (fun e => by have := (h.r1.lt g h1).2; omega), h.d13, fun g h1 h2 => (hG.2 g h1).elim (fun e => h.d23 g e h2) (fun e => by have := (h.r3.lt g h2).2; omega)⟩⟩
theorem Acc.app3 {y : Int} {v' : Value} (h : Acc w0 w s q v1 v2 v3 S M X) (hO : OwnI w' w0.heap.size v' (X ++ [y])) (hG : Grew w v3 w' v') : Block w' s 26 #[.int .i64 q, v1, v2, v3] ∧ Acc w0 (w'.setCell ⟨s, 3, none⟩ v') s q v1 v2 v' S M (X ++ [y]) := by
  have hT : 26 ≠ 3 := by decide
  have hb : Block w' s 26 #[.int .i64 q, v1, v2, v3] := h.blk.grown hG.1 (OwnI.ne_blk h.r3 h.blk hT)
  have hbe : Below w0.heap.size w0 w' := h.bel.trans (hG.below_ h.bel.size fun k e => (h.r3.lt k e).1)
  exact ⟨hb, ⟨hb.set_ 3 v', (OwnI.kept h.r1 hG.1 (ne_of fun g h1 => h.d13 g h1)).other (fun e => (OwnI.ne_blk h.r1 h.blk hT) e) _, (OwnI.kept h.r2 hG.1 (ne_of fun g h1 => h.d23 g h1)).other (fun e => (OwnI.ne_blk h.r2 h.blk hT) e) _, hO.other (hO.ne_blk hb hT) _, hbe.setCell (p := ⟨s, 3, none⟩) h.hs _, h.hs, h.d12, fun g h1 h2 => (hG.2 g h2).elim (fun e => h.d13 g h1 e) (fun e => by have := (h.r1.lt g h1).2; omega), fun g h1 h2 => (hG.2 g h2).elim (fun e => h.d23 g h1 e) (fun e => by have := (h.r2.lt g h1).2; omega)⟩⟩
end
end Go.Proofs.Ytbgbchbnidejhaa
