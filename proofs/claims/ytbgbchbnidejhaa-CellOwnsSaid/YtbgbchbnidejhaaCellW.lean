/- Layer 5: a cell in memory of its own; a cell written over. -/
import Derived.Test.YtbgbchbnidejhaaCellU
import Derived.Test.YtbgbchbnidejhaaAcc
import Derived.Test.YtbgbchbnidejhaaSized
namespace Go.Proofs.Ytbgbchbnidejhaa
open Go.RowKit

section
variable {w0 w w' : World} {s : Nat} {q : Int} {v1 v2 v3 : Value} {S M X : List Int}
theorem Acc.apps1 {l' : List Int} {v' : Value} (h : Acc w0 w s q v1 v2 v3 S M X) (hO : OwnI w' w0.heap.size v' l') (hG : Grew w v1 w' v') : Block w' s 26 #[.int .i64 q, v1, v2, v3] ∧ Acc w0 (w'.setCell ⟨s, 1, none⟩ v') s q v' v2 v3 l' M X := by
  have hT : 26 ≠ 3 := by decide
  have hb : Block w' s 26 #[.int .i64 q, v1, v2, v3] := h.blk.grown hG.1 (OwnI.ne_blk h.r1 h.blk hT)
  have hbe : Below w0.heap.size w0 w' := h.bel.trans (hG.below_ h.bel.size fun k e => (h.r1.lt k e).1)
  exact ⟨hb, ⟨hb.set_ 1 v', hO.other (hO.ne_blk hb hT) _, (OwnI.kept h.r2 hG.1 (ne_of fun g h1 h2 => h.d12 g h2 h1)).other (fun e => (OwnI.ne_blk h.r2 h.blk hT) e) _, (OwnI.kept h.r3 hG.1 (ne_of fun g h1 h2 => h.d13 g h2 h1)).other (fun e => (OwnI.ne_blk h.r3 h.blk hT) e) _, hbe.setCell (p := ⟨s, 1, none⟩) h.hs _, h.hs, fun g h1 h2 => (hG.2 g h1).elim (fun e => h.d12 g e h2) (fun e => by have := (h.r2.lt g h2).2; omega), fun g h1 h2 => (hG.2 g h1).elim (fun e => h.d13 g e h2) (fun e => by have := (h.r3.lt g h2).2; omega), h.d23⟩⟩
theorem Acc.apps2 {l' : List Int} {v' : Value} (h : Acc w0 w s q v1 v2 v3 S M X) (hO : OwnI w' w0.heap.size v' l') (hG : Grew w v2 w' v') : Block w' s 26 #[.int .i64 q, v1, v2, v3] ∧ Acc w0 (w'.setCell ⟨s, 2, none⟩ v') s q v1 v' v3 S l' X := by
  have hT : 26 ≠ 3 := by decide
  have hb : Block w' s 26 #[.int .i64 q, v1, v2, v3] := h.blk.grown hG.1 (OwnI.ne_blk h.r2 h.blk hT)
  have hbe : Below w0.heap.size w0 w' := h.bel.trans (hG.below_ h.bel.size fun k e => (h.r2.lt k e).1)
  exact ⟨hb, ⟨hb.set_ 2 v', (OwnI.kept h.r1 hG.1 (ne_of fun g h1 => h.d12 g h1)).other (fun e => (OwnI.ne_blk h.r1 h.blk hT) e) _, hO.other (hO.ne_blk hb hT) _, (OwnI.kept h.r3 hG.1 (ne_of fun g h1 h2 => h.d23 g h2 h1)).other (fun e => (OwnI.ne_blk h.r3 h.blk hT) e) _, hbe.setCell (p := ⟨s, 2, none⟩) h.hs _, h.hs, fun g h1 h2 => (hG.2 g h2).elim (fun e => h.d12 g h1 e) (fun e => by have := (h.r1.lt g h1).2; omega), h.d13, fun g h1 h2 => (hG.2 g h1).elim (fun e => h.d23 g e h2) (fun e => by have := (h.r3.lt g h2).2; omega)⟩⟩
theorem Acc.apps3 {l' : List Int} {v' : Value} (h : Acc w0 w s q v1 v2 v3 S M X) (hO : OwnI w' w0.heap.size v' l') (hG : Grew w v3 w' v') : Block w' s 26 #[.int .i64 q, v1, v2, v3] ∧ Acc w0 (w'.setCell ⟨s, 3, none⟩ v') s q v1 v2 v' S M l' := by
  have hT : 26 ≠ 3 := by decide
  have hb : Block w' s 26 #[.int .i64 q, v1, v2, v3] := h.blk.grown hG.1 (OwnI.ne_blk h.r3 h.blk hT)
  have hbe : Below w0.heap.size w0 w' := h.bel.trans (hG.below_ h.bel.size fun k e => (h.r3.lt k e).1)
  exact ⟨hb, ⟨hb.set_ 3 v', (OwnI.kept h.r1 hG.1 (ne_of fun g h1 => h.d13 g h1)).other (fun e => (OwnI.ne_blk h.r1 h.blk hT) e) _, (OwnI.kept h.r2 hG.1 (ne_of fun g h1 => h.d23 g h1)).other (fun e => (OwnI.ne_blk h.r2 h.blk hT) e) _, hO.other (hO.ne_blk hb hT) _, hbe.setCell (p := ⟨s, 3, none⟩) h.hs _, h.hs, h.d12, fun g h1 h2 => (hG.2 g h2).elim (fun e => h.d13 g h1 e) (fun e => by have := (h.r1.lt g h1).2; omega), fun g h1 h2 => (hG.2 g h2).elim (fun e => h.d23 g h1 e) (fun e => by have := (h.r2.lt g h1).2; omega)⟩⟩
end
/-- append of ints, wherever they lie, onto a row of the call's own. -/
theorem wpList_appIs {w : World} {ops : Array Oper} {rest : List Oper} {o : Oper} {a : Act} {Q : Exit → Act → World → Prop} (hgd : o.guard = none) (s x : Operand)
    (ho : o.op = .call { callee := .builtin .append, args := #[s, x], argTypes := #[24, 24] })
    (base : Nat) (v : Value) (l : List Int) (hs : a.eval s = v) (hown : OwnI w base v l) (B : Nat) (A : Option Addr) (m c : Nat) (news : List Int) (hx : a.eval x = .slice A m c) (hr : HasI w B A m c news) (hbytes : (l.length + m) * 8 ≤ 140737488355328) (hbase : base ≤ w.heap.size)
    (h : ∀ v' w', OwnI w' base v' (l ++ news) → Grew w v w' v' → wpList Try.prog ops Q rest (a.put o.dst v') w') : wpList Try.prog ops Q (o :: rest) a w := by
  obtain ⟨i, hi, hz0, hz1, hz2⟩ := info_parts info_int
  have hml := hr.len
  have hmap : (l ++ news).map i64v = l.map i64v ++ news.map i64v := List.map_append
  have key : ∃ v' w', (Builtin.append_ #[24, 24] o.type #[v, .slice A m c]).run Try.prog w = .ok v' w' ∧ OwnI w' base v' (l ++ news) ∧ Grew w v w' v' := by
    rcases A with _ | ad
    · obtain rfl := hr.void rfl
      have hc := hr.cap
      obtain rfl : m = 0 := by omega
      obtain rfl : news = [] := List.eq_nil_of_length_eq_zero hml
      exact ⟨v, w, run_append_owned_none (P := Try.prog) (w := w) base 24 o.type 3 i 1 Try.underlying24 hi v l.length (l.map i64v) hown, by rw [List.append_nil]; exact hown, Grew.refl w v⟩
    · have hcells : ∀ j u, (news.map i64v)[j]? = some u → w.cell? (ad.add j) = some u := by
        intro j u hu
        have hj : j < (news.map i64v).length := by
          rcases Nat.lt_or_ge j (news.map i64v).length with h1 | h1
          · exact h1
          · rw [List.getElem?_eq_none h1] at hu; cases hu
        obtain ⟨b, o', e', _, hc⟩ := hr.has (by omega)
        injection e' with e'
        subst e'
        rw [add_flat]
        exact hc j u hu
      obtain ⟨v', w', h1, h2, h3, _, h5⟩ := run_append_own_at (P := Try.prog) w base 24 o.type 3 i _ 1 8 Try.underlying24 hi hz0 hz1 hz2 rfl (by decide) v l.length (l.map i64v) hown ad m c (news.map i64v) (by simp [hml]) hcells (i64v_one news) (by unfold maxLen; omega) (by omega) hbase
      refine ⟨v', w', h1, by unfold OwnI; rw [hmap, List.length_append, hml]; exact h2, h3, fun k hk => ?_⟩
      rcases h5 with h5 | h5
      · exact .inl (h5 ▸ hk)
      · rw [h5] at hk
        injection hk with hk
        exact .inr (Nat.le_of_eq hk)
  obtain ⟨v', w', hrun, h2, h3⟩ := key
  refine wpList_plain hgd fun K hK => ?_
  unfold Oper.wp execOp
  simp only [ho, resolve, invoke, builtin, Sem.run_bind, Sem.run_pure, Result.andThen_ok, List.map_toArray, List.map_cons, List.map_nil, hs, hx, hrun]
  exact hK _ _ (h v' w' h2 h3)

set_option maxRecDepth 100000 in
set_option maxHeartbeats 2000000 in
theorem own_any {q : Int} {A1 A2 A3 : Option Addr} {n1 c1 n2 c2 n3 c3 : Nat} {S M X : List Int} {w : World} (h0 : HasC w w.heap.size A1 n1 c1 A2 n2 c2 A3 n3 c3 S M X) (b1 : n1 * 8 ≤ 140737488355328) (b2 : n2 * 8 ≤ 140737488355328) (b3 : n3 * 8 ≤ 140737488355328) :
    Calls Try.prog 21 #[cellV q A1 n1 c1 A2 n2 c2 A3 n3 c3] w fun e w' => (∃ v1 v2 v3, e = .returned (.agg #[.int .i64 q, v1, v2, v3]) ∧ OwnC w' w.heap.size v1 v2 v3 S M X) ∧ Below w.heap.size w w' := by
  have hT : 26 ≠ 3 := by decide
  have hL := ((Block.new w 26 #[.int .i64 q, .slice A1 n1 c1, .slice A2 n2 c2, .slice A3 n3 c3]).alloc (.cells #[.int .i64 0, .slice none 0 0, .slice none 0 0, .slice none 0 0] 26)).alloc (.cells #[.int .i64 q, .slice none 0 0, .slice none 0 0, .slice none 0 0] 26)
  have hR := (Block.new (w.alloc (.cells #[.int .i64 q, .slice A1 n1 c1, .slice A2 n2 c2, .slice A3 n3 c3] 26)) 26 #[.int .i64 0, .slice none 0 0, .slice none 0 0, .slice none 0 0]).alloc (.cells #[.int .i64 q, .slice none 0 0, .slice none 0 0, .slice none 0 0] 26)
  have hA := Acc.new (w0 := w) (Block.new ((w.alloc (.cells #[.int .i64 q, .slice A1 n1 c1, .slice A2 n2 c2, .slice A3 n3 c3] 26)).alloc (.cells #[.int .i64 0, .slice none 0 0, .slice none 0 0, .slice none 0 0] 26)) 26 #[.int .i64 q, .slice none 0 0, .slice none 0 0, .slice none 0 0]) (below_a3 w _ _ _) (by simp; omega)
  simp only [World.size_alloc] at hR hA
  -- OWN
  have hr1 : w.heap.size + 1 + 1 ≠ w.heap.size := by omega
  have hr2 : w.heap.size + 1 + 1 ≠ w.heap.size + 1 := by omega
  have hrb : w.heap.size ≤ w.heap.size + 1 := by omega
  have hlim1 := h0.s.lenMax
  have hlim2 := h0.m.lenMax
  have hlim3 := h0.x.lenMax
  have gl0 := hL.cell 1
  have gs0 := hA.blk.cell 1
  go_enter Try.func21, Try.ntmps21
  have hv1 := h0.s.below hA.bel (Nat.le_refl _)
  have gl1 := hL.cell 1
  have gs1 := hA.blk.cell 1
  go_wp2_with (at_builtin; refine wpList_appIs rfl _ _ rfl w.heap.size _ _ rfl hA.r1 _ A1 n1 c1 S rfl hv1 (by simpa using b1) hA.bel.size ?_)
  intro u1 w1 hO1 hG1
  obtain ⟨F1, j1, t1, rfl, _⟩ := hO1.formN
  obtain ⟨hB1, hA1⟩ := hA.apps1 hO1 hG1
  have hL1 := ((hL.app hT hA.r1 hG1).elsewhere (w.heap.size + 1 + 1) 1 (.slice F1 j1 t1) hr1)
  have hR1 := ((hR.app hT hA.r1 hG1).elsewhere (w.heap.size + 1 + 1) 1 (.slice F1 j1 t1) hr2)
  have x1 := hB1.cell 1
  have y1 := hB1.free 1
  clear hA hL hR hv1 gl1 gs1 hO1 hG1 hB1
  have hv2 := h0.m.below hA1.bel (Nat.le_refl _)
  have gl2 := hL1.cell 2
  have gs2 := hA1.blk.cell 2
  go_wp2_with (at_builtin; refine wpList_appIs rfl _ _ rfl w.heap.size _ _ rfl hA1.r2 _ A2 n2 c2 M rfl hv2 (by simpa using b2) hA1.bel.size ?_)
  intro u2 w2 hO2 hG2
  obtain ⟨F2, j2, t2, rfl, _⟩ := hO2.formN
  obtain ⟨hB2, hA2⟩ := hA1.apps2 hO2 hG2
  have hL2 := ((hL1.app hT hA1.r2 hG2).elsewhere (w.heap.size + 1 + 1) 2 (.slice F2 j2 t2) hr1)
  have hR2 := ((hR1.app hT hA1.r2 hG2).elsewhere (w.heap.size + 1 + 1) 2 (.slice F2 j2 t2) hr2)
  have x2 := hB2.cell 2
  have y2 := hB2.free 2
  clear hA1 hL1 hR1 hv2 gl2 gs2 hO2 hG2 hB2
  have hv3 := h0.x.below hA2.bel (Nat.le_refl _)
  have gl3 := hL2.cell 3
  have gs3 := hA2.blk.cell 3
  go_wp2_with (at_builtin; refine wpList_appIs rfl _ _ rfl w.heap.size _ _ rfl hA2.r3 _ A3 n3 c3 X rfl hv3 (by simpa using b3) hA2.bel.size ?_)
  intro u3 w3 hO3 hG3
  obtain ⟨F3, j3, t3, rfl, _⟩ := hO3.formN
  obtain ⟨hB3, hA3⟩ := hA2.apps3 hO3 hG3
  have hL3 := ((hL2.app hT hA2.r3 hG3).elsewhere (w.heap.size + 1 + 1) 3 (.slice F3 j3 t3) hr1)
  have hR3 := ((hR2.app hT hA2.r3 hG3).elsewhere (w.heap.size + 1 + 1) 3 (.slice F3 j3 t3) hr2)
  have x3 := hB3.cell 3
  have y3 := hB3.free 3
  clear hA2 hL2 hR2 hv3 gl3 gs3 hO3 hG3 hB3
  have w4 : True := trivial
  have zq : (w3.setCell ⟨w.heap.size + 1 + 1, 3, none⟩ (.slice F3 j3 t3)).cell? ⟨w.heap.size + 1 + 1, 0, none⟩ = some (.int .i64 q) := hA3.blk.cell 0
  have z1 : (w3.setCell ⟨w.heap.size + 1 + 1, 3, none⟩ (.slice F3 j3 t3)).cell? ⟨w.heap.size + 1 + 1, 1, none⟩ = some (.slice F1 j1 t1) := hA3.blk.cell 1
  have z2 : (w3.setCell ⟨w.heap.size + 1 + 1, 3, none⟩ (.slice F3 j3 t3)).cell? ⟨w.heap.size + 1 + 1, 2, none⟩ = some (.slice F2 j2 t2) := hA3.blk.cell 2
  have z3 : (w3.setCell ⟨w.heap.size + 1 + 1, 3, none⟩ (.slice F3 j3 t3)).cell? ⟨w.heap.size + 1 + 1, 3, none⟩ = some (.slice F3 j3 t3) := hA3.blk.cell 3
  have r0 : (w3.setCell ⟨w.heap.size + 1 + 1, 3, none⟩ (.slice F3 j3 t3)).cell? ⟨w.heap.size + 1, 0, none⟩ = some (.int .i64 0) := hR3.cell 0
  have r1 : (w3.setCell ⟨w.heap.size + 1 + 1, 3, none⟩ (.slice F3 j3 t3)).cell? ⟨w.heap.size + 1, 1, none⟩ = some (.slice none 0 0) := hR3.cell 1
  have r2 : (w3.setCell ⟨w.heap.size + 1 + 1, 3, none⟩ (.slice F3 j3 t3)).cell? ⟨w.heap.size + 1, 2, none⟩ = some (.slice none 0 0) := hR3.cell 2
  have r3 : (w3.setCell ⟨w.heap.size + 1 + 1, 3, none⟩ (.slice F3 j3 t3)).cell? ⟨w.heap.size + 1, 3, none⟩ = some (.slice none 0 0) := hR3.cell 3
  have f0 := hR3.free 0
  have f1 := hR3.free 1
  have f2 := hR3.free 2
  have f3 := hR3.free 3
  have hRR := Lib.hid (hR3.put4_ (.int .i64 q) (.slice F1 j1 t1) (.slice F2 j2 t2) (.slice F3 j3 t3))
  have hRB := Lib.hid (below_put4 hA3.bel hrb (.int .i64 q) (.slice F1 j1 t1) (.slice F2 j2 t2) (.slice F3 j3 t3))
  have key : ∀ {v : Value} {l : List Int} {w' : World}, OwnI w' w.heap.size v l → v.ownBlock ≠ some (w.heap.size + 1) → ∀ (j : Nat) (u : Value), OwnI (w'.setCell ⟨w.heap.size + 1, j, none⟩ u) w.heap.size v l := fun h hn j u => h.other hn u
  have m1 := hA3.r1.ne_blk hR3 hT
  have m2 := hA3.r2.ne_blk hR3 hT
  have m3 := hA3.r3.ne_blk hR3 hT
  have hRO : Hid (OwnC (put4 (w3.setCell ⟨w.heap.size + 1 + 1, 3, none⟩ (.slice F3 j3 t3)) (w.heap.size + 1) (.int .i64 q) (.slice F1 j1 t1) (.slice F2 j2 t2) (.slice F3 j3 t3)) w.heap.size (.slice F1 j1 t1) (.slice F2 j2 t2) (.slice F3 j3 t3) S M X) :=
    Lib.hid ⟨key (key (key (key hA3.r1 m1 0 _) m1 1 _) m1 2 _) m1 3 _, key (key (key (key hA3.r2 m2 0 _) m2 1 _) m2 2 _) m2 3 _, key (key (key (key hA3.r3 m3 0 _) m3 1 _) m3 2 _) m3 3 _⟩
  clear key m1 m2 m3 hA3 hL3 hR3
  go_wp2_with fail
  refine bodyPost_ret (results_block1 rfl _ _ (w.heap.size + 1) _ _ rfl hRR.out Try.underlying26 rfl info_cell) rfl ?_
  exact ⟨⟨_, _, _, rfl, hRO.out⟩, hRB.out⟩

/-! ### Written over -/
/-- The first n of a slice lie in blocks of ints, from base on, that may be written. -/
def InS (w : World) (base : Nat) (A : Option Addr) (n : Nat) : Prop := ∀ k, k < n → ∃ g cs, A = some ⟨g, 0, none⟩ ∧ base ≤ g ∧ Block w g 3 cs ∧ k < cs.size
theorem InS.of {w : World} {base n c : Nat} {A : Option Addr} {l : List Int} (h : OwnI w base (.slice A n c) l) : InS w base A n := by
  intro k hk
  have hn := h.len_
  rcases h.2 with ⟨h1, h0⟩ | ⟨g, cap, cur, h1, h2, h3, h4, h5, h6, _⟩
  · injection h1 with _ h1 _
    omega
  · injection h1 with h1 h7 _
    exact ⟨g, cur, h1, h2, h3, by omega⟩
theorem Block.ne_ {w : World} {g p : Nat} {T T' : TypeId} {cs cs' : Array Value} (h : Block w g T cs) (h' : Block w p T' cs') (hT : T ≠ T') : g ≠ p := by
  intro e
  subst e
  have h1 : w.heap[g]? = some (.cells cs T (0, 0)) := h
  have h2 : w.heap[g]? = some (.cells cs' T' (0, 0)) := h'
  rw [h1] at h2
  simp only [Option.some.injEq, Obj.cells.injEq] at h2
  exact hT h2.2.1
theorem InS.set_ {w : World} {base n : Nat} {A : Option Addr} (h : InS w base A n) (g j : Nat) (u : Value) : InS (w.setCell ⟨g, j, none⟩ u) base A n := by
  intro k hk
  obtain ⟨g', cs, h1, h2, h3, h4⟩ := h k hk
  by_cases e : g = g'
  · subst e
    exact ⟨g, _, h1, h2, h3.set_ j u, by simpa using h4⟩
  · exact ⟨g', cs, h1, h2, h3.elsewhere g j u e, h4⟩
theorem InS.below {w w' : World} {base n : Nat} {A : Option Addr} (h : InS w base A n) (hb : Below w.heap.size w w') : InS w' base A n := by
  intro k hk
  obtain ⟨g', cs, h1, h2, h3, h4⟩ := h k hk
  exact ⟨g', cs, h1, h2, h3.below hb h3.lt, h4⟩
/-- Where a walk over a cell's lists stands. -/
structure SpAt (w0 w : World) (base : Nat) (q : Int) (A1 : Option Addr) (n1 c1 : Nat) (A2 : Option Addr) (n2 c2 : Nat) (A3 : Option Addr) (n3 c3 : Nat) : Prop where
  blk : Block w w0.heap.size 26 #[.int .i64 q, .slice A1 n1 c1, .slice A2 n2 c2, .slice A3 n3 c3]
  s1 : InS w base A1 n1
  s2 : InS w base A2 n2
  s3 : InS w base A3 n3
  bel : Below base w0 w
theorem SpAt.set_ {w0 w : World} {base : Nat} {q : Int} {A1 A2 A3 : Option Addr} {n1 c1 n2 c2 n3 c3 : Nat} (h : SpAt w0 w base q A1 n1 c1 A2 n2 c2 A3 n3 c3) {g : Nat} {cs : Array Value} (hb : base ≤ g) (hg : Block w g 3 cs) (k : Nat) (u : Value) : SpAt w0 (w.setCell ⟨g, k, none⟩ u) base q A1 n1 c1 A2 n2 c2 A3 n3 c3 :=
  ⟨h.blk.elsewhere g k u (hg.ne_ h.blk (by decide)), h.s1.set_ g k u, h.s2.set_ g k u, h.s3.set_ g k u, h.bel.setCell (p := ⟨g, k, none⟩) hb u⟩
set_option maxRecDepth 100000 in
set_option maxHeartbeats 2000000 in
theorem spoil_any {q : Int} {A1 A2 A3 : Option Addr} {n1 c1 n2 c2 n3 c3 base : Nat} {w : World} (h1 : InS w base A1 n1) (h2 : InS w base A2 n2) (h3 : InS w base A3 n3) (hb : base ≤ w.heap.size)
    (l1 : n1 ≤ 9223372036854775807) (l2 : n2 ≤ 9223372036854775807) (l3 : n3 ≤ 9223372036854775807) :
    Calls Try.prog 22 #[cellV q A1 n1 c1 A2 n2 c2 A3 n3 c3] w fun e w' => e = .returned (.tuple #[]) ∧ Below base w w' := by
  have hbx := below_a1 w (.cells #[.int .i64 q, .slice A1 n1 c1, .slice A2 n2 c2, .slice A3 n3 c3] 26)
  have hS : SpAt w (w.alloc (.cells #[.int .i64 q, .slice A1 n1 c1, .slice A2 n2 c2, .slice A3 n3 c3] 26)) base q A1 n1 c1 A2 n2 c2 A3 n3 c3 := ⟨Block.new w _ _, h1.below hbx, h2.below hbx, h3.below hbx, hbx.mono hb⟩
  clear h1 h2 h3
  go_enter Try.func22, Try.ntmps22
  go_wp2_with fail
  generalize w.alloc (.cells #[.int .i64 q, .slice A1 n1 c1, .slice A2 n2 c2, .slice A3 n3 c3] 26) = w1 at hS ⊢
  clear hbx
  go_loopw [2] (fun i wr => ∃ k : Nat, k ≤ n1 ∧ i = .int .i64 k ∧ SpAt w wr base q A1 n1 c1 A2 n2 c2 A3 n3 c3) (fun i _ => n1 - (intOf i).toNat)
  case atStart => exact ⟨0, Nat.zero_le _, rfl, hS⟩
  case round =>
    obtain ⟨k, hk, rfl, hT⟩ := hrel
    clear hS
    have g0 : wr.cell? ⟨w.heap.size, 1, none⟩ = some (.slice A1 n1 c1) := hT.blk.cell 1
    by_cases hlt : k < n1
    · obtain ⟨g, cs, rfl, hg, hb, hkc⟩ := hT.s1 k hlt
      have i0 : (0 : Int) ≤ (k : Int) := by omega
      have i1 : (k : Int) < (n1 : Int) := by omega
      have g1 : wr.cell? ⟨g, k, none⟩ = some cs[k] := by rw [hb.cell k]; exact Array.getElem?_eq_getElem hkc
      have g2 := hb.free k
      have hN := Lib.hid (hT.set_ hg hb k (.int .i64 77))
      clear hT hb
      go_wp2_with fail
      go_roundw
      case rel => exact ⟨k + 1, by omega, by go_num, hN.out⟩
      case measure => simp [intOf]; omega
    · obtain rfl : n1 = k := by omega
      go_wp2_with fail
      have hS := hT
      clear hT g0
      go_loopw [3] (fun i wr => ∃ k : Nat, k ≤ n2 ∧ i = .int .i64 k ∧ SpAt w wr base q A1 n1 c1 A2 n2 c2 A3 n3 c3) (fun i _ => n2 - (intOf i).toNat)
      case atStart => exact ⟨0, Nat.zero_le _, rfl, hS⟩
      case round =>
        obtain ⟨k, hk, rfl, hT⟩ := hrel
        clear hS
        have g0 : wr.cell? ⟨w.heap.size, 2, none⟩ = some (.slice A2 n2 c2) := hT.blk.cell 2
        by_cases hlt : k < n2
        · obtain ⟨g, cs, rfl, hg, hb, hkc⟩ := hT.s2 k hlt
          have i0 : (0 : Int) ≤ (k : Int) := by omega
          have i1 : (k : Int) < (n2 : Int) := by omega
          have g1 : wr.cell? ⟨g, k, none⟩ = some cs[k] := by rw [hb.cell k]; exact Array.getElem?_eq_getElem hkc
          have g2 := hb.free k
          have hN := Lib.hid (hT.set_ hg hb k (.int .i64 77))
          clear hT hb
          go_wp2_with fail
          go_roundw
          case rel => exact ⟨k + 1, by omega, by go_num, hN.out⟩
          case measure => simp [intOf]; omega
        · obtain rfl : n2 = k := by omega
          go_wp2_with fail
          have hS := hT
          clear hT g0
          go_loopw [4] (fun i wr => ∃ k : Nat, k ≤ n3 ∧ i = .int .i64 k ∧ SpAt w wr base q A1 n1 c1 A2 n2 c2 A3 n3 c3) (fun i _ => n3 - (intOf i).toNat)
          case atStart => exact ⟨0, Nat.zero_le _, rfl, hS⟩
          case round =>
            obtain ⟨k, hk, rfl, hT⟩ := hrel
            clear hS
            have g0 : wr.cell? ⟨w.heap.size, 3, none⟩ = some (.slice A3 n3 c3) := hT.blk.cell 3
            by_cases hlt : k < n3
            · obtain ⟨g, cs, rfl, hg, hb, hkc⟩ := hT.s3 k hlt
              have i0 : (0 : Int) ≤ (k : Int) := by omega
              have i1 : (k : Int) < (n3 : Int) := by omega
              have g1 : wr.cell? ⟨g, k, none⟩ = some cs[k] := by rw [hb.cell k]; exact Array.getElem?_eq_getElem hkc
              have g2 := hb.free k
              have hN := Lib.hid (hT.set_ hg hb k (.int .i64 77))
              clear hT hb
              go_wp2_with fail
              go_roundw
              case rel => exact ⟨k + 1, by omega, by go_num, hN.out⟩
              case measure => simp [intOf]; omega
            · obtain rfl : n3 = k := by omega
              go_wp2_with fail
              have hS := hT
              clear hT g0
              (try simp only [Exit.inBlock, Exit.then])
              refine bodyPost_end (results_none rfl _ _ _) rfl ?_
              exact ⟨rfl, hS.bel⟩

theorem bytes_int : Try.prog.bytesOf 3 = 8 := by kernel_rfl
/-- How long a cell's lists may be. -/
theorem cell_len {w : World} {q : Int} {A1 A2 A3 : Option Addr} {n1 c1 n2 c2 n3 c3 : Nat} (h : RZ Try.prog w 26 [.int .i64 q, .slice A1 n1 c1, .slice A2 n2 c2, .slice A3 n3 c3]) : n1 * 8 ≤ 140737488355328 ∧ n2 * 8 ≤ 140737488355328 ∧ n3 * 8 ≤ 140737488355328 := by
  have key : ∀ {A : Option Addr} {n c : Nat}, RZ Try.prog w 24 [.slice A n c] → n * 8 ≤ 140737488355328 := fun h => by
    have h1 := h.slice_len Try.underlying24
    rw [bytes_int] at h1
    exact Nat.le_trans h1 (Nat.le_of_lt reachBytes_lt)
  have f1 : RZ Try.prog w 24 [.slice A1 n1 c1] := by
    have := h.field Try.underlying26 1 _ rfl
    have e : ([.int .i64 q, .slice A1 n1 c1, .slice A2 n2 c2, .slice A3 n3 c3].drop 1).take (Try.prog.cellsOf 24) = [Value.slice A1 n1 c1] := by rw [cells_intsC]; rfl
    exact e ▸ this
  have f2 : RZ Try.prog w 24 [.slice A2 n2 c2] := by
    have := h.field Try.underlying26 2 _ rfl
    have e : ([.int .i64 q, .slice A1 n1 c1, .slice A2 n2 c2, .slice A3 n3 c3].drop 2).take (Try.prog.cellsOf 24) = [Value.slice A2 n2 c2] := by rw [cells_intsC]; rfl
    exact e ▸ this
  have f3 : RZ Try.prog w 24 [.slice A3 n3 c3] := by
    have := h.field Try.underlying26 3 _ rfl
    have e : ([.int .i64 q, .slice A1 n1 c1, .slice A2 n2 c2, .slice A3 n3 c3].drop 3).take (Try.prog.cellsOf 24) = [Value.slice A3 n3 c3] := by rw [cells_intsC]; rfl
    exact e ▸ this
  exact ⟨key f1, key f2, key f3⟩
end Go.Proofs.Ytbgbchbnidejhaa
