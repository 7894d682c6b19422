/- SchemaV, SchemaW, SchemaR -/
import Derived.Test.YtfddaegepmdohaaJ6
import Derived.Test.YtfddaegepmdohaaJ14
import Derived.Test.YtfddaegepmdohaaJ40
import Derived.BigQuiet
import Derived.Deep.QuietTactic
import Derived.Lib.SliceRun
namespace Go.Proofs.Ytfddaegepmdohaa
set_option maxRecDepth 100000
open Go.RowKit Go.Maps

theorem may_1 {D : List PDim} {M : List Txt} {V : List (List Int)} (h : ¬ mayDP D) : decide (mayS D M V) = false := by
  rw [decide_eq_false_iff_not]; exact fun h' => h h'.1
theorem may_2 {D : List PDim} {M : List Txt} {V : List (List Int)} (h : ¬ apartP M 2) : decide (mayS D M V) = false := by
  rw [decide_eq_false_iff_not]; exact fun h' => h h'.2.1
theorem may_3 {D : List PDim} {M : List Txt} {V : List (List Int)} (h : mayDP D) (h' : apartP M 2) : decide (mayVP D V) = decide (mayS D M V) := by
  by_cases hv : mayVP D V
  · rw [decide_eq_true hv, decide_eq_true (show mayS D M V from ⟨h, h', hv⟩)]
  · rw [decide_eq_false hv, decide_eq_false (show ¬ mayS D M V from fun h => hv h.2.2)]
theorem mayD_3 {D : List PDim} (h : mayDP D) : D.length ≤ 3 := by have := h.2.2.1; simpa using this
set_option maxRecDepth 100000 in
set_option maxHeartbeats 1000000 in
/-- May. -/
theorem maySchema_any {A1 A2 A3 : Option Addr} {n1 c1 n2 c2 n3 c3 : Nat} {D : List PDim} {M : List Txt} {V : List (List Int)} {w : World} (h : HasS w w.heap.size A1 n1 c1 A2 n2 c2 A3 n3 c3 D M V) (hf : FitD D) (hm : ∀ s ∈ M, s.length ≤ maxLen) (hn1 : n1 ≤ 1000) :
    Calls Try.prog 22 #[schV A1 n1 c1 A2 n2 c2 A3 n3 c3] w fun e w' => e = .returned (.bool (decide (mayS D M V))) ∧ Below w.heap.size w w' := by
  have hb0 := below_a1 w (.cells #[.slice A1 n1 c1, .slice A2 n2 c2, .slice A3 n3 c3] 26)
  have h1 := h.belowS hb0
  have hS := Block.new w 26 #[.slice A1 n1 c1, .slice A2 n2 c2, .slice A3 n3 c3]
  have HD := Lib.hid (mayDims_any h1.d hf hn1)
  have HM := Lib.hid hm
  clear h hm
  by_cases hd : mayDP D
  · rw [decide_eq_true hd] at HD
    have HX := Lib.hid hd
    clear hd
    go_enter Try.func22, Try.ntmps22
    go_wp2_with fail
    generalize w.alloc (.cells #[.slice A1 n1 c1, .slice A2 n2 c2, .slice A3 n3 c3] 26) = w1 at hb0 h1 hS HD ⊢
    refine HD.out.mono ?_
    rintro e w2 ⟨rfl, hb2⟩
    have h2 := h1.belowS hb2
    have hS2 := hS.below hb2 hS.lt
    have hb3 := below_then hb0 hb2
    have s1 : w2.cell? ⟨w.heap.size, 1, none⟩ = some (.slice A2 n2 c2) := hS2.cell 1
    have HN := Lib.hid (show Calls Try.prog 41 #[.slice A2 n2 c2, .int .i64 2] _ _ from mayNames_any (m := 2) h2.m HM.out (by decide))
    clear HD hb2 hb0 h1 hS
    by_cases ha : apartP M 2
    · rw [decide_eq_true ha] at HN
      have HA := Lib.hid ha
      clear ha
      go_wp2_with fail
      refine HN.out.mono ?_
      rintro e w3 ⟨rfl, hb4⟩
      have h3 := h2.belowS hb4
      have hS3 := hS2.below hb4 hS2.lt
      have hb5 := below_then hb3 hb4
      have s0 : w3.cell? ⟨w.heap.size, 0, none⟩ = some (.slice A1 n1 c1) := hS3.cell 0
      have s4 : w3.cell? ⟨w.heap.size, 1, none⟩ = some (.slice A2 n2 c2) := hS3.cell 1
      have s2 : w3.cell? ⟨w.heap.size, 2, none⟩ = some (.slice A3 n3 c3) := hS3.cell 2
      have HV := Lib.hid (mayViews_any h3 (mayD_3 HX.out))
      have H := Lib.hid (may_3 (V := V) HX.out HA.out)
      rw [H.out] at HV
      clear s1 HN hb4 hb3 h2 hS2 H
      go_wp2_with fail
      refine HV.out.mono ?_
      rintro e w4 ⟨rfl, hb6⟩
      have hb7 := below_then hb5 hb6
      clear s0 s4 s2 HV hb6
      go_wp2_with fail
      go_ret
      exact ⟨rfl, hb7⟩
    · rw [decide_eq_false ha] at HN
      have H := Lib.hid (may_2 (D := D) (V := V) ha)
      clear ha
      go_wp2_with fail
      refine HN.out.mono ?_
      rintro e w3 ⟨rfl, hb4⟩
      have hb5 := below_then hb3 hb4
      clear s1 HN hb4
      go_wp2_with fail
      go_ret
      exact ⟨bool_of H.out.symm, hb5⟩
  · rw [decide_eq_false hd] at HD
    have H := Lib.hid (may_1 (M := M) (V := V) hd)
    clear hd
    go_enter Try.func22, Try.ntmps22
    go_wp2_with fail
    refine HD.out.mono ?_
    rintro e w2 ⟨rfl, hb2⟩
    have hb3 := below_then hb0 hb2
    clear HD
    go_wp2_with fail
    go_ret
    exact ⟨bool_of H.out.symm, hb3⟩

/-! ### Clones -/
theorem OwnI.empty (w : World) : OwnI (w.alloc (.cells #[] 3)) w.heap.size (.slice (some ⟨w.heap.size, 0, none⟩) 0 0) [] :=
  ⟨rfl, .inr ⟨w.heap.size, 0, #[], rfl, Nat.le_refl _, heap_alloc_new w _, Nat.le_refl _, Nat.zero_le _, rfl, rfl⟩⟩
/-! ### Rows of rows of the call's own -/
def OwnLs (w : World) (base : Nat) (v : Value) (Q : List (List Int)) : Prop :=
  ∃ vs : List Value, w.ownsRow base 32 1 v Q.length vs ∧ ∀ (i : Nat) (q : List Int), Q[i]? = some q → ∃ x, vs[i]? = some x ∧ OwnI w base x q
section
variable {w w' : World} {base : Nat} {v : Value} {Q : List (List Int)}
theorem OwnLs.nil_ (w : World) (base : Nat) : OwnLs w base (.slice none 0 0) [] := ⟨[], World.ownsRow_nil w base _ 1, fun i q h => by simp at h⟩
theorem OwnLs.low {base' : Nat} (h : OwnLs w base v Q) (hb : base' ≤ base) : OwnLs w base' v Q := by
  obtain ⟨vs, h1, h2⟩ := h
  exact ⟨vs, row_low h1 hb, fun i q hi => by obtain ⟨x, e, hx⟩ := h2 i q hi; exact ⟨x, e, hx.low hb⟩⟩
theorem OwnLs.lt (h : OwnLs w base v Q) : ∀ k, v.ownBlock = some k → base ≤ k ∧ k < w.heap.size := by
  obtain ⟨vs, h1, _⟩ := h
  exact World.ownsRow.lt h1
theorem OwnLs.below (h : OwnLs w base v Q) (hb : Below w.heap.size w w') : OwnLs w' base v Q := by
  obtain ⟨vs, h1, h2⟩ := h
  exact ⟨vs, row_below h1 hb, fun i q hi => by obtain ⟨x, e, hx⟩ := h2 i q hi; exact ⟨x, e, OwnI.below hx hb (Nat.le_refl _)⟩⟩
theorem OwnLs.alloc (h : OwnLs w base v Q) (o : Obj) : OwnLs (w.alloc o) base v Q := h.below (below_a1 w o)
theorem OwnLs.form (h : OwnLs w base v Q) : ∃ A c, v = .slice A Q.length c ∧ HasL w w.heap.size A Q.length c Q := by
  obtain ⟨vs, h1, h2⟩ := h
  rcases h1.2 with ⟨rfl, h0⟩ | ⟨g, cap, cur, rfl, hb, hg, hnc, hcm, hcs, ht⟩
  · rw [h0]
    exact ⟨none, 0, rfl, h0, Nat.le_refl _, Nat.zero_le _, fun _ => rfl, fun i h => absurd h (by omega)⟩
  · refine ⟨_, cap, rfl, rfl, hnc, hcm, (fun h => by cases h), fun i hi => ?_⟩
    obtain ⟨x, e, hx⟩ := h2 i _ (List.getElem?_eq_getElem hi)
    obtain ⟨A', c', rfl, hT, _⟩ := hx.form
    have hc := World.ownsRow.cells h1 (g := g) rfl i _ e
    rw [add_flat] at hc
    refine ⟨g, 0, A', _, c', rfl, (Array.getElem?_eq_some_iff.1 hg).1, hc, ?_⟩
    rw [List.getD_eq_getElem?_getD, List.getElem?_eq_getElem hi]
    exact hT
/-- A row of ints of the call's own elsewhere stays while this row grows. -/
theorem OwnLs.kept_row (h : OwnLs w base v Q) {B : Nat} {x : Value} {q : List Int} (hx : OwnI w B x q) (hg : w.grownBy w' v.ownBlock) : OwnI w' B x q := by
  obtain ⟨vs, h1, _⟩ := h
  exact World.ownsRow.kept hx hg (row_ne hx h1 (by decide))
end
section
variable {w : World} {ops : Array Oper} {rest : List Oper} {o : Oper} {a : Act} {K : Exit → Act → World → Prop}
/-- One row more. -/
theorem wpList_appLs (hgd : o.guard = none) (s x : Operand)
    (ho : o.op = .call { callee := .builtin .append, args := #[s, x], argTypes := #[24, 24] })
    (base : Nat) (v : Value) (Q : List (List Int)) (hs : a.eval s = v) (hown : OwnLs w base v Q) (g : Nat) (hx : a.eval x = .slice (some ⟨g, 0, none⟩) 1 1) (y : Value) (q : List Int) (hy : w.cell? ⟨g, 0, none⟩ = some y) (hyo : OwnI w base y q) (hl : Q.length ≤ 1000000) (hbase : base ≤ w.heap.size)
    (h : ∀ v' w', OwnLs w' base v' (Q ++ [q]) → Grew w v w' v' → wpList Try.prog ops K rest (a.put o.dst v') w') : wpList Try.prog ops K (o :: rest) a w := by
  obtain ⟨i, hi, hz0, hz1, hz2⟩ := info_parts info_ints
  have hown0 := hown
  obtain ⟨vs, h1, h2⟩ := hown
  have hvl : vs.length = Q.length := by have := h1.1; omega
  have hone : y.oneCell' = true := by obtain ⟨A', c', rfl, _⟩ := hyo.form; rfl
  refine wpList_append_own_at w hgd s x 24 ho base 32 i _ 1 24 Try.underlying24 hi hz0 hz1 hz2 rfl (by decide) v Q.length vs hs h1 ⟨g, 0, none⟩ 1 1 [y] hx rfl (fun j u hj => ?_) (fun u hu => ?_) (by unfold maxLen; omega) (by omega) hbase ?_
  · match j, hj with
    | 0, hj => simp at hj; subst hj; rw [add_flat]; exact hy
    | (j + 1), hj => simp at hj
  · simp at hu; subst hu; exact hone
  · intro v' w' e1 e2 _ e4
    refine h v' w' ⟨vs ++ [y], by simpa using e1, fun i q' hi => ?_⟩ ⟨e2, fun k hk => ?_⟩
    · by_cases hlt : i < Q.length
      · rw [List.getElem?_append_left hlt] at hi
        obtain ⟨x', e, hx'⟩ := h2 i q' hi
        exact ⟨x', by rw [List.getElem?_append_left (by omega)]; exact e, hown0.kept_row hx' e2⟩
      · have hie : i = Q.length := by
          have := (List.getElem?_eq_some_iff.1 hi).1
          simp at this
          omega
        subst hie
        simp at hi
        subst hi
        exact ⟨y, by rw [List.getElem?_append_right (by omega), hvl]; simp, hown0.kept_row hyo e2⟩
    · rcases e4 with e4 | e4
      · exact .inl (e4 ▸ hk)
      · rw [e4] at hk
        injection hk with hk
        exact .inr (Nat.le_of_eq hk)
end
/-- A fresh one of one row. -/
theorem OwnLs.lit {w : World} {base : Nat} {x : Value} {q : List Int} (h : OwnI w base x q) (g : Nat) (hg : g = w.heap.size) (hb : base ≤ g) : OwnLs (w.alloc (.cells #[x] 32)) base (.slice (some ⟨g, 0, none⟩) 1 1) [q] := by
  subst hg
  refine ⟨[x], ⟨rfl, .inr ⟨w.heap.size, 1, #[x], rfl, hb, heap_alloc_new w _, Nat.le_refl _, by decide, rfl, rfl⟩⟩, fun i q' hi => ?_⟩
  match i, hi with
  | 0, hi => simp at hi; subst hi; exact ⟨x, rfl, h.alloc _⟩
  | (i + 1), hi => simp at hi
/-- What a call tells that tells new rows of ints. -/
def TellLs (w : World) (Q : List (List Int)) (e : Ending) (w' : World) : Prop := (∃ v, e = .returned v ∧ OwnLs w' w.heap.size v Q) ∧ Below w.heap.size w w'
theorem views_snoc {D : List PDim} {V : List (List Int)} {k : Nat} {l : List Int} (hk : k < V.length) (he : l = V.getD k []) : viewsP D (V.take k) ++ [l] = viewsP D (V.take (k + 1)) := by
  unfold viewsP
  rw [List.take_succ_eq_append_getElem hk, he, List.getD_eq_getElem?_getD, List.getElem?_eq_getElem hk]
  rfl
theorem views_len {D : List PDim} {V : List (List Int)} {k : Nat} (hk : k ≤ 1000) : (viewsP D (V.take k)).length ≤ 1000000 := by
  have := List.length_take_le k V
  simp [viewsP]; omega
end Go.Proofs.Ytfddaegepmdohaa
namespace Go.Proofs.Ytfddaegepmdohaa
set_option maxRecDepth 100000
open Go.RowKit Go.Maps

theorem num_err {D : List PDim} {M : List Txt} {V : List (List Int)} {v : List Int} (h : ¬ mayS D M V) {a b : Int} (e : numberP D M V v = (a, b)) : a = 0 ∧ b = 11 := by
  rw [numberP, if_neg h] at e
  simp only [Prod.mk.injEq] at e
  exact ⟨e.1.symm, e.2.symm⟩
theorem num_at {D : List PDim} {M : List Txt} {V : List (List Int)} {v : List Int} (h : mayS D M V) {a b : Int} (e : numberP D M V v = (a, b)) {i : Nat} {l : List Int} (hi : i < (viewsP D V).length) (hl : l = (viewsP D V).getD i []) (hv : l = v) (hn : ∀ j, j < i → (viewsP D V).getD j [] ≠ v) : (i : Int) = a ∧ b = 0 := by
  rw [numberP, if_pos h, numP_at _ 0 i hi hn (hl.symm.trans hv)] at e
  simp only [Prod.mk.injEq, Nat.zero_add] at e
  exact ⟨e.1, e.2.symm⟩
theorem num_no {D : List PDim} {M : List Txt} {V : List (List Int)} {v : List Int} (h : mayS D M V) {a b : Int} (e : numberP D M V v = (a, b)) {k : Nat} (hk : (viewsP D V).length ≤ k) (hn : ∀ j, j < k → (viewsP D V).getD j [] ≠ v) : a = 0 ∧ b = 17 := by
  rw [numberP, if_pos h, numP_no _ 0 fun j hj => hn j (by omega)] at e
  simp only [Prod.mk.injEq] at e
  exact ⟨e.1.symm, e.2.symm⟩
theorem num_step {L : List (List Int)} {v l : List Int} {k : Nat} (hn : ∀ j, j < k → L.getD j [] ≠ v) (hl : l = L.getD k []) (hv : ¬ l = v) : ∀ j, j < k + 1 → L.getD j [] ≠ v := fun j hj => by
  by_cases h : j < k
  · exact hn j h
  · obtain rfl : j = k := by omega
    rw [← hl]; exact hv
theorem pair_of {a b c d : Int} (h1 : a = c) (h2 : b = d) : Ending.returned (.tuple #[.int .i64 a, .int .i64 b]) = .returned (.tuple #[.int .i64 c, .int .i64 d]) := by rw [h1, h2]
/-! ### How many corners -/
theorem base_le {D : List PDim} {k : Nat} {y : Int} (hy : y = (baseP D).getD k 0) : 0 ≤ y := by
  rw [hy, List.getD_eq_getElem?_getD]
  by_cases hk : k < (baseP D).length
  · rw [List.getElem?_eq_getElem hk]
    have : (baseP D)[k] ∈ baseP D := List.getElem_mem hk
    obtain ⟨d, _, e⟩ := List.mem_map.1 this
    show 0 ≤ (baseP D)[k]
    omega
  · rw [List.getElem?_eq_none (by omega)]; exact Int.le_refl _
theorem prod_step {L : List Int} {k : Nat} {p y : Int} (hk : k < L.length) (hy : y = L.getD k 0) (h : ¬ 100 < y) : prodP p (L.drop k) = prodP (p * (y + 1)) (L.drop (k + 1)) := by
  rw [List.drop_eq_getElem_cons hk, prodP]
  have e : L[k] = y := by rw [hy, List.getD_eq_getElem?_getD, List.getElem?_eq_getElem hk]; rfl
  rw [e, if_neg h]
theorem prod_stop {L : List Int} {k : Nat} {p y : Int} (hk : k < L.length) (hy : y = L.getD k 0) (h : 100 < y) : prodP p (L.drop k) = 0 := by
  rw [List.drop_eq_getElem_cons hk, prodP]
  have e : L[k] = y := by rw [hy, List.getD_eq_getElem?_getD, List.getElem?_eq_getElem hk]; rfl
  rw [e, if_pos h]
theorem pow_bound {k : Nat} {p y : Int} (hk : k < 8) (hp0 : 0 ≤ p) (hp : p ≤ 101 ^ k) (hy0 : 0 ≤ y) (hy : ¬ 100 < y) : 0 ≤ p * (y + 1) ∧ p * (y + 1) ≤ 101 ^ (k + 1) ∧ IntKind.i64.wrap (p * (y + 1)) = p * (y + 1) := by
  have h1 : 0 ≤ p * (y + 1) := Int.mul_nonneg hp0 (by omega)
  have h2 : p * (y + 1) ≤ 101 ^ k * 101 := Int.mul_le_mul hp (by omega) (by omega) (by have : (0 : Int) ≤ 101 ^ k := Int.pow_nonneg (by decide); exact this)
  have h3 : (101 : Int) ^ k * 101 = 101 ^ (k + 1) := (Int.pow_succ 101 k).symm
  have h4 : (101 : Int) ^ (k + 1) ≤ 10828567056280801 := by
    rcases (by omega : k = 0 ∨ k = 1 ∨ k = 2 ∨ k = 3 ∨ k = 4 ∨ k = 5 ∨ k = 6 ∨ k = 7) with rfl | rfl | rfl | rfl | rfl | rfl | rfl | rfl <;> decide +kernel
  refine ⟨h1, h3 ▸ h2, ?_⟩
  have h5 : p * (y + 1) ≤ 10828567056280801 := Int.le_trans (h3 ▸ h2) h4
  exact IntWalk.i64_in _ (by omega)
theorem corners_long {D : List PDim} (h : 8 < D.length) : cornersP D = 0 := by rw [cornersP, if_pos h]
theorem corners_start {D : List PDim} (h : ¬ 8 < D.length) : cornersP D = prodP 1 ((baseP D).drop 0) := by rw [cornersP, if_neg h, List.drop_zero]
theorem prod_done {L : List Int} {p : Int} {k : Nat} (h : L.length ≤ k) : prodP p (L.drop k) = p := by rw [List.drop_eq_nil_of_le h]; rfl
end Go.Proofs.Ytfddaegepmdohaa
namespace Go.Proofs.Ytfddaegepmdohaa
set_option maxRecDepth 100000
open Go.RowKit Go.Maps

theorem toB {P : Program} {f : FuncId} {args : Array Value} {w : World} {v : Value} (h : Calls P f args w fun e w' => e = .returned v ∧ ∃ k, w' = w.drewN k) : Calls P f args w fun e w' => e = .returned v ∧ Below w.heap.size w w' :=
  h.mono fun _ _ ⟨he, k, hk⟩ => ⟨he, hk ▸ below_drewN (Below.refl _ _) k⟩
theorem rm_1 {D : List PDim} {M : List Txt} {V : List (List Int)} {k : Nat} {x : Txt} {L : List Txt} (hk : k < D.length) (he : D.getD k zeroD = (x, L)) (h : ¬ apartP L 3) : decide (mayS D M V) = false := by
  have h1 := md_no hk he h
  rw [decide_eq_false_iff_not] at h1 ⊢
  exact fun h' => h1 h'.1
theorem rm_2 {D : List PDim} {M : List Txt} {V : List (List Int)} (h : ¬ apartP (D.map (·.1)) 3 ∨ ¬ apartP M 2 ∨ 6 < V.length) : decide (mayS D M V) = false := by
  rw [decide_eq_false_iff_not]
  intro h'
  rcases h with h | h | h
  · exact h h'.1.2
  · exact h h'.2.1
  · have := h'.2.2.1; omega
theorem rm_3 {D : List PDim} {M : List Txt} {V : List (List Int)} {k : Nat} {l : List Int} (hk : k < V.length) (he : l = V.getD k []) (h : ¬ cornerP D l ∨ l = baseP D ∨ ∃ j, j < k ∧ V.getD j [] = l) : decide (mayS D M V) = false := by
  have e : V[k] = l := by rw [he, List.getD_eq_getElem?_getD, List.getElem?_eq_getElem hk]; rfl
  rw [decide_eq_false_iff_not]
  intro h'
  obtain ⟨_, hc, hn⟩ := h'.2.2
  rcases h with h | h | ⟨j, hj, h⟩
  · exact h (e ▸ hc _ (List.getElem_mem hk))
  · have := (List.nodup_cons.1 hn).1
    exact this (by rw [← h, ← e]; exact List.getElem_mem hk)
  · have := List.pairwise_iff_getElem.1 (List.nodup_cons.1 hn).2 j k (by omega) hk hj
    refine this ?_
    rw [e, ← h, List.getD_eq_getElem?_getD, List.getElem?_eq_getElem (show j < V.length by omega)]
    rfl
theorem rm_step {D : List PDim} {V : List (List Int)} {k : Nat} {l : List Int} (hk : k < V.length) (he : l = V.getD k []) (hn : (viewsP D (V.take k)).Nodup) (hb : ¬ l = baseP D) (hj : ∀ j, j < k → ¬ V.getD j [] = l) : (viewsP D (V.take (k + 1))).Nodup := by
  rw [← views_snoc hk he]
  refine List.nodup_append.2 ⟨hn, by simp, fun a ha b hbm => ?_⟩
  rw [List.mem_singleton] at hbm
  rw [hbm]
  rcases List.mem_cons.1 ha with rfl | ha
  · exact fun e => hb e.symm
  · obtain ⟨j, hjt, e⟩ := List.mem_iff_getElem.1 ha
    rw [List.length_take] at hjt
    rw [List.getElem_take] at e
    intro e2
    refine hj j (by omega) ?_
    rw [List.getD_eq_getElem?_getD, List.getElem?_eq_getElem (show j < V.length by omega)]
    exact e.trans e2
theorem rm_end {D : List PDim} {M : List Txt} {V : List (List Int)} {k : Nat} (hk : V.length ≤ k) (h6 : ¬ 6 < V.length) (hd : ∀ d ∈ D, apartP d.2 3) (h1 : apartP (D.map (·.1)) 3) (h2 : apartP M 2) (hc : ∀ v ∈ V.take k, cornerP D v) (hn : (viewsP D (V.take k)).Nodup) : decide (mayS D M V) = true := by
  rw [List.take_of_length_le hk] at hc hn
  rw [decide_eq_true_eq]
  exact ⟨⟨hd, h1⟩, h2, by omega, hc, hn⟩
theorem all_take {D : List PDim} {k : Nat} (hk : D.length ≤ k) (ht : ∀ d ∈ D.take k, apartP d.2 3) : ∀ d ∈ D, apartP d.2 3 := by rwa [List.take_of_length_le hk] at ht
set_option maxRecDepth 100000 in
set_option maxHeartbeats 4000000 in
/-- The reference's May. -/
theorem refMay8_any {A1 A2 A3 : Option Addr} {n1 c1 n2 c2 n3 c3 : Nat} {D : List PDim} {M : List Txt} {V : List (List Int)} {w : World} (h : HasS w w.heap.size A1 n1 c1 A2 n2 c2 A3 n3 c3 D M V) (hn1 : n1 ≤ 1000) (hn3 : n3 ≤ 1000) :
    Calls Try.prog 26 #[schV A1 n1 c1 A2 n2 c2 A3 n3 c3] w fun e w' => e = .returned (.bool (decide (mayS D M V))) ∧ Below w.heap.size w w' := by
  have HL := Lib.hid h.d.len
  have HV := Lib.hid h.v.len
  have hb0 := below_a1 w (.cells #[.slice A1 n1 c1, .slice A2 n2 c2, .slice A3 n3 c3] 26)
  have h1 := h.belowS hb0
  have hS := Block.new w 26 #[.slice A1 n1 c1, .slice A2 n2 c2, .slice A3 n3 c3]
  clear h
  go_enter Try.func26, Try.ntmps26
  go_wp2_with fail
  generalize w.alloc (.cells #[.slice A1 n1 c1, .slice A2 n2 c2, .slice A3 n3 c3] 26) = w1 at hb0 h1 hS ⊢
  go_loopw [3, 4] (fun v i wr => ∃ k : Nat, k ≤ n1 ∧ i = .int .i64 k ∧ OwnT wr w1.heap.size v ((D.map (·.1)).take k) ∧ Below w1.heap.size w1 wr ∧ Hid (∀ d ∈ D.take k, apartP d.2 3)) (fun _ i _ => n1 - (intOf i).toNat)
  case atStart => exact ⟨0, Nat.zero_le _, rfl, OwnT.nil_ w1 _, Below.refl _ _, Lib.hid (by simp)⟩
  case round =>
    obtain ⟨k, hk, rfl, hO, hB, ht⟩ := hrel
    have s0 : wr.cell? ⟨w.heap.size, 0, none⟩ = some (.slice A1 n1 c1) := (hS.below hB hS.lt).cell 0
    by_cases hlt : k < n1
    · obtain ⟨b, o, x, A', n', c', L, rfl, hb, g0, g1, hT, he⟩ := (h1.d.below hB (Nat.le_refl _)).at_ hlt
      have i0 : (0 : Int) ≤ (k : Int) := by omega
      have i1 : (k : Int) < (n1 : Int) := by omega
      have hz := hB.size
      have hlb : Hid (((D.map (·.1)).take k).length ≤ 1000000) := Lib.hid (Nat.le_trans (List.length_take_le k _) (by omega))
      have HH := Lib.hid (heads_snoc (by have := HL.out; omega) he.out)
      have hlo := fun g e => (hO.lt g e).1
      have hO1 := hO.alloc (.cells #[.string ⟨x.toArray⟩] 9)
      go_wp2_with (at_builtin; refine wpList_appT rfl _ _ rfl w1.heap.size _ _ rfl hO1 _ rfl x (cell_litS _ _ _ _ (by simp)) hlb.out (by rw [World.size_alloc]; omega) ?_)
      intro v' w2 hO2 hG2
      have hbx := (below_a1 wr (.cells #[.string ⟨x.toArray⟩] 9)).mono hz |>.trans (hG2.below_ (by rw [World.size_alloc]; omega) hlo)
      have hB2 := hB.trans hbx
      have e0 : w2.cell? ⟨w.heap.size, 0, none⟩ = some (.slice (some ⟨b, o, none⟩) n1 c1) := (hS.below hB2 hS.lt).cell 0
      have e1 : w2.cell? ⟨b, o + k * 2 + 1, none⟩ = some (.slice A' n' c') := (hbx.cell (p := ⟨b, o + k * 2 + 1, none⟩) hb).trans g1
      have hT2 := hT.below hbx (Nat.le_refl _)
      have HA := Lib.hid (show Calls Try.prog 45 #[.slice A' n' c', .int .i64 3] _ _ from apart_any (m := 3) hT2 (Nat.le_refl _))
      rw [HH.out] at hO2
      clear hO hO1 hG2 hlo hB hbx hT hT2 s0 g0 g1
      by_cases ha : apartP L 3
      · rw [decide_eq_true ha] at HA
        have H := Lib.hid (md_step (by have := HL.out; omega) he.out ha ht.out)
        clear ha
        go_wp2_with fail
        refine HA.out.mono ?_
        rintro e w3 ⟨rfl, q, rfl⟩
        have hO3 := Lib.hid (hO2.drewN q)
        have hB3 := Lib.hid (below_drewN hB2 q)
        clear HA hO2 hB2 e0 e1
        go_wp2_with fail
        go_roundw
        case rel => exact ⟨k + 1, by omega, by go_num, hO3.out, hB3.out, H⟩
        case measure => simp [intOf]; omega
      · rw [decide_eq_false ha] at HA
        have H := Lib.hid (rm_1 (M := M) (V := V) (by have := HL.out; omega) he.out ha)
        clear ha
        go_wp2_with fail
        refine HA.out.mono ?_
        rintro e w3 ⟨rfl, q, rfl⟩
        have hB3 := Lib.hid (below_then hb0 (below_drewN hB2 q))
        clear HA hO2 hB2 e0 e1
        go_wp2_with fail
        go_ret
        exact ⟨bool_of H.out.symm, hB3.out⟩
    · have e : (D.map (·.1)).take k = D.map (·.1) := List.take_of_length_le (by have := HL.out; simp; omega)
      rw [e] at hO
      have HD := Lib.hid (all_take (by have := HL.out; omega) ht.out)
      obtain ⟨A', n', c', rfl, hT, _⟩ := hO.formN
      have HA := Lib.hid (show Calls Try.prog 45 #[.slice A' n' c', .int .i64 3] _ _ from apart_any (m := 3) hT (Nat.le_refl _))
      obtain ⟨one, h_one⟩ : ∃ q, Hid (decide (apartP (D.map (·.1)) 3) = q) := ⟨_, Lib.hid rfl⟩
      rw [h_one.out] at HA
      clear hO hT e ht
      go_wp2_with fail
      refine HA.out.mono ?_
      rintro e w3 ⟨rfl, q, rfl⟩
      have hB3 := below_drewN hB q
      have hS3 := hS.below hB3 hS.lt
      have s1 : (wr.drewN q).cell? ⟨w.heap.size, 1, none⟩ = some (.slice A2 n2 c2) := hS3.cell 1
      have HA2 := Lib.hid (show Calls Try.prog 45 #[.slice A2 n2 c2, .int .i64 2] _ _ from apart_any (m := 2) (h1.m.below hB3 (Nat.le_refl _)) (by decide))
      obtain ⟨two, h_two⟩ : ∃ q, Hid (decide (apartP M 2) = q) := ⟨_, Lib.hid rfl⟩
      rw [h_two.out] at HA2
      clear HA s0
      go_wp2_with fail
      refine HA2.out.mono ?_
      rintro e w4 ⟨rfl, q2, rfl⟩
      have hB4 := below_drewN (below_drewN hB q) q2
      have hS4 := hS.below hB4 hS.lt
      have t0 : ((wr.drewN q).drewN q2).cell? ⟨w.heap.size, 0, none⟩ = some (.slice A1 n1 c1) := hS4.cell 0
      have t1 : ((wr.drewN q).drewN q2).cell? ⟨w.heap.size, 1, none⟩ = some (.slice A2 n2 c2) := hS4.cell 1
      have t2 : ((wr.drewN q).drewN q2).cell? ⟨w.heap.size, 2, none⟩ = some (.slice A3 n3 c3) := hS4.cell 2
      clear HA2 hB3 hS3 s1 hB
      generalize (wr.drewN q).drewN q2 = w4 at hB4 hS4 t0 t1 t2 ⊢
      by_cases hall : (one = true ∧ two = true) ∧ ¬ (6 : Int) < (n3 : Int)
      · obtain ⟨⟨rfl, rfl⟩, h6⟩ := hall
        have HB := Lib.hid (refBase_any (A2 := A2) (n2 := n2) (c2 := c2) (A3 := A3) (n3 := n3) (c3 := c3) ((h1.d.below hB4 (Nat.le_refl _)).more hB4.size) hn1)
        have H6 : Hid (n3 ≤ 6) := Lib.hid (by omega)
        go_wp2_with fail
        clear t0 t1 t2
        refine HB.out.mono ?_
        rintro e w5 ⟨⟨v, rfl, hO⟩, hb5⟩
        obtain ⟨Ab, nb, cb, rfl, hI, _⟩ := hO.formN
        have hB5 := hB4.trans (hb5.mono hB4.size)
        clear hO HB hB4 hb5 hS4
        go_wp2_with fail
        go_loopw [9] (fun i wr => ∃ k : Nat, k ≤ n3 ∧ i = .int .i64 k ∧ Below w5.heap.size w5 wr ∧ Hid (∀ v ∈ V.take k, cornerP D v) ∧ Hid ((viewsP D (V.take k)).Nodup)) (fun i _ => n3 - (intOf i).toNat)
        case atStart => exact ⟨0, Nat.zero_le _, rfl, Below.refl _ _, Lib.hid (by simp), Lib.hid (by simp [viewsP])⟩
        case round =>
          obtain ⟨k2, hk2, rfl, hC, hcs, hnd⟩ := hrel
          obtain ⟨wo, rfl⟩ : ∃ wo, wo = wr := ⟨_, rfl⟩
          have hB6 := hB5.trans (hC.mono hB5.size)
          have hS6 := hS.below hB6 hS.lt
          have t0 : wo.cell? ⟨w.heap.size, 0, none⟩ = some (.slice A1 n1 c1) := hS6.cell 0
          have t1 : wo.cell? ⟨w.heap.size, 1, none⟩ = some (.slice A2 n2 c2) := hS6.cell 1
          have t2 : wo.cell? ⟨w.heap.size, 2, none⟩ = some (.slice A3 n3 c3) := hS6.cell 2
          by_cases hlt2 : k2 < n3
          · obtain ⟨b, o, A', n', c', l, rfl, hb, g0, hl, he⟩ := (h1.v.below hB6 (Nat.le_refl _)).at_ hlt2
            have i0 : (0 : Int) ≤ (k2 : Int) := by omega
            have i1 : (k2 : Int) < (n3 : Int) := by omega
            have HW := Lib.hid (show ∀ W, Below w5.heap.size w5 W → (W.cell? ⟨w.heap.size, 0, none⟩ = some (.slice A1 n1 c1) ∧ W.cell? ⟨w.heap.size, 1, none⟩ = some (.slice A2 n2 c2) ∧ W.cell? ⟨w.heap.size, 2, none⟩ = some (.slice (some ⟨b, o, none⟩) n3 c3)) ∧ W.cell? ⟨b, o + k2, none⟩ = some (.slice A' n' c') ∧ HasI W W.heap.size A' n' c' l ∧ HasI W W.heap.size Ab nb cb (baseP D) ∧ HasDs W W.heap.size A1 n1 c1 D ∧ HasL W W.heap.size (some ⟨b, o, none⟩) n3 c3 V from fun W hW => by
              have hBW := hB5.trans (hW.mono hB5.size)
              have hSW := hS.below hBW hS.lt
              have hlW := (h1.v.below hBW (Nat.le_refl _)).more hBW.size
              obtain ⟨b9, o9, A9, n9, c9, l9, e9, _, g9, hl9, he9⟩ := (h1.v.below hBW (Nat.le_refl _)).at_ hlt2
              obtain ⟨rfl, rfl⟩ : b = b9 ∧ o = o9 := by simpa using e9
              have hw0 : W.cell? ⟨b, o + k2, none⟩ = some (.slice A' n' c') := ((hBW.cell (p := ⟨b, o + k2, none⟩) hb).trans (hB6.cell (p := ⟨b, o + k2, none⟩) hb).symm).trans g0
              have e2 : Value.slice A9 n9 c9 = .slice A' n' c' := Option.some.inj (g9.symm.trans hw0)
              injection e2 with e3 e4 e5
              subst e3 e4 e5
              obtain rfl : l = l9 := he.out.trans he9.out.symm
              exact ⟨⟨hSW.cell 0, hSW.cell 1, hSW.cell 2⟩, hw0, hl9.more hBW.size, (hI.below hW (Nat.le_refl _)).more hW.size, (h1.d.below hBW (Nat.le_refl _)).more hBW.size, hlW⟩)
            have HCo := Lib.hid fun (y : Bel wo) => y.calls fun W hw => refCorner_any (A2 := A2) (n2 := n2) (c2 := c2) (A3 := some ⟨b, o, none⟩) (n3 := n3) (c3 := c3) (HW.out W (hC.trans (hw.mono hC.size))).2.2.2.2.1 (HW.out W (hC.trans (hw.mono hC.size))).2.2.1
            have k0 : ∀ y : Bel wo, y.w.cell? ⟨w.heap.size, 0, none⟩ = some (.slice A1 n1 c1) := fun y => y.cell t0
            have k1 : ∀ y : Bel wo, y.w.cell? ⟨w.heap.size, 1, none⟩ = some (.slice A2 n2 c2) := fun y => y.cell t1
            have k3 : ∀ y : Bel wo, y.w.cell? ⟨w.heap.size, 2, none⟩ = some (.slice (some ⟨b, o, none⟩) n3 c3) := fun y => y.cell t2
            have k4 : ∀ y : Bel wo, y.w.cell? ⟨b, o + k2, none⟩ = some (.slice A' n' c') := fun y => y.cell g0
            obtain ⟨cb1, hcb⟩ : ∃ q, Hid (decide (cornerP D l) = q) := ⟨_, Lib.hid rfl⟩
            rw [hcb.out] at HCo
            clear hl hS6 hB6
            go_wp2_with fail
            refine wp_region_below (by kernel_rfl) (by kernel_rfl) ?_
            repeat (go_big_quiet_step ((go_at_call 47; exact HCo.out _)))
            refine wpQuiet_nil ?_
            rintro _ ⟨y7, rfl⟩
            have hb7 := y7.b
            generalize y7.w = w7 at hb7 ⊢
            have hC7 := hC.trans (hb7.mono hC.size)
            obtain ⟨⟨_, _, u2⟩, u3, u4, u5, _⟩ := HW.out w7 hC7
            have HSa := Lib.hid (sameI_any u4 u5)
            obtain ⟨sb1, hsb⟩ : ∃ q, Hid (decide (l = baseP D) = q) := ⟨_, Lib.hid rfl⟩
            rw [hsb.out] at HSa
            clear HCo k0 k1 k3 k4 t0 t1 t2 g0 hb7 hC u4 u5
            go_wp2_with fail
            refine HSa.out.mono ?_
            rintro e w8 ⟨rfl, q3, rfl⟩
            have hC8 := below_drewN hC7 q3
            clear HSa u2 u3 hC7
            by_cases hgo : cb1 = true ∧ sb1 = false
            · obtain ⟨rfl, rfl⟩ := hgo
              have HX := Lib.hid (of_decide_eq_true hcb.out)
              have HY := Lib.hid (of_decide_eq_false hsb.out)
              have H := Lib.hid (mv_step (by have := HV.out; omega) he.out HX.out hcs.out)
              go_wp2_with fail
              go_loopw [12] (fun i wr => ∃ j : Nat, j ≤ k2 ∧ i = .int .i64 j ∧ Below w5.heap.size w5 wr ∧ Hid (∀ t, t < j → ¬ V.getD t [] = l)) (fun i _ => k2 - (intOf i).toNat)
              case atStart => exact ⟨0, Nat.zero_le _, rfl, hC8, Lib.hid fun t ht => absurd ht (by omega)⟩
              case round =>
                obtain ⟨j, hj, rfl, hC, hne⟩ := hrel
                clear hC8
                by_cases hjk : j < k2
                · obtain ⟨⟨_, _, u2⟩, u3, u4, _, _, u6⟩ := HW.out wr hC
                  obtain ⟨b9, o9, A9, n9, c9, l9, e9, _, g9, hl9, he9⟩ := u6.at_ (show j < n3 by omega)
                  obtain ⟨rfl, rfl⟩ : b = b9 ∧ o = o9 := by simpa using e9
                  have j0 : (0 : Int) ≤ (j : Int) := by omega
                  have j1 : (j : Int) < (n3 : Int) := by omega
                  have j2 : (j : Int) < (k2 : Int) := by omega
                  have HS2 := Lib.hid fun (y : Bel wr) => y.calls fun W hw => toB (sameI_any (hl9.below hw (Nat.le_refl _)) (u4.below hw (Nat.le_refl _)))
                  have k3 : ∀ y : Bel wr, y.w.cell? ⟨w.heap.size, 2, none⟩ = some (.slice (some ⟨b, o, none⟩) n3 c3) := fun y => y.cell u2
                  have k4 : ∀ y : Bel wr, y.w.cell? ⟨b, o + k2, none⟩ = some (.slice A' n' c') := fun y => y.cell u3
                  have k5 : ∀ y : Bel wr, y.w.cell? ⟨b, o + j, none⟩ = some (.slice A9 n9 c9) := fun y => y.cell g9
                  clear u2 u3 u4 u6 e9 g9 hl9
                  by_cases hll : l9 = l
                  · have HZ := Lib.hid (rm_3 (D := D) (M := M) (by have := HV.out; omega) he.out (.inr (.inr ⟨j, hjk, he9.out.symm.trans hll⟩)))
                    rw [decide_eq_true hll] at HS2
                    clear hll
                    go_wp2_with fail
                    refine wp_region_below (by kernel_rfl) (by kernel_rfl) ?_
                    repeat (go_big_quiet_step ((go_at_call 10; exact HS2.out _)))
                    refine wpQuiet_nil ?_
                    rintro _ ⟨⟨w9, hb9⟩, rfl⟩
                    have HB9 := Lib.hid (below_then hb0 (hB5.trans ((hC.trans (hb9.mono hC.size)).mono hB5.size)))
                    clear HS2 k3 k4 k5 hb9
                    go_wp2_with fail
                    go_ret
                    exact ⟨bool_of HZ.out.symm, HB9.out⟩
                  · have HN : Hid (∀ t, t < j + 1 → ¬ V.getD t [] = l) := Lib.hid fun t ht => by
                      by_cases h : t < j
                      · exact hne.out t h
                      · obtain rfl : t = j := by omega
                        rw [← he9.out]; exact hll
                    rw [decide_eq_false hll] at HS2
                    clear hll
                    go_wp2_with fail
                    refine wp_region_below (by kernel_rfl) (by kernel_rfl) ?_
                    repeat (go_big_quiet_step ((go_at_call 10; exact HS2.out _)))
                    refine wpQuiet_nil ?_
                    rintro _ ⟨⟨w9, hb9⟩, rfl⟩
                    have HB9 := Lib.hid (hC.trans (hb9.mono hC.size))
                    clear HS2 k3 k4 k5 hb9
                    go_wp2_with fail
                    go_roundw
                    case rel => exact ⟨j + 1, by omega, by go_num, HB9.out, HN⟩
                    case measure => simp [intOf]; omega
                · obtain rfl : j = k2 := by omega
                  have HN := Lib.hid (rm_step (D := D) (by have := HV.out; omega) he.out hnd.out HY.out hne.out)
                  have HC := Lib.hid hC
                  clear hC
                  go_wp2_with fail
                  go_roundw
                  case rel => exact ⟨j + 1, by omega, by go_num, HC.out, H, HN⟩
                  case measure => simp [intOf]; omega
            · have HZ : Hid (decide (mayS D M V) = false) := Lib.hid (rm_3 (by have := HV.out; omega) he.out (by
                by_cases h : cb1 = true
                · right; left
                  have : sb1 = true := by
                    rcases Bool.eq_false_or_eq_true sb1 with h2 | h2
                    · exact h2
                    · exact absurd ⟨h, h2⟩ hgo
                  exact of_decide_eq_true (hsb.out.trans this)
                · left
                  rw [Bool.not_eq_true] at h
                  exact of_decide_eq_false (hcb.out.trans h)))
              have HB9 := Lib.hid (below_then hb0 (hB5.trans (hC8.mono hB5.size)))
              cases cb1
              · go_wp2_with fail
                go_ret
                exact ⟨bool_of HZ.out.symm, HB9.out⟩
              · cases sb1
                · exact absurd ⟨rfl, rfl⟩ hgo
                · clear hgo
                  go_wp2_with fail
                  go_ret
                  exact ⟨bool_of HZ.out.symm, HB9.out⟩
          · have HZ := Lib.hid (rm_end (M := M) (k := k2) (by have := HV.out; omega) (by have := HV.out; have := H6.out; omega) HD.out (of_decide_eq_true h_one.out) (of_decide_eq_true h_two.out) hcs.out hnd.out)
            have HB9 := Lib.hid (below_then hb0 hB6)
            clear hS6 hB6
            go_wp2_with fail
            go_ret
            exact ⟨bool_of HZ.out.symm, HB9.out⟩
      · have HZ : Hid (decide (mayS D M V) = false) := Lib.hid (rm_2 (by
          by_cases h1 : one = true
          · by_cases h2 : two = true
            · right; right
              have : (6 : Int) < (n3 : Int) := by
                rcases Int.lt_or_le 6 (n3 : Int) with h | h
                · exact h
                · exact absurd ⟨⟨h1, h2⟩, by omega⟩ hall
              rw [HV.out]; omega
            · right; left
              rw [Bool.not_eq_true] at h2
              exact of_decide_eq_false (h_two.out.trans h2)
          · left
            rw [Bool.not_eq_true] at h1
            exact of_decide_eq_false (h_one.out.trans h1)))
        have HB9 := Lib.hid (below_then hb0 hB4)
        cases one
        · clear hall
          go_wp2_with fail
          go_ret
          exact ⟨bool_of HZ.out.symm, HB9.out⟩
        · cases two
          · clear hall
            go_wp2_with fail
            go_ret
            exact ⟨bool_of HZ.out.symm, HB9.out⟩
          · have h6 : (6 : Int) < (n3 : Int) := by
              rcases Int.lt_or_le 6 (n3 : Int) with h | h
              · exact h
              · exact absurd ⟨⟨rfl, rfl⟩, by omega⟩ hall
            clear hall
            go_wp2_with fail
            go_ret
            exact ⟨bool_of HZ.out.symm, HB9.out⟩
end Go.Proofs.Ytfddaegepmdohaa
