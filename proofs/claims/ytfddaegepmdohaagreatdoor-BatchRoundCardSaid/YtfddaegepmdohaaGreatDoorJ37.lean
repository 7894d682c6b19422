/- SchemaV -/
import Derived.Test.YtfddaegepmdohaaGreatDoorJ13
import Derived.Test.YtfddaegepmdohaaGreatDoorJ35
import Derived.Lib.SliceRun
namespace Go.Proofs.YtfddaegepmdohaaGreatDoor
set_option maxRecDepth 100000
open Go.RowKit Go.Maps

theorem may_1 {D : List PDim} {M : List Txt} {V : List (List Int)} (h : ¬ mayDP D) : decide (mayS D M V) = false := by
  rw [decide_eq_false_iff_not]; exact fun h' => h h'.1
theorem may_2 {D : List PDim} {M : List Txt} {V : List (List Int)} (h : ¬ apartP M 2) : decide (mayS D M V) = false := by
  rw [decide_eq_false_iff_not]; exact fun h' => h h'.2.1
theorem may_3 {D : List PDim} {M : List Txt} {V : List (List Int)} (h : mayDP D) (h' : apartP M 2) : decide (mayVP D V) = decide (mayS D M V) := by
  by_cases hv : mayVP D V
  · rw [decide_eq_true hv, decide_eq_true (show mayS D M V from ⟨h, h', hv⟩)]
  · rw [decide_eq_false hv, decide_eq_false (show ¬ mayS D M V from fun h => hv h.2.2)]
theorem mayD_3 {D : List PDim} (h : mayDP D) : D.length ≤ 3 := by have := h.2.2.1; simpa using this
set_option maxRecDepth 100000 in
set_option maxHeartbeats 1000000 in
/-- May. -/
theorem maySchema_any {A1 A2 A3 : Option Addr} {n1 c1 n2 c2 n3 c3 : Nat} {D : List PDim} {M : List Txt} {V : List (List Int)} {w : World} (h : HasS w w.heap.size A1 n1 c1 A2 n2 c2 A3 n3 c3 D M V) (hf : FitD D) (hm : ∀ s ∈ M, s.length ≤ maxLen) (hn1 : n1 ≤ 1000) :
    Calls Tryz.prog 47 #[schV A1 n1 c1 A2 n2 c2 A3 n3 c3] w fun e w' => e = .returned (.bool (decide (mayS D M V))) ∧ Below w.heap.size w w' := by
  have hb0 := below_a1 w (.cells #[.slice A1 n1 c1, .slice A2 n2 c2, .slice A3 n3 c3] 67)
  have h1 := h.belowS hb0
  have hS := Block.new w 67 #[.slice A1 n1 c1, .slice A2 n2 c2, .slice A3 n3 c3]
  have HD := Lib.hid (mayDims_any h1.d hf hn1)
  have HM := Lib.hid hm
  clear h hm
  by_cases hd : mayDP D
  · rw [decide_eq_true hd] at HD
    have HX := Lib.hid hd
    clear hd
    go_enter Tryz.func47, Tryz.ntmps47
    go_wp2_with fail
    generalize w.alloc (.cells #[.slice A1 n1 c1, .slice A2 n2 c2, .slice A3 n3 c3] 67) = w1 at hb0 h1 hS HD ⊢
    refine HD.out.mono ?_
    rintro e w2 ⟨rfl, hb2⟩
    have h2 := h1.belowS hb2
    have hS2 := hS.below hb2 hS.lt
    have hb3 := below_then hb0 hb2
    have s1 : w2.cell? ⟨w.heap.size, 1, none⟩ = some (.slice A2 n2 c2) := hS2.cell 1
    have HN := Lib.hid (show Calls Tryz.prog 59 #[.slice A2 n2 c2, .int .i64 2] _ _ from mayNames_any (m := 2) h2.m HM.out (by decide))
    clear HD hb2 hb0 h1 hS
    by_cases ha : apartP M 2
    · rw [decide_eq_true ha] at HN
      have HA := Lib.hid ha
      clear ha
      go_wp2_with fail
      refine HN.out.mono ?_
      rintro e w3 ⟨rfl, hb4⟩
      have h3 := h2.belowS hb4
      have hS3 := hS2.below hb4 hS2.lt
      have hb5 := below_then hb3 hb4
      have s0 : w3.cell? ⟨w.heap.size, 0, none⟩ = some (.slice A1 n1 c1) := hS3.cell 0
      have s4 : w3.cell? ⟨w.heap.size, 1, none⟩ = some (.slice A2 n2 c2) := hS3.cell 1
      have s2 : w3.cell? ⟨w.heap.size, 2, none⟩ = some (.slice A3 n3 c3) := hS3.cell 2
      have HV := Lib.hid (mayViews_any h3 (mayD_3 HX.out))
      have H := Lib.hid (may_3 (V := V) HX.out HA.out)
      rw [H.out] at HV
      clear s1 HN hb4 hb3 h2 hS2 H
      go_wp2_with fail
      refine HV.out.mono ?_
      rintro e w4 ⟨rfl, hb6⟩
      have hb7 := below_then hb5 hb6
      clear s0 s4 s2 HV hb6
      go_wp2_with fail
      go_ret
      exact ⟨rfl, hb7⟩
    · rw [decide_eq_false ha] at HN
      have H := Lib.hid (may_2 (D := D) (V := V) ha)
      clear ha
      go_wp2_with fail
      refine HN.out.mono ?_
      rintro e w3 ⟨rfl, hb4⟩
      have hb5 := below_then hb3 hb4
      clear s1 HN hb4
      go_wp2_with fail
      go_ret
      exact ⟨bool_of H.out.symm, hb5⟩
  · rw [decide_eq_false hd] at HD
    have H := Lib.hid (may_1 (M := M) (V := V) hd)
    clear hd
    go_enter Tryz.func47, Tryz.ntmps47
    go_wp2_with fail
    refine HD.out.mono ?_
    rintro e w2 ⟨rfl, hb2⟩
    have hb3 := below_then hb0 hb2
    clear HD
    go_wp2_with fail
    go_ret
    exact ⟨bool_of H.out.symm, hb3⟩

/-! ### Clones -/
theorem OwnI.empty (w : World) : OwnI (w.alloc (.cells #[] 3)) w.heap.size (.slice (some ⟨w.heap.size, 0, none⟩) 0 0) [] :=
  ⟨rfl, .inr ⟨w.heap.size, 0, #[], rfl, Nat.le_refl _, heap_alloc_new w _, Nat.le_refl _, Nat.zero_le _, rfl, rfl⟩⟩
/-! ### Rows of rows of the call's own -/
def OwnLs (w : World) (base : Nat) (v : Value) (Q : List (List Int)) : Prop :=
  ∃ vs : List Value, w.ownsRow base 46 1 v Q.length vs ∧ ∀ (i : Nat) (q : List Int), Q[i]? = some q → ∃ x, vs[i]? = some x ∧ OwnI w base x q
section
variable {w w' : World} {base : Nat} {v : Value} {Q : List (List Int)}
theorem OwnLs.nil_ (w : World) (base : Nat) : OwnLs w base (.slice none 0 0) [] := ⟨[], World.ownsRow_nil w base _ 1, fun i q h => by simp at h⟩
theorem OwnLs.low {base' : Nat} (h : OwnLs w base v Q) (hb : base' ≤ base) : OwnLs w base' v Q := by
  obtain ⟨vs, h1, h2⟩ := h
  exact ⟨vs, row_low h1 hb, fun i q hi => by obtain ⟨x, e, hx⟩ := h2 i q hi; exact ⟨x, e, hx.low hb⟩⟩
theorem OwnLs.lt (h : OwnLs w base v Q) : ∀ k, v.ownBlock = some k → base ≤ k ∧ k < w.heap.size := by
  obtain ⟨vs, h1, _⟩ := h
  exact World.ownsRow.lt h1
theorem OwnLs.below (h : OwnLs w base v Q) (hb : Below w.heap.size w w') : OwnLs w' base v Q := by
  obtain ⟨vs, h1, h2⟩ := h
  exact ⟨vs, row_below h1 hb, fun i q hi => by obtain ⟨x, e, hx⟩ := h2 i q hi; exact ⟨x, e, OwnI.below hx hb (Nat.le_refl _)⟩⟩
theorem OwnLs.alloc (h : OwnLs w base v Q) (o : Obj) : OwnLs (w.alloc o) base v Q := h.below (below_a1 w o)
theorem OwnLs.form (h : OwnLs w base v Q) : ∃ A c, v = .slice A Q.length c ∧ HasL w w.heap.size A Q.length c Q := by
  obtain ⟨vs, h1, h2⟩ := h
  rcases h1.2 with ⟨rfl, h0⟩ | ⟨g, cap, cur, rfl, hb, hg, hnc, hcm, hcs, ht⟩
  · rw [h0]
    exact ⟨none, 0, rfl, h0, Nat.le_refl _, Nat.zero_le _, fun _ => rfl, fun i h => absurd h (by omega)⟩
  · refine ⟨_, cap, rfl, rfl, hnc, hcm, (fun h => by cases h), fun i hi => ?_⟩
    obtain ⟨x, e, hx⟩ := h2 i _ (List.getElem?_eq_getElem hi)
    obtain ⟨A', c', rfl, hT, _⟩ := hx.form
    have hc := World.ownsRow.cells h1 (g := g) rfl i _ e
    rw [add_flat] at hc
    refine ⟨g, 0, A', _, c', rfl, (Array.getElem?_eq_some_iff.1 hg).1, hc, ?_⟩
    rw [List.getD_eq_getElem?_getD, List.getElem?_eq_getElem hi]
    exact hT
/-- A row of ints of the call's own elsewhere stays while this row grows. -/
theorem OwnLs.kept_row (h : OwnLs w base v Q) {B : Nat} {x : Value} {q : List Int} (hx : OwnI w B x q) (hg : w.grownBy w' v.ownBlock) : OwnI w' B x q := by
  obtain ⟨vs, h1, _⟩ := h
  exact World.ownsRow.kept hx hg (row_ne hx h1 (by decide))
end
section
variable {w : World} {ops : Array Oper} {rest : List Oper} {o : Oper} {a : Act} {K : Exit → Act → World → Prop}
/-- One row more. -/
theorem wpList_appLs (hgd : o.guard = none) (s x : Operand)
    (ho : o.op = .call { callee := .builtin .append, args := #[s, x], argTypes := #[65, 65] })
    (base : Nat) (v : Value) (Q : List (List Int)) (hs : a.eval s = v) (hown : OwnLs w base v Q) (g : Nat) (hx : a.eval x = .slice (some ⟨g, 0, none⟩) 1 1) (y : Value) (q : List Int) (hy : w.cell? ⟨g, 0, none⟩ = some y) (hyo : OwnI w base y q) (hl : Q.length ≤ 1000000) (hbase : base ≤ w.heap.size)
    (h : ∀ v' w', OwnLs w' base v' (Q ++ [q]) → Grew w v w' v' → wpList Tryz.prog ops K rest (a.put o.dst v') w') : wpList Tryz.prog ops K (o :: rest) a w := by
  obtain ⟨i, hi, hz0, hz1, hz2⟩ := info_parts info_ints
  have hown0 := hown
  obtain ⟨vs, h1, h2⟩ := hown
  have hvl : vs.length = Q.length := by have := h1.1; omega
  have hone : y.oneCell' = true := by obtain ⟨A', c', rfl, _⟩ := hyo.form; rfl
  refine wpList_append_own_at w hgd s x 65 ho base 46 i _ 1 24 Tryz.underlying65 hi hz0 hz1 hz2 rfl (by decide) v Q.length vs hs h1 ⟨g, 0, none⟩ 1 1 [y] hx rfl (fun j u hj => ?_) (fun u hu => ?_) (by unfold maxLen; omega) (by omega) hbase ?_
  · match j, hj with
    | 0, hj => simp at hj; subst hj; rw [add_flat]; exact hy
    | (j + 1), hj => simp at hj
  · simp at hu; subst hu; exact hone
  · intro v' w' e1 e2 _ e4
    refine h v' w' ⟨vs ++ [y], by simpa using e1, fun i q' hi => ?_⟩ ⟨e2, fun k hk => ?_⟩
    · by_cases hlt : i < Q.length
      · rw [List.getElem?_append_left hlt] at hi
        obtain ⟨x', e, hx'⟩ := h2 i q' hi
        exact ⟨x', by rw [List.getElem?_append_left (by omega)]; exact e, hown0.kept_row hx' e2⟩
      · have hie : i = Q.length := by
          have := (List.getElem?_eq_some_iff.1 hi).1
          simp at this
          omega
        subst hie
        simp at hi
        subst hi
        exact ⟨y, by rw [List.getElem?_append_right (by omega), hvl]; simp, hown0.kept_row hyo e2⟩
    · rcases e4 with e4 | e4
      · exact .inl (e4 ▸ hk)
      · rw [e4] at hk
        injection hk with hk
        exact .inr (Nat.le_of_eq hk)
end
/-- A fresh one of one row. -/
theorem OwnLs.lit {w : World} {base : Nat} {x : Value} {q : List Int} (h : OwnI w base x q) (g : Nat) (hg : g = w.heap.size) (hb : base ≤ g) : OwnLs (w.alloc (.cells #[x] 46)) base (.slice (some ⟨g, 0, none⟩) 1 1) [q] := by
  subst hg
  refine ⟨[x], ⟨rfl, .inr ⟨w.heap.size, 1, #[x], rfl, hb, heap_alloc_new w _, Nat.le_refl _, by decide, rfl, rfl⟩⟩, fun i q' hi => ?_⟩
  match i, hi with
  | 0, hi => simp at hi; subst hi; exact ⟨x, rfl, h.alloc _⟩
  | (i + 1), hi => simp at hi
/-- What a call tells that tells new rows of ints. -/
def TellLs (w : World) (Q : List (List Int)) (e : Ending) (w' : World) : Prop := (∃ v, e = .returned v ∧ OwnLs w' w.heap.size v Q) ∧ Below w.heap.size w w'
theorem views_snoc {D : List PDim} {V : List (List Int)} {k : Nat} {l : List Int} (hk : k < V.length) (he : l = V.getD k []) : viewsP D (V.take k) ++ [l] = viewsP D (V.take (k + 1)) := by
  unfold viewsP
  rw [List.take_succ_eq_append_getElem hk, he, List.getD_eq_getElem?_getD, List.getElem?_eq_getElem hk]
  rfl
theorem views_len {D : List PDim} {V : List (List Int)} {k : Nat} (hk : k ≤ 1000) : (viewsP D (V.take k)).length ≤ 1000000 := by
  have := List.length_take_le k V
  simp [viewsP]; omega
end Go.Proofs.YtfddaegepmdohaaGreatDoor
