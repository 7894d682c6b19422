/- Layer 8: May; a row's clone; rows of rows of ints of the call's own; Views. -/
import Derived.Test.YtbiogldapodhmaaSchemaC
import Derived.Test.YtbiogldapodhmaaListsA
import Derived.Lib.SliceRun
namespace Go.Proofs.Ytbiogldapodhmaa
open Go.RowKit Go.Maps

theorem may_1 {D : List PDim} {M : List Txt} {V : List (List Int)} (h : ¬ mayDP D) : decide (mayS D M V) = false := by
  rw [decide_eq_false_iff_not]; exact fun h' => h h'.1
theorem may_2 {D : List PDim} {M : List Txt} {V : List (List Int)} (h : ¬ apartP M 2) : decide (mayS D M V) = false := by
  rw [decide_eq_false_iff_not]; exact fun h' => h h'.2.1
theorem may_3 {D : List PDim} {M : List Txt} {V : List (List Int)} (h : mayDP D) (h' : apartP M 2) : decide (mayVP D V) = decide (mayS D M V) := by
  by_cases hv : mayVP D V
  · rw [decide_eq_true hv, decide_eq_true (show mayS D M V from ⟨h, h', hv⟩)]
  · rw [decide_eq_false hv, decide_eq_false (show ¬ mayS D M V from fun h => hv h.2.2)]
theorem mayD_3 {D : List PDim} (h : mayDP D) : D.length ≤ 3 := by have := h.2.2.1; simpa using this
set_option maxRecDepth 100000 in
set_option maxHeartbeats 1000000 in
/-- May. -/
theorem maySchema_any {A1 A2 A3 : Option Addr} {n1 c1 n2 c2 n3 c3 : Nat} {D : List PDim} {M : List Txt} {V : List (List Int)} {w : World} (h : HasS w w.heap.size A1 n1 c1 A2 n2 c2 A3 n3 c3 D M V) (hf : FitD D) (hm : ∀ s ∈ M, s.length ≤ maxLen) (hn1 : n1 ≤ 1000) :
    Calls Try.prog 11 #[schV A1 n1 c1 A2 n2 c2 A3 n3 c3] w fun e w' => e = .returned (.bool (decide (mayS D M V))) ∧ Below w.heap.size w w' := by
  have hb0 := below_a1 w (.cells #[.slice A1 n1 c1, .slice A2 n2 c2, .slice A3 n3 c3] 26)
  have h1 := h.belowS hb0
  have hS := Block.new w 26 #[.slice A1 n1 c1, .slice A2 n2 c2, .slice A3 n3 c3]
  have HD := Lib.hid (mayDims_any h1.d hf hn1)
  have HM := Lib.hid hm
  clear h hm
  by_cases hd : mayDP D
  · rw [decide_eq_true hd] at HD
    have HX := Lib.hid hd
    clear hd
    go_enter Try.func11, Try.ntmps11
    go_wp2_with fail
    generalize w.alloc (.cells #[.slice A1 n1 c1, .slice A2 n2 c2, .slice A3 n3 c3] 26) = w1 at hb0 h1 hS HD ⊢
    refine HD.out.mono ?_
    rintro e w2 ⟨rfl, hb2⟩
    have h2 := h1.belowS hb2
    have hS2 := hS.below hb2 hS.lt
    have hb3 := below_then hb0 hb2
    have s1 : w2.cell? ⟨w.heap.size, 1, none⟩ = some (.slice A2 n2 c2) := hS2.cell 1
    have HN := Lib.hid (show Calls Try.prog 31 #[.slice A2 n2 c2, .int .i64 2] _ _ from mayNames_any (m := 2) h2.m HM.out (by decide))
    clear HD hb2 hb0 h1 hS
    by_cases ha : apartP M 2
    · rw [decide_eq_true ha] at HN
      have HA := Lib.hid ha
      clear ha
      go_wp2_with fail
      refine HN.out.mono ?_
      rintro e w3 ⟨rfl, hb4⟩
      have h3 := h2.belowS hb4
      have hS3 := hS2.below hb4 hS2.lt
      have hb5 := below_then hb3 hb4
      have s0 : w3.cell? ⟨w.heap.size, 0, none⟩ = some (.slice A1 n1 c1) := hS3.cell 0
      have s4 : w3.cell? ⟨w.heap.size, 1, none⟩ = some (.slice A2 n2 c2) := hS3.cell 1
      have s2 : w3.cell? ⟨w.heap.size, 2, none⟩ = some (.slice A3 n3 c3) := hS3.cell 2
      have HV := Lib.hid (mayViews_any h3 (mayD_3 HX.out))
      have H := Lib.hid (may_3 (V := V) HX.out HA.out)
      rw [H.out] at HV
      clear s1 HN hb4 hb3 h2 hS2 H
      go_wp2_with fail
      refine HV.out.mono ?_
      rintro e w4 ⟨rfl, hb6⟩
      have hb7 := below_then hb5 hb6
      clear s0 s4 s2 HV hb6
      go_wp2_with fail
      go_ret
      exact ⟨rfl, hb7⟩
    · rw [decide_eq_false ha] at HN
      have H := Lib.hid (may_2 (D := D) (V := V) ha)
      clear ha
      go_wp2_with fail
      refine HN.out.mono ?_
      rintro e w3 ⟨rfl, hb4⟩
      have hb5 := below_then hb3 hb4
      clear s1 HN hb4
      go_wp2_with fail
      go_ret
      exact ⟨bool_of H.out.symm, hb5⟩
  · rw [decide_eq_false hd] at HD
    have H := Lib.hid (may_1 (M := M) (V := V) hd)
    clear hd
    go_enter Try.func11, Try.ntmps11
    go_wp2_with fail
    refine HD.out.mono ?_
    rintro e w2 ⟨rfl, hb2⟩
    have hb3 := below_then hb0 hb2
    clear HD
    go_wp2_with fail
    go_ret
    exact ⟨bool_of H.out.symm, hb3⟩

/-! ### Clones -/
theorem OwnI.empty (w : World) : OwnI (w.alloc (.cells #[] 3)) w.heap.size (.slice (some ⟨w.heap.size, 0, none⟩) 0 0) [] :=
  ⟨rfl, .inr ⟨w.heap.size, 0, #[], rfl, Nat.le_refl _, heap_alloc_new w _, Nat.le_refl _, Nat.zero_le _, rfl, rfl⟩⟩
set_option maxRecDepth 100000 in
/-- slices.Clone of ints: nothing stays nothing. -/
theorem cloneI_any {A : Option Addr} {n c : Nat} {l : List Int} {w : World} (hr : HasI w w.heap.size A n c l) (hn : n ≤ 1000000) :
    Calls Try.prog 34 #[.slice A n c] w (TellJ w l) := by
  rcases A with _ | ad
  · obtain rfl := hr.void rfl
    obtain rfl : n = 0 := by have := hr.cap; omega
    obtain rfl : l = [] := List.eq_nil_of_length_eq_zero hr.len
    have q : ∀ W, (binOp .eql 30 (.slice none 0 0) (.slice none 0 0)).run Try.prog W = .ok (.bool true) W := fun W => Lib.run_eql_slice_nil W _ _ none 0 0 0 0 Try.underlying30
    go_enter Try.func34, Try.ntmps34
    go_wp2
    go_ret
    exact ⟨⟨_, rfl, OwnI.nil_ _ _⟩, Below.refl _ _⟩
  · have q : ∀ W, (binOp .eql 30 (.slice (some ad) n c) (.slice none 0 0)).run Try.prog W = .ok (.bool false) W := fun W => Lib.run_eql_slice_nil W _ _ (some ad) n c 0 0 Try.underlying30
    have hr1 := hr.alloc (Nat.le_refl _) (.cells #[] 3)
    have Hn := Lib.hid (show (([] : List Int).length + n) * 8 ≤ 140737488355328 by simp; omega)
    clear hn
    go_enter Try.func34, Try.ntmps34
    go_wp2_with (at_builtin; refine wpList_appIs rfl _ _ rfl w.heap.size _ [] rfl (OwnI.empty w) w.heap.size _ n _ l rfl hr1 Hn.out (by simp) ?_)
    intro v2 w2 ho2 hg2
    have hb2 : Below w.heap.size w w2 := ((Below.refl _ _).alloc (Nat.le_refl _) (.cells #[] 3)).trans (hg2.below_ (by simp) (fun k hk => by injection hk with hk; subst hk; exact Nat.le_refl _))
    have H := Lib.hid ho2
    clear ho2 hg2
    go_wp2
    go_ret
    exact ⟨⟨v2, rfl, H.out⟩, hb2⟩

/-! ### Rows of rows of the call's own -/
def OwnLs (w : World) (base : Nat) (v : Value) (Q : List (List Int)) : Prop :=
  ∃ vs : List Value, w.ownsRow base 30 1 v Q.length vs ∧ ∀ (i : Nat) (q : List Int), Q[i]? = some q → ∃ x, vs[i]? = some x ∧ OwnI w base x q
section
variable {w w' : World} {base : Nat} {v : Value} {Q : List (List Int)}
theorem OwnLs.nil_ (w : World) (base : Nat) : OwnLs w base (.slice none 0 0) [] := ⟨[], World.ownsRow_nil w base _ 1, fun i q h => by simp at h⟩
theorem OwnLs.low {base' : Nat} (h : OwnLs w base v Q) (hb : base' ≤ base) : OwnLs w base' v Q := by
  obtain ⟨vs, h1, h2⟩ := h
  exact ⟨vs, row_low h1 hb, fun i q hi => by obtain ⟨x, e, hx⟩ := h2 i q hi; exact ⟨x, e, hx.low hb⟩⟩
theorem OwnLs.lt (h : OwnLs w base v Q) : ∀ k, v.ownBlock = some k → base ≤ k ∧ k < w.heap.size := by
  obtain ⟨vs, h1, _⟩ := h
  exact World.ownsRow.lt h1
theorem OwnLs.below (h : OwnLs w base v Q) (hb : Below w.heap.size w w') : OwnLs w' base v Q := by
  obtain ⟨vs, h1, h2⟩ := h
  exact ⟨vs, row_below h1 hb, fun i q hi => by obtain ⟨x, e, hx⟩ := h2 i q hi; exact ⟨x, e, OwnI.below hx hb (Nat.le_refl _)⟩⟩
theorem OwnLs.alloc (h : OwnLs w base v Q) (o : Obj) : OwnLs (w.alloc o) base v Q := h.below (below_a1 w o)
theorem OwnLs.form (h : OwnLs w base v Q) : ∃ A c, v = .slice A Q.length c ∧ HasL w w.heap.size A Q.length c Q := by
  obtain ⟨vs, h1, h2⟩ := h
  rcases h1.2 with ⟨rfl, h0⟩ | ⟨g, cap, cur, rfl, hb, hg, hnc, hcm, hcs, ht⟩
  · rw [h0]
    exact ⟨none, 0, rfl, h0, Nat.le_refl _, Nat.zero_le _, fun _ => rfl, fun i h => absurd h (by omega)⟩
  · refine ⟨_, cap, rfl, rfl, hnc, hcm, (fun h => by cases h), fun i hi => ?_⟩
    obtain ⟨x, e, hx⟩ := h2 i _ (List.getElem?_eq_getElem hi)
    obtain ⟨A', c', rfl, hT, _⟩ := hx.form
    have hc := World.ownsRow.cells h1 (g := g) rfl i _ e
    rw [add_flat] at hc
    refine ⟨g, 0, A', _, c', rfl, (Array.getElem?_eq_some_iff.1 hg).1, hc, ?_⟩
    rw [List.getD_eq_getElem?_getD, List.getElem?_eq_getElem hi]
    exact hT
/-- A row of ints of the call's own elsewhere stays while this row grows. -/
theorem OwnLs.kept_row (h : OwnLs w base v Q) {B : Nat} {x : Value} {q : List Int} (hx : OwnI w B x q) (hg : w.grownBy w' v.ownBlock) : OwnI w' B x q := by
  obtain ⟨vs, h1, _⟩ := h
  exact World.ownsRow.kept hx hg (row_ne hx h1 (by decide))
end
section
variable {w : World} {ops : Array Oper} {rest : List Oper} {o : Oper} {a : Act} {K : Exit → Act → World → Prop}
/-- One row more. -/
theorem wpList_appLs (hgd : o.guard = none) (s x : Operand)
    (ho : o.op = .call { callee := .builtin .append, args := #[s, x], argTypes := #[24, 24] })
    (base : Nat) (v : Value) (Q : List (List Int)) (hs : a.eval s = v) (hown : OwnLs w base v Q) (g : Nat) (hx : a.eval x = .slice (some ⟨g, 0, none⟩) 1 1) (y : Value) (q : List Int) (hy : w.cell? ⟨g, 0, none⟩ = some y) (hyo : OwnI w base y q) (hl : Q.length ≤ 1000000) (hbase : base ≤ w.heap.size)
    (h : ∀ v' w', OwnLs w' base v' (Q ++ [q]) → Grew w v w' v' → wpList Try.prog ops K rest (a.put o.dst v') w') : wpList Try.prog ops K (o :: rest) a w := by
  obtain ⟨i, hi, hz0, hz1, hz2⟩ := info_parts info_ints
  have hown0 := hown
  obtain ⟨vs, h1, h2⟩ := hown
  have hvl : vs.length = Q.length := by have := h1.1; omega
  have hone : y.oneCell' = true := by obtain ⟨A', c', rfl, _⟩ := hyo.form; rfl
  refine wpList_append_own_at w hgd s x 24 ho base 30 i _ 1 24 Try.underlying24 hi hz0 hz1 hz2 rfl (by decide) v Q.length vs hs h1 ⟨g, 0, none⟩ 1 1 [y] hx rfl (fun j u hj => ?_) (fun u hu => ?_) (by unfold maxLen; omega) (by omega) hbase ?_
  · match j, hj with
    | 0, hj => simp at hj; subst hj; rw [add_flat]; exact hy
    | (j + 1), hj => simp at hj
  · simp at hu; subst hu; exact hone
  · intro v' w' e1 e2 _ e4
    refine h v' w' ⟨vs ++ [y], by simpa using e1, fun i q' hi => ?_⟩ ⟨e2, fun k hk => ?_⟩
    · by_cases hlt : i < Q.length
      · rw [List.getElem?_append_left hlt] at hi
        obtain ⟨x', e, hx'⟩ := h2 i q' hi
        exact ⟨x', by rw [List.getElem?_append_left (by omega)]; exact e, hown0.kept_row hx' e2⟩
      · have hie : i = Q.length := by
          have := (List.getElem?_eq_some_iff.1 hi).1
          simp at this
          omega
        subst hie
        simp at hi
        subst hi
        exact ⟨y, by rw [List.getElem?_append_right (by omega), hvl]; simp, hown0.kept_row hyo e2⟩
    · rcases e4 with e4 | e4
      · exact .inl (e4 ▸ hk)
      · rw [e4] at hk
        injection hk with hk
        exact .inr (Nat.le_of_eq hk)
end
/-- A fresh one of one row. -/
theorem OwnLs.lit {w : World} {base : Nat} {x : Value} {q : List Int} (h : OwnI w base x q) (g : Nat) (hg : g = w.heap.size) (hb : base ≤ g) : OwnLs (w.alloc (.cells #[x] 30)) base (.slice (some ⟨g, 0, none⟩) 1 1) [q] := by
  subst hg
  refine ⟨[x], ⟨rfl, .inr ⟨w.heap.size, 1, #[x], rfl, hb, heap_alloc_new w _, Nat.le_refl _, by decide, rfl, rfl⟩⟩, fun i q' hi => ?_⟩
  match i, hi with
  | 0, hi => simp at hi; subst hi; exact ⟨x, rfl, h.alloc _⟩
  | (i + 1), hi => simp at hi
/-- What a call tells that tells new rows of ints. -/
def TellLs (w : World) (Q : List (List Int)) (e : Ending) (w' : World) : Prop := (∃ v, e = .returned v ∧ OwnLs w' w.heap.size v Q) ∧ Below w.heap.size w w'
theorem views_snoc {D : List PDim} {V : List (List Int)} {k : Nat} {l : List Int} (hk : k < V.length) (he : l = V.getD k []) : viewsP D (V.take k) ++ [l] = viewsP D (V.take (k + 1)) := by
  unfold viewsP
  rw [List.take_succ_eq_append_getElem hk, he, List.getD_eq_getElem?_getD, List.getElem?_eq_getElem hk]
  rfl
theorem views_len {D : List PDim} {V : List (List Int)} {k : Nat} (hk : k ≤ 1000) : (viewsP D (V.take k)).length ≤ 1000000 := by
  have := List.length_take_le k V
  simp [viewsP]; omega
set_option maxRecDepth 100000 in
set_option maxHeartbeats 1000000 in
/-- Views. -/
theorem views_any {A1 A2 A3 : Option Addr} {n1 c1 n2 c2 n3 c3 : Nat} {D : List PDim} {M : List Txt} {V : List (List Int)} {w : World} (h : HasS w w.heap.size A1 n1 c1 A2 n2 c2 A3 n3 c3 D M V) (hn1 : n1 ≤ 1000) (hn3 : n3 ≤ 1000) (hV : ∀ l ∈ V, l.length ≤ 1000) :
    Calls Try.prog 18 #[schV A1 n1 c1 A2 n2 c2 A3 n3 c3] w (TellLs w (viewsP D V)) := by
  have HV := Lib.hid h.v.len
  have HVL := Lib.hid hV
  have hb0 := below_a1 w (.cells #[.slice A1 n1 c1, .slice A2 n2 c2, .slice A3 n3 c3] 26)
  have h1 := h.belowS hb0
  have hS := Block.new w 26 #[.slice A1 n1 c1, .slice A2 n2 c2, .slice A3 n3 c3]
  clear h hV
  go_enter Try.func18, Try.ntmps18
  go_wp2_with fail
  generalize w.alloc (.cells #[.slice A1 n1 c1, .slice A2 n2 c2, .slice A3 n3 c3] 26) = w1 at hb0 h1 hS ⊢
  refine (base_any h1.d hn1).mono ?_
  rintro e w2 ⟨⟨v, rfl, hO⟩, hb2⟩
  have hO4 := OwnLs.lit hO w2.heap.size rfl hb2.size
  have hb4 := below_then hb2 (below_a1 w2 (.cells #[v] 30))
  have hS4 := hS.below hb4 hS.lt
  have s4 : (w2.alloc (.cells #[v] 30)).cell? ⟨w.heap.size, 2, none⟩ = some (.slice A3 n3 c3) := hS4.cell 2
  have hv : Hid (v.oneCell' = true) := Lib.hid (by obtain ⟨A', c', rfl, _⟩ := hO.form; rfl)
  have hO4 : OwnLs (w2.alloc (.cells #[v] 30)) w1.heap.size (.slice (some ⟨w2.heap.size, 0, none⟩) 1 1) (viewsP D (V.take 0)) := by simpa [viewsP] using hO4
  clear hO hb2
  obtain ⟨Ab, nb, cb, rfl⟩ : ∃ A n c, v = .slice A n c := by
    obtain ⟨vs, h1, h2⟩ := hO4
    obtain ⟨x, e, hx⟩ := h2 0 (baseP D) rfl
    have e2 := h1.cells (g := w2.heap.size) rfl 0 x e
    rw [add_flat, cell_new] at e2
    obtain ⟨A', c', rfl, _⟩ := hx.form
    have e3 : v = .slice A' (baseP D).length c' := by simpa using e2
    exact ⟨_, _, _, e3⟩
  go_wp2_with fail
  generalize w2.alloc (.cells #[.slice Ab nb cb] 30) = w4 at hb4 hO4 hS4 s4 ⊢
  clear hS4 hS hv
  go_loopw [3, 12] (fun v i wr => ∃ k : Nat, k ≤ n3 ∧ i = .int .i64 k ∧ OwnLs wr w1.heap.size v (viewsP D (V.take k)) ∧ Below w1.heap.size w1 wr) (fun _ i _ => n3 - (intOf i).toNat)
  case atStart => exact ⟨0, Nat.zero_le _, rfl, hO4, hb4⟩
  case round =>
    obtain ⟨k, hk, rfl, hO, hB⟩ := hrel
    clear hO4 hb4 s4
    by_cases hlt : k < n3
    · obtain ⟨b, o, A', n', c', l, rfl, hb, g0, hl, he⟩ := (h1.v.below hB (Nat.le_refl _)).at_ hlt
      have i0 : (0 : Int) ≤ (k : Int) := by omega
      have i1 : (k : Int) < (n3 : Int) := by omega
      have hlr := hl.more hB.size
      have hn' : n' ≤ 1000000 := by
        have h2 : l ∈ V := by rw [he.out, List.getD_eq_getElem?_getD, List.getElem?_eq_getElem (by have := HV.out; omega)]; exact List.getElem_mem _
        have := HVL.out l h2
        have := hl.len
        omega
      have HC := Lib.hid (cloneI_any hlr hn')
      have HF := Lib.hid (views_snoc (D := D) (by have := HV.out; omega) he.out)
      have hlb := Lib.hid (views_len (D := D) (V := V) (k := k) (by omega))
      clear hl hlr hn'
      go_wp2_with fail
      refine HC.out.mono ?_
      rintro e w5 ⟨⟨y, rfl, hy⟩, hb5⟩
      have hz := hB.size
      have hB5 := hB.trans (hb5.mono hz)
      have hO5 := hO.below hb5
      have hy5 := hy.low hz
      obtain ⟨Ay, ny, cy, rfl, _⟩ := hy.formN
      have hO6 := hO5.alloc (.cells #[.slice Ay ny cy] 30)
      have hy6 := hy5.alloc (.cells #[.slice Ay ny cy] 30)
      have hlo := fun g e => (hO5.lt g e).1
      have hz5 := hB5.size
      clear HC hO hB hb5 hO5 hy hy5 g0
      go_wp2_with (at_builtin; refine wpList_appLs rfl _ _ rfl w1.heap.size _ _ rfl hO6 _ rfl _ l (cell_litS _ _ _ _ rfl) hy6 hlb.out (by rw [World.size_alloc]; omega) ?_)
      intro v' w7 hO7 hG7
      have hB7 := Lib.hid ((hB5.alloc hz5 (.cells #[.slice Ay ny cy] 30)).trans (hG7.below_ (by rw [World.size_alloc]; omega) hlo))
      rw [HF.out] at hO7
      have hO8 := Lib.hid hO7
      clear hO6 hy6 hO7 hG7 hlo hB5
      go_wp2_with fail
      go_roundw
      case rel => exact ⟨k + 1, by omega, by go_num, hO8.out, hB7.out⟩
      case measure => simp [intOf]; omega
    · have e : V.take k = V := List.take_of_length_le (by have := HV.out; omega)
      rw [e] at hO
      have HO := Lib.hid (hO.low hb0.size)
      have HB := Lib.hid (below_then hb0 hB)
      clear hO hB e
      go_wp2_with fail
      go_ret
      exact ⟨⟨_, rfl, HO.out⟩, HB.out⟩
end Go.Proofs.Ytbiogldapodhmaa
