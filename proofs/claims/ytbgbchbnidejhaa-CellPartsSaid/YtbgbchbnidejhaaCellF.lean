/- Layer 5: rows of cells of the call's own; Fold. -/
import Derived.Test.YtbgbchbnidejhaaCellS
import Derived.Test.YtbgbchbnidejhaaRowNe
namespace Go.Proofs.Ytbgbchbnidejhaa
open Go.RowKit

/-- R says what a cell's three values hold. -/
def CsCells (xs : List Value) (L : List PC) (R : Value → Value → Value → PC → Prop) : Prop :=
  ∀ i q, L[i]? = some q → ∃ a b c, xs[4 * i]? = some (.int .i64 q.1) ∧ xs[4 * i + 1]? = some a ∧ xs[4 * i + 2]? = some b ∧ xs[4 * i + 3]? = some c ∧ R a b c q
/-- A row of cells of the call's own. -/
def CsRow (w : World) (B : Nat) (v : Value) (L : List PC) (R : Value → Value → Value → PC → Prop) : Prop :=
  ∃ xs, w.ownsRow B 26 4 v L.length xs ∧ CsCells xs L R
/-- Lists that lie below C, or are the call's own. -/
def InC (w : World) (C : Nat) (a b c : Value) (q : PC) : Prop :=
  (∃ A1 n1 c1 A2 n2 c2 A3 n3 c3, a = .slice A1 n1 c1 ∧ b = .slice A2 n2 c2 ∧ c = .slice A3 n3 c3 ∧ HasC w C A1 n1 c1 A2 n2 c2 A3 n3 c3 q.2.1 q.2.2.1 q.2.2.2) ∨ OwnC w C a b c q.2.1 q.2.2.1 q.2.2.2
section
variable {w w' : World} {B C : Nat} {v : Value} {L : List PC} {R R' : Value → Value → Value → PC → Prop}
theorem HasI.grownLow {B n c : Nat} {A : Option Addr} {l : List Int} {row : Option Nat} (h : HasI w B A n c l) (hg : w.grownBy w' row) (hB : B ≤ w.heap.size) (hr : ∀ g, row = some g → B ≤ g) : HasI w' B A n c l := h.grown hg hB hr
theorem CsCells.mono {xs : List Value} (h : CsCells xs L R) (hR : ∀ a b c q, R a b c q → R' a b c q) : CsCells xs L R' := fun i q hi => by
  obtain ⟨a, b, c, h1, h2, h3, h4, h5⟩ := h i q hi
  exact ⟨a, b, c, h1, h2, h3, h4, hR _ _ _ _ h5⟩
theorem CsCells.snoc {xs : List Value} (h : CsCells xs L R) (hl : xs.length = L.length * 4) {q : PC} {a b c : Value} (hc : R a b c q) : CsCells (xs ++ [.int .i64 q.1, a, b, c]) (L ++ [q]) R := fun i q' hi => by
  by_cases hlt : i < L.length
  · rw [List.getElem?_append_left hlt] at hi
    obtain ⟨a', b', c', h1, h2, h3, h4, h5⟩ := h i q' hi
    exact ⟨a', b', c', by rw [List.getElem?_append_left (by omega)]; exact h1, by rw [List.getElem?_append_left (by omega)]; exact h2, by rw [List.getElem?_append_left (by omega)]; exact h3, by rw [List.getElem?_append_left (by omega)]; exact h4, h5⟩
  · have hie : i = L.length := by
      have := (List.getElem?_eq_some_iff.1 hi).1
      simp at this
      omega
    subst hie
    simp at hi
    subst hi
    refine ⟨a, b, c, ?_, ?_, ?_, ?_, hc⟩
    · rw [List.getElem?_append_right (by omega), show 4 * L.length - xs.length = 0 by omega]; rfl
    · rw [List.getElem?_append_right (by omega), show 4 * L.length + 1 - xs.length = 1 by omega]; rfl
    · rw [List.getElem?_append_right (by omega), show 4 * L.length + 2 - xs.length = 2 by omega]; rfl
    · rw [List.getElem?_append_right (by omega), show 4 * L.length + 3 - xs.length = 3 by omega]; rfl
theorem InC.below {a b c : Value} {q : PC} (h : InC w C a b c q) (hb : Below w.heap.size w w') (hC : C ≤ w.heap.size) : InC w' C a b c q := by
  rcases h with ⟨A1, n1, c1, A2, n2, c2, A3, n3, c3, h1, h2, h3, h4⟩ | h
  · exact .inl ⟨A1, n1, c1, A2, n2, c2, A3, n3, c3, h1, h2, h3, h4.below hb hC⟩
  · exact .inr (h.below hb (Nat.le_refl _))
theorem InC.alloc {a b c : Value} {q : PC} (h : InC w C a b c q) (o : Obj) (hC : C ≤ w.heap.size) : InC (w.alloc o) C a b c q := h.below (below_a1 w o) hC
/-- .. behind a write into a row of cells. -/
theorem InC.grown {a b c : Value} {q : PC} {n : Nat} {xs : List Value} (h : InC w C a b c q) (hrow : w.ownsRow C 26 4 v n xs) (hg : w.grownBy w' v.ownBlock) (hC : C ≤ w.heap.size) : InC w' C a b c q := by
  have hr : ∀ g, v.ownBlock = some g → C ≤ g := fun g hg => (hrow.lt g hg).1
  rcases h with ⟨A1, n1, c1, A2, n2, c2, A3, n3, c3, h1, h2, h3, h4⟩ | h
  · exact .inl ⟨A1, n1, c1, A2, n2, c2, A3, n3, c3, h1, h2, h3, ⟨h4.s.grown hg hC hr, h4.m.grown hg hC hr, h4.x.grown hg hC hr⟩⟩
  · exact .inr ⟨h.s.kept hg (row_ne h.s hrow (by decide)), h.m.kept hg (row_ne h.m hrow (by decide)), h.x.kept hg (row_ne h.x hrow (by decide))⟩
theorem InC.read {a b c : Value} {q : PC} (h : InC w C a b c q) (hC : C ≤ w.heap.size) : ∃ A1 n1 c1 A2 n2 c2 A3 n3 c3, a = .slice A1 n1 c1 ∧ b = .slice A2 n2 c2 ∧ c = .slice A3 n3 c3 ∧ HasC w w.heap.size A1 n1 c1 A2 n2 c2 A3 n3 c3 q.2.1 q.2.2.1 q.2.2.2 := by
  rcases h with ⟨A1, n1, c1, A2, n2, c2, A3, n3, c3, h1, h2, h3, h4⟩ | h
  · exact ⟨A1, n1, c1, A2, n2, c2, A3, n3, c3, h1, h2, h3, h4.more hC⟩
  · exact h.form
abbrev InRow (w : World) (B : Nat) (v : Value) (L : List PC) : Prop := CsRow w B v L (InC w B)
theorem InRow.below (h : InRow w B v L) (hb : Below w.heap.size w w') (hB : B ≤ w.heap.size) : InRow w' B v L := by
  obtain ⟨xs, h1, h2⟩ := h
  exact ⟨xs, row_below h1 hb, h2.mono fun _ _ _ _ h => h.below hb hB⟩
theorem InRow.alloc (h : InRow w B v L) (o : Obj) (hB : B ≤ w.heap.size) : InRow (w.alloc o) B v L := InRow.below h (below_a1 w o) hB
/-- One cell more. -/
theorem InRow.step {w1 : World} {v' a b c : Value} {q : PC} {xs : List Value} (h1 : w1.ownsRow B 26 4 v L.length xs) (h2 : CsCells xs L (InC w1 B)) (hc : InC w1 B a b c q) (hB : B ≤ w1.heap.size)
    (hown : w'.ownsRow B 26 4 v' (L.length + 1) (xs ++ [.int .i64 q.1, a, b, c])) (hgrow : w1.grownBy w' v.ownBlock) : InRow w' B v' (L ++ [q]) := by
  have keep : ∀ (a b c : Value) (q : PC), InC w1 B a b c q → InC w' B a b c q := fun a b c q hh => hh.grown h1 hgrow hB
  exact ⟨_, by simpa using hown, (h2.mono keep).snoc h1.1 (keep _ _ _ _ hc)⟩
theorem InRow.read (h : InRow w B v L) (hB : B ≤ w.heap.size) : ∃ A c, v = .slice A L.length c ∧ HasCs w w.heap.size A L.length c L := by
  obtain ⟨xs, h1, h2⟩ := h
  rcases h1.2 with ⟨rfl, h0⟩ | ⟨g, cap, cur, rfl, hb, hg, hnc, hcm, _⟩
  · rw [h0]
    exact ⟨none, 0, rfl, h0, Nat.le_refl _, Nat.zero_le _, fun _ => rfl, fun i hi => absurd hi (by omega)⟩
  · refine ⟨_, cap, rfl, rfl, hnc, hcm, (fun h => by cases h), fun i hi => ?_⟩
    obtain ⟨a, b, c, e1, e2, e3, e4, h5⟩ := h2 i (L.getD i zeroC) (by rw [List.getD_eq_getElem?_getD, List.getElem?_eq_getElem hi]; rfl)
    obtain ⟨A1, n1, c1, A2, n2, c2, A3, n3, c3, rfl, rfl, rfl, hh⟩ := h5.read hB
    have hcell := h1.cells (g := g) rfl
    refine ⟨g, 0, A1, n1, c1, A2, n2, c2, A3, n3, c3, rfl, (Array.getElem?_eq_some_iff.1 hg).1, ⟨?_, ?_, ?_, ?_⟩, hh⟩
    · have := hcell _ _ e1
      rwa [add_flat, show 0 + 4 * i = 0 + i * 4 from by omega] at this
    · have := hcell _ _ e2
      rwa [add_flat, show 0 + (4 * i + 1) = 0 + i * 4 + 1 from by omega] at this
    · have := hcell _ _ e3
      rwa [add_flat, show 0 + (4 * i + 2) = 0 + i * 4 + 2 from by omega] at this
    · have := hcell _ _ e4
      rwa [add_flat, show 0 + (4 * i + 3) = 0 + i * 4 + 3 from by omega] at this
end
theorem cell_four_at (w : World) (x y z u : Value) (t : TypeId) (g : Nat) (hg : g = w.heap.size) : ∀ j o, [x, y, z, u][j]? = some o → (w.alloc (.cells #[x, y, z, u] t)).cell? ((⟨g, 0, none⟩ : Addr).add j) = some o := by
  intro j o hj
  subst hg
  match j, hj with
  | 0, hj => simp at hj; subst hj; simp [Addr.add]
  | 1, hj => simp at hj; subst hj; simp [Addr.add]
  | 2, hj => simp at hj; subst hj; simp [Addr.add]
  | 3, hj => simp at hj; subst hj; simp [Addr.add]
  | (j + 4), hj => simp at hj
theorem four_one (k : Int) (A1 : Option Addr) (n1 c1 : Nat) (A2 : Option Addr) (n2 c2 : Nat) (A3 : Option Addr) (n3 c3 : Nat) : ∀ u ∈ [Value.int .i64 k, .slice A1 n1 c1, .slice A2 n2 c2, .slice A3 n3 c3], u.oneCell' = true := by
  intro u hu
  simp at hu
  rcases hu with rfl | rfl | rfl | rfl <;> rfl
/-- Nothing but empty cells without measures. -/
def zcells (m : Nat) : Array Value := madeCells #[.int .i64 0, .slice none 0 0, .slice none 0 0, .slice none 0 0] (m * 4)
theorem zcells_size (m : Nat) : (zcells m).size = m * 4 := by simp [zcells, madeCells]
theorem zcells_take {m : Nat} (h : 0 < m) : (zcells m).toList.take 4 = [.int .i64 0, .slice none 0 0, .slice none 0 0, .slice none 0 0] := by
  apply List.ext_getElem
  · simp [zcells_size]; omega
  · intro k h1 h2
    have hk : k < 4 := by simpa using h2
    match k, hk with
    | 0, _ => simp [zcells, madeCells]
    | 1, _ => simp [zcells, madeCells]
    | 2, _ => simp [zcells, madeCells]
    | 3, _ => simp [zcells, madeCells]
theorem make_cells (m : Nat) (W : World) (h0 : 0 < m) (hm : m ≤ 1000000) : (Instr.makeSlice 41 (.int .i64 1) (.int .i64 (m : Int))).run Try.prog W = .ok (.slice (some ⟨W.heap.size, 0, none⟩) 1 m) (W.alloc (.cells (zcells m) 26)) := by
  obtain ⟨i, hi, hz, hy, hx⟩ := info_parts info_cell3
  have h := run_make (P := Try.prog) W 41 26 i _ Try.underlying41 hi hz .i64 .i64 1 m (by omega) (by omega) (by rw [hx]; omega) (by omega)
  rw [hy, Int.toNat_natCast] at h
  exact h
theorem own_zcells {w : World} {base g m : Nat} (hb : Block w g 26 (zcells m)) (h : base ≤ g) (h0 : 0 < m) (hm : m ≤ 1000000) : w.ownsRow base 26 4 (.slice (some ⟨g, 0, none⟩) 1 m) 1 [.int .i64 0, .slice none 0 0, .slice none 0 0, .slice none 0 0] :=
  ⟨rfl, .inr ⟨g, m, zcells m, rfl, h, hb, h0, by unfold maxLen; omega, zcells_size m, zcells_take h0⟩⟩
/-- The first cell of such a row is written. -/
theorem own_put4 {w : World} {base g m : Nat} {a b c d : Value} (h : w.ownsRow base 26 4 (.slice (some ⟨g, 0, none⟩) 1 m) 1 [a, b, c, d]) (a' b' c' d' : Value) :
    (put4 w g a' b' c' d').ownsRow base 26 4 (.slice (some ⟨g, 0, none⟩) 1 m) 1 [a', b', c', d'] := by
  have h1 := (World.ownsRow.stored h 0 a').1
  have h2 := (World.ownsRow.stored h1 1 b').1
  have h3 := (World.ownsRow.stored h2 2 c').1
  exact (World.ownsRow.stored h3 3 d').1
theorem OwnC.put4_row {w : World} {base base' g m n : Nat} {v1 v2 v3 : Value} {S M X : List Int} {xs : List Value} (h : OwnC w base v1 v2 v3 S M X) (hr : w.ownsRow base' 26 4 (.slice (some ⟨g, 0, none⟩) n m) n xs) (a' b' c' d' : Value) : OwnC (put4 w g a' b' c' d') base v1 v2 v3 S M X := by
  have hne : ∀ {v : Value} {l : List Int}, OwnI w base v l → v.ownBlock ≠ some g := fun h e => by
    rcases row_ne h hr (by decide) with h1 | h1
    · rw [e] at h1; cases h1
    · exact h1 e
  have key : ∀ {v : Value} {l : List Int} {w : World}, OwnI w base v l → v.ownBlock ≠ some g → ∀ (j : Nat) (u : Value), OwnI (w.setCell ⟨g, j, none⟩ u) base v l := fun h hn j u => h.other hn u
  have n1 := hne h.s
  have n2 := hne h.m
  have n3 := hne h.x
  exact ⟨key (key (key (key h.s n1 0 a') n1 1 b') n1 2 c') n1 3 d', key (key (key (key h.m n2 0 a') n2 1 b') n2 2 c') n2 3 d', key (key (key (key h.x n3 0 a') n3 1 b') n3 2 c') n3 3 d'⟩

set_option maxRecDepth 100000 in
set_option maxHeartbeats 2000000 in
theorem fold_any (x : Int) {A : Option Addr} {n c : Nat} {L : List (List Int)} {w : World} (h : HasL w w.heap.size A n c L) (hn : n ≤ 1000) :
    Calls Try.prog 11 #[.int .i64 x, .slice A n c] w (TellC w (cFold x L)) := by
  have hll := Lib.hid h.len
  have hcm := h.capMax
  have hcap := h.cap
  have hb0 := below_a1 w (.cells #[.int .i64 0, .slice none 0 0, .slice none 0 0, .slice none 0 0] 26)
  have hR := Block.new w 26 #[.int .i64 0, .slice none 0 0, .slice none 0 0, .slice none 0 0]
  by_cases hx0 : x < 0
  · have hZ : Hid (cFold x L = (zeroC, 1)) := Lib.hid (cFold_arg (.inl hx0))
    go_enter Try.func11, Try.ntmps11
    go_wp2_with fail
    refine bodyPost_ret (results_block2 rfl _ _ w.heap.size _ _ rfl hR Try.underlying26 rfl info_cell) rfl ?_
    rw [hZ.out]
    exact ⟨⟨_, _, _, rfl, zeroC_own _ _⟩, hb0⟩
  · by_cases hx2 : 2 < x
    · have hZ : Hid (cFold x L = (zeroC, 1)) := Lib.hid (cFold_arg (.inr (.inl hx2)))
      go_enter Try.func11, Try.ntmps11
      go_wp2_with fail
      refine bodyPost_ret (results_block2 rfl _ _ w.heap.size _ _ rfl hR Try.underlying26 rfl info_cell) rfl ?_
      rw [hZ.out]
      exact ⟨⟨_, _, _, rfl, zeroC_own _ _⟩, hb0⟩
    · obtain ⟨m, rfl⟩ : ∃ m : Nat, x = (m : Int) := ⟨x.toNat, by omega⟩
      have hm2 : m ≤ 2 := by omega
      have hZ : Hid (cSum (cEmpty m :: L.map oneC) = cFold m L) := Lib.hid (cSum_fold hm2 L (by rw [hll.out]; exact hn))
      have HK : ∀ W : World, (Instr.makeSlice 41 (.int .i64 1) (.int .i64 ((n : Int) + 1))).run Try.prog W = .ok (.slice (some ⟨W.heap.size, 0, none⟩) 1 (n + 1)) (W.alloc (.cells (zcells (n + 1)) 26)) := fun W => by
        have := make_cells (n + 1) W (by omega) (by omega)
        rwa [show ((n + 1 : Nat) : Int) = (n : Int) + 1 from by omega] at this
      go_enter Try.func11, Try.ntmps11
      go_wp2_with fail
      have hR2 := hR.alloc (.cells (zcells (n + 1)) 26)
      have hO := own_zcells (base := w.heap.size + 1) (Block.new (w.alloc (.cells #[.int .i64 0, .slice none 0 0, .slice none 0 0, .slice none 0 0] 26)) 26 (zcells (n + 1))) (by simp) (by omega) (by omega)
      have hb2 := below_a2 w (.cells #[.int .i64 0, .slice none 0 0, .slice none 0 0, .slice none 0 0] 26) (.cells (zcells (n + 1)) 26)
      rw [World.size_alloc] at hO
      clear HK hR hb0
      generalize (w.alloc (.cells #[.int .i64 0, .slice none 0 0, .slice none 0 0, .slice none 0 0] 26)).alloc (.cells (zcells (n + 1)) 26) = w2 at hR2 hO hb2 ⊢
      have hg : w.heap.size < w.heap.size + 1 := by omega
      have hg2 : w.heap.size + 1 ≤ w2.heap.size := hR2.lt
      obtain ⟨g, hge⟩ : ∃ g, Hid (w.heap.size + 1 = g) := ⟨_, Lib.hid rfl⟩
      rw [hge.out] at hO hg hg2 ⊢
      refine (empty_any (m : Int) _ (m := m) (by omega)).mono ?_
      rintro e w3 ⟨⟨e1, e2, e3, rfl, ho, _⟩, hb3⟩
      have hR3 := hR2.below hb3 hR2.lt
      have hO3 := row_below hO hb3
      have hbe := below_then hb2 hb3
      have s0 : w3.cell? ⟨g, 0, none⟩ = some (.int .i64 0) := hO3.cellAt 0 (by decide)
      have s1 : w3.cell? ⟨g, 1, none⟩ = some (.slice none 0 0) := hO3.cellAt 1 (by decide)
      have s2 : w3.cell? ⟨g, 2, none⟩ = some (.slice none 0 0) := hO3.cellAt 2 (by decide)
      have s3 : w3.cell? ⟨g, 3, none⟩ = some (.slice none 0 0) := hO3.cellAt 3 (by decide)
      have f0 := hO3.frozenAt 0
      have f1 := hO3.frozenAt 1
      have f2 := hO3.frozenAt 2
      have f3 := hO3.frozenAt 3
      have j2 : (0 : Int) < ((n + 1 : Nat) : Int) := by omega
      have hO4 := Lib.hid (own_put4 hO3 (.int .i64 0) (.slice (some ⟨e1, 0, none⟩) m m) (.slice (some ⟨e2, 0, none⟩) m m) (.slice (some ⟨e3, 0, none⟩) m m))
      have hC4 := Lib.hid ((ho.put4_row hO3 (.int .i64 0) (.slice (some ⟨e1, 0, none⟩) m m) (.slice (some ⟨e2, 0, none⟩) m m) (.slice (some ⟨e3, 0, none⟩) m m)).low hg2)
      have hne : g ≠ w.heap.size := by omega
      have hR4 := Lib.hid ((((hR3.elsewhere g 0 (.int .i64 0) hne).elsewhere g 1 (.slice (some ⟨e1, 0, none⟩) m m) hne).elsewhere g 2 (.slice (some ⟨e2, 0, none⟩) m m) hne).elsewhere g 3 (.slice (some ⟨e3, 0, none⟩) m m) hne)
      have hB4 := Lib.hid (below_put4 hbe (Nat.le_of_lt hg) (.int .i64 0) (.slice (some ⟨e1, 0, none⟩) m m) (.slice (some ⟨e2, 0, none⟩) m m) (.slice (some ⟨e3, 0, none⟩) m m))
      clear hO hO3 hR2 hR3 ho hb2 hb3 hbe hne
      go_wp2_with fail
      go_loopw [6, 26] (fun v i wr => ∃ k : Nat, k ≤ n ∧ i = .int .i64 k ∧ InRow wr g v (cEmpty m :: (L.take k).map oneC) ∧ Block wr w.heap.size 26 #[.int .i64 0, .slice none 0 0, .slice none 0 0, .slice none 0 0] ∧ Below w.heap.size w wr) (fun _ i _ => n - (intOf i).toNat)
      case atStart =>
        refine ⟨0, Nat.zero_le _, rfl, ⟨_, hO4.out, fun i q hi => ?_⟩, hR4.out, hB4.out⟩
        match i, hi with
        | 0, hi =>
          simp at hi
          subst hi
          exact ⟨_, _, _, rfl, rfl, rfl, rfl, .inr hC4.out⟩
        | (i + 1), hi => simp at hi
      case round =>
        obtain ⟨k, hk, rfl, hI, hRB, hbe⟩ := hrel
        clear hO4 hC4 hR4 hB4 s0 s1 s2 s3 f0 f1 f2 f3
        by_cases hlt : k < n
        · obtain ⟨b, o, A', n', c', l, rfl, hb, g0, hl, he⟩ := (h.below hbe (Nat.le_refl _)).at_ hlt
          have i0 : (0 : Int) ≤ (k : Int) := by omega
          have i1 : (k : Int) < (n : Int) := by omega
          go_wp2_with fail
          refine (one_any A' n' c' _).mono ?_
          rintro e w5 ⟨rfl, hb5⟩
          have hgz : g ≤ wr.heap.size := by have := hRB.lt; have := hge.out; omega
          have hl5 := (hl.more (Nat.le_of_lt hg)).below hb5 hgz
          have hI5 := InRow.below hI hb5 hgz
          have hbe5 := hbe.trans (hb5.mono hbe.size)
          have hRB5 := hRB.below hb5 hRB.lt
          clear hI hbe hRB hl g0 hb5
          obtain ⟨xs, hown, hcells⟩ := hI5
          obtain ⟨i9, hi9, hz0, hz1, hz2⟩ := info_parts info_cell3
          have hz5 : g ≤ w5.heap.size := by have := hRB5.lt; have := hge.out; omega
          have hz6 := hbe5.size
          obtain ⟨N, hN, hNk⟩ : ∃ N, Hid ((cEmpty m :: (L.take k).map oneC).length = N) ∧ N ≤ 1001 := ⟨_, Lib.hid rfl, by simp; omega⟩
          rw [hN.out] at hown
          go_wp2_with (at_builtin; refine wpList_append_own _ rfl _ _ 41 rfl g 26 i9 _ 4 80 Try.underlying41 hi9 hz0 hz1 hz2 rfl (by decide) _ N xs rfl (hown.alloc _) _ 1 1 [.int .i64 1, .slice A' n' c', .slice A' n' c', .slice A' n' c'] rfl rfl (cell_four_at _ _ _ _ _ _ _ rfl) (four_one _ _ _ _ _ _ _ _ _ _) (by unfold maxLen; omega) (by omega) (by simp; omega) ?_)
          intro v6 w6 hown6 hgrow6 _
          have hlo := fun q e => (hown.lt q e).1
          rw [← hN.out] at hown hown6
          have hst := Lib.hid (InRow.step (q := oneC l) (hown.alloc _) (hcells.mono fun _ _ _ _ h => h.alloc _ hz5) (.inl ⟨A', n', c', A', n', c', A', n', c', rfl, rfl, rfl, ⟨hl5.alloc hz5 _, hl5.alloc hz5 _, hl5.alloc hz5 _⟩⟩) (by simp; omega) hown6 hgrow6)
          have hlist : Hid ((cEmpty m :: (L.take k).map oneC) ++ [oneC l] = cEmpty m :: (L.take (k + 1)).map oneC) := Lib.hid (by
            rw [List.cons_append, List.take_add_one, List.map_append, he.out, List.getD_eq_getElem?_getD, List.getElem?_eq_getElem (by rw [hll.out]; exact hlt)]
            rfl)
          rw [hlist.out] at hst
          have hB6 : Below w.heap.size w w6 := (hbe5.alloc hz6 _).grown hgrow6 (by simp; omega) (fun q e => by have := hlo q e; omega)
          have hR6 : Block w6 w.heap.size 26 #[.int .i64 0, .slice none 0 0, .slice none 0 0, .slice none 0 0] := by
            refine (hRB5.alloc _).grown hgrow6 fun e => ?_
            have := hlo _ e
            omega
          clear hown hcells hown6 hgrow6 hbe5 hRB5 hl5
          go_wp2_with fail
          go_roundw
          case rel => exact ⟨k + 1, by omega, by go_num, hst.out, hR6, hB6⟩
          case measure => simp [intOf]; omega
        · obtain rfl : k = n := by omega
          have hgz : g ≤ wr.heap.size := by have := hRB.lt; have := hge.out; omega
          have hLk : Hid (L.take k = L) := Lib.hid (List.take_of_length_le (by rw [hll.out]; exact Nat.le_refl _))
          rw [hLk.out] at hI
          obtain ⟨A5, c5, hv, hH⟩ := InRow.read hI hgz
          obtain ⟨N, hN, hNk⟩ : ∃ N, Hid ((cEmpty m :: L.map oneC).length = N) ∧ N ≤ 1001 := ⟨_, Lib.hid rfl, by simp; rw [hll.out]; exact hn⟩
          rw [hN.out] at hv hH
          subst hv
          have hS := Lib.hid (sum_any hH (by omega))
          have hrl := hRB.lt
          clear hI hH
          go_wp2_with fail
          refine hS.out.mono ?_
          rintro e w5 ⟨⟨v1, v2, v3, rfl, ho⟩, hb5⟩
          have hR5 := hRB.below hb5 hrl
          have hbe5 := hbe.trans (hb5.mono hbe.size)
          clear hb5 hS
          have r0 : w5.cell? ⟨w.heap.size, 0, none⟩ = some (.int .i64 0) := hR5.cell 0
          have r1 : w5.cell? ⟨w.heap.size, 1, none⟩ = some (.slice none 0 0) := hR5.cell 1
          have r2 : w5.cell? ⟨w.heap.size, 2, none⟩ = some (.slice none 0 0) := hR5.cell 2
          have r3 : w5.cell? ⟨w.heap.size, 3, none⟩ = some (.slice none 0 0) := hR5.cell 3
          have f0 := hR5.free 0
          have f1 := hR5.free 1
          have f2 := hR5.free 2
          have f3 := hR5.free 3
          obtain ⟨E1, l1, k1, rfl, _⟩ := ho.s.formN
          obtain ⟨E2, l2, k2, rfl, _⟩ := ho.m.formN
          obtain ⟨E3, l3, k3, rfl, _⟩ := ho.x.formN
          obtain ⟨p, P, Q, R, y, hq⟩ : ∃ p P Q R y, Hid (cSum (cEmpty m :: L.map oneC) = ((p, P, Q, R), y)) := ⟨_, _, _, _, _, Lib.hid rfl⟩
          rw [hq.out] at ho hZ
          have hRR := Lib.hid (hR5.put4_ (.int .i64 p) (.slice E1 l1 k1) (.slice E2 l2 k2) (.slice E3 l3 k3))
          have hRBb := Lib.hid (below_put4 hbe5 (Nat.le_refl _) (.int .i64 p) (.slice E1 l1 k1) (.slice E2 l2 k2) (.slice E3 l3 k3))
          have hRO := Lib.hid ((ho.put4_ hrl (.int .i64 p) (.slice E1 l1 k1) (.slice E2 l2 k2) (.slice E3 l3 k3)).low (Nat.le_of_lt hrl))
          rw [hq.out]
          clear ho hq hbe hbe5 hRB
          go_wp2_with fail
          refine bodyPost_ret (results_block2 rfl _ _ w.heap.size _ _ rfl hRR.out Try.underlying26 rfl info_cell) rfl ?_
          rw [← hZ.out]
          exact ⟨⟨_, _, _, rfl, hRO.out⟩, hRBb.out⟩
end Go.Proofs.Ytbgbchbnidejhaa
