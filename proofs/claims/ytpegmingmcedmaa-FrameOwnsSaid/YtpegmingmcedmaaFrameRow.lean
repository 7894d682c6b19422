/- Rows of frames: each element two cells, a kind and a slice of bytes. -/
import Derived.Test.YtpegmingmcedmaaFrameM
import Derived.Test.YtpegmingmcedmaaClone
namespace Go.Proofs.Ytpegmingmcedmaa
open Go.RowKit

/-- The cells of some frames; R says what a slice's value holds. -/
def FrCells (xs : List Value) (fs : List Fr) (R : Value → List UInt8 → Prop) : Prop :=
  ∀ i k l, fs[i]? = some (k, l) → ∃ c, xs[2 * i]? = some (.int .i64 (k : Int)) ∧ xs[2 * i + 1]? = some c ∧ R c l
/-- A row of frames of the call's own. -/
def FrRow (w : World) (B : Nat) (T : TypeId) (v : Value) (fs : List Fr) (R : Value → List UInt8 → Prop) : Prop :=
  ∃ xs, w.ownsRow B T 2 v fs.length xs ∧ FrCells xs fs R
/-- Its bytes are the call's own, too. -/
abbrev FrOwn (w : World) (B : Nat) (T : TypeId) (v : Value) (fs : List Fr) : Prop := FrRow w B T v fs (OwnB w B 5)
/-- Its bytes lie below. -/
def InB (w : World) (B : Nat) (v : Value) (l : List UInt8) : Prop := ∃ A n c, v = .slice A n c ∧ HasB w B A n c l
/-- What reads as frames. -/
structure FrRead (w : World) (A : Option Addr) (n c : Nat) (fs : List Fr) : Prop where
  len : fs.length = n
  cap : n ≤ c
  fit : c ≤ maxLen
  has : ∀ i, i < n → ∃ b o A' n' c', A = some ⟨b, o, none⟩ ∧ b < w.heap.size ∧ w.cell? ⟨b, o + i * 2, none⟩ = some (.int .i64 ((fs.getD i (0, [])).1 : Int)) ∧ w.cell? ⟨b, o + i * 2 + 1, none⟩ = some (.slice A' n' c') ∧ HasB w w.heap.size A' n' c' (fs.getD i (0, [])).2

section
variable {w w' : World} {B : Nat} {T : TypeId} {v : Value} {fs : List Fr} {R R' : Value → List UInt8 → Prop}
theorem row_below {base : Nat} {e : TypeId} {size n : Nat} {xs : List Value} (h : w.ownsRow base e size v n xs) (hb : Below w.heap.size w w') : w'.ownsRow base e size v n xs :=
  h.kept (row := none) ⟨hb.os, hb.tape, hb.output, hb.size, fun k hk _ => hb.block k hk⟩ (by cases v.ownBlock <;> simp)
theorem row_ne {B' e e' size size' n n' : Nat} {v' : Value} {xs xs' : List Value} (h : w.ownsRow B e size v n xs) (h' : w.ownsRow B' e' size' v' n' xs') (hne : e ≠ e') : v.ownBlock = none ∨ v.ownBlock ≠ v'.ownBlock := by
  rcases h.2 with ⟨rfl, _⟩ | ⟨g, cap, cur, rfl, _, hgg, _⟩
  · exact .inl rfl
  · rcases h'.2 with ⟨rfl, _⟩ | ⟨g', cap', cur', rfl, _, hgg', _⟩
    · exact .inr (by simp [Value.ownBlock])
    · refine .inr fun he => ?_
      simp only [Value.ownBlock, Option.some.injEq] at he
      subst he
      rw [hgg] at hgg'
      simp only [Option.some.injEq, Obj.cells.injEq] at hgg'
      exact hne hgg'.2.1
theorem FrCells.mono {xs : List Value} (h : FrCells xs fs R) (hR : ∀ c l, R c l → R' c l) : FrCells xs fs R' := fun i k l hi => by
  obtain ⟨c, h1, h2, h3⟩ := h i k l hi
  exact ⟨c, h1, h2, hR c l h3⟩
theorem FrCells.snoc {xs : List Value} (h : FrCells xs fs R) (hl : xs.length = fs.length * 2) {k : Nat} {l : List UInt8} {c : Value} (hc : R c l) : FrCells (xs ++ [.int .i64 (k : Int), c]) (fs ++ [(k, l)]) R := fun i k' l' hi => by
  by_cases hlt : i < fs.length
  · rw [List.getElem?_append_left hlt] at hi
    obtain ⟨c', h1, h2, h3⟩ := h i k' l' hi
    exact ⟨c', by rw [List.getElem?_append_left (by omega)]; exact h1, by rw [List.getElem?_append_left (by omega)]; exact h2, h3⟩
  · have hie : i = fs.length := by
      have := (List.getElem?_eq_some_iff.1 hi).1
      simp at this
      omega
    subst hie
    simp at hi
    obtain ⟨rfl, rfl⟩ := hi
    refine ⟨c, ?_, ?_, hc⟩
    · rw [List.getElem?_append_right (by omega)]; simp [hl, Nat.mul_comm]
    · rw [List.getElem?_append_right (by omega), show 2 * fs.length + 1 - xs.length = 1 by omega]; rfl
theorem FrRow.nil_ (w : World) (B : Nat) (T : TypeId) (R : Value → List UInt8 → Prop) : FrRow w B T (.slice none 0 0) [] R := ⟨[], World.ownsRow_nil _ _ _ _, fun i k l h => by simp at h⟩
theorem FrRow.mono (h : FrRow w B T v fs R) (hR : ∀ c l, R c l → R' c l) : FrRow w B T v fs R' := by
  obtain ⟨xs, h1, h2⟩ := h
  exact ⟨xs, h1, h2.mono hR⟩
theorem FrRow.below (h : FrRow w B T v fs R) (hb : Below w.heap.size w w') : FrRow w' B T v fs R := by
  obtain ⟨xs, h1, h2⟩ := h
  exact ⟨xs, row_below h1 hb, h2⟩
theorem FrRow.alloc (h : FrRow w B T v fs R) (o : Obj) : FrRow (w.alloc o) B T v fs R := by
  obtain ⟨xs, h1, h2⟩ := h
  exact ⟨xs, h1.alloc o, h2⟩
theorem FrRow.low {B' : Nat} (h : FrRow w B T v fs R) (hB : B' ≤ B) : FrRow w B' T v fs R := by
  obtain ⟨xs, h1, h2⟩ := h
  exact ⟨xs, row_low h1 hB, h2⟩
theorem FrOwn.below_ (h : FrOwn w B T v fs) (hb : Below w.heap.size w w') : FrOwn w' B T v fs :=
  (FrRow.below h hb).mono fun _ _ h => OwnB.below h hb (Nat.le_refl _)
theorem FrOwn.drewN (h : FrOwn w B T v fs) (k : Nat) : FrOwn (w.drewN k) B T v fs := h
theorem FrOwn.alloc_ (h : FrOwn w B T v fs) (o : Obj) : FrOwn (w.alloc o) B T v fs := (FrRow.alloc h o).mono fun _ _ h => OwnB.alloc h o
theorem FrOwn.low_ {B' : Nat} (h : FrOwn w B T v fs) (hB : B' ≤ B) : FrOwn w B' T v fs := (FrRow.low h hB).mono fun _ _ h => OwnB.low h hB
theorem FrRow.form (h : FrRow w B T v fs R) : ∃ A n c, v = .slice A n c ∧ fs.length = n ∧ n ≤ c ∧ c ≤ maxLen ∧ (A = none → c = 0) ∧ ∀ a, A = some a → ∃ g, a = ⟨g, 0, none⟩ ∧ B ≤ g ∧ g < w.heap.size := by
  obtain ⟨xs, h1, _⟩ := h
  rcases h1.2 with ⟨rfl, h0⟩ | ⟨g, cap, cur, rfl, hb, hg, hnc, hcm, _⟩
  · exact ⟨none, 0, 0, rfl, h0, Nat.le_refl _, Nat.zero_le _, fun _ => rfl, fun _ h => by cases h⟩
  · exact ⟨_, _, cap, rfl, rfl, hnc, hcm, fun h => by (cases h), fun a ha => by injection ha with ha; subst ha; exact ⟨g, rfl, hb, (Array.getElem?_eq_some_iff.1 hg).1⟩⟩
theorem FrRow.read {A : Option Addr} {n c : Nat} (h : FrRow w B T (.slice A n c) fs R) (hR : ∀ c l, R c l → InB w w.heap.size c l) : FrRead w A n c fs := by
  obtain ⟨A', n', c', e, h1, h2, h3, h4, h5⟩ := h.form
  injection e with e1 e2 e3
  subst e1 e2 e3
  obtain ⟨xs, hr, hc⟩ := h
  refine ⟨h1, h2, h3, fun i hi => ?_⟩
  have hif : i < fs.length := by omega
  rcases A with _ | a
  · have := h4 rfl; omega
  · obtain ⟨g, rfl, _, hg⟩ := h5 a rfl
    have hgi : fs[i]? = some ((fs.getD i (0, [])).1, (fs.getD i (0, [])).2) := by simp [List.getD_eq_getElem?_getD, List.getElem?_eq_getElem hif]
    obtain ⟨c1, e1, e2, e3⟩ := hc i _ _ hgi
    obtain ⟨A', n', c', rfl, hh⟩ := hR _ _ e3
    have hcell := hr.cells (g := g) rfl
    refine ⟨g, 0, A', n', c', rfl, hg, ?_, ?_, hh⟩
    · have := hcell (2 * i) _ e1
      rwa [add_flat, show 0 + 2 * i = 0 + i * 2 from by omega] at this
    · have := hcell (2 * i + 1) _ e2
      rwa [add_flat, show 0 + (2 * i + 1) = 0 + i * 2 + 1 from by omega] at this
theorem OwnB.inB {base : Nat} {e : TypeId} {l : List UInt8} (h : OwnB w base e v l) : InB w w.heap.size v l := by
  obtain ⟨A, n, c, e, h1, _⟩ := h.formN
  exact ⟨A, n, c, e, h1⟩
theorem FrOwn.read {A : Option Addr} {n c : Nat} (h : FrOwn w B T (.slice A n c) fs) : FrRead w A n c fs := FrRow.read h fun _ _ h => h.inB
theorem FrRead.drewN {A : Option Addr} {n c : Nat} (h : FrRead w A n c fs) (k : Nat) : FrRead (w.drewN k) A n c fs :=
  ⟨h.len, h.cap, h.fit, fun i hi => by obtain ⟨b, o, A', n', c', h1, h2, h3, h4, h5⟩ := h.has i hi; exact ⟨b, o, A', n', c', h1, h2, h3, h4, h5.drewN k⟩⟩
theorem FrRead.below {A : Option Addr} {n c : Nat} (h : FrRead w A n c fs) (hb : Below w.heap.size w w') : FrRead w' A n c fs :=
  ⟨h.len, h.cap, h.fit, fun i hi => by
    obtain ⟨b, o, A', n', c', h1, h2, h3, h4, h5⟩ := h.has i hi
    exact ⟨b, o, A', n', c', h1, Nat.lt_of_lt_of_le h2 hb.size, (hb.cell (p := ⟨b, o + i * 2, none⟩) h2).trans h3, (hb.cell (p := ⟨b, o + i * 2 + 1, none⟩) h2).trans h4, (h5.below hb (Nat.le_refl _)).more hb.size⟩⟩
theorem FrRead.take_ {A : Option Addr} {n c : Nat} (h : FrRead w A n c fs) (k : Nat) (hk : k ≤ n) : FrRead w A k c (fs.take k) :=
  ⟨by rw [List.length_take, h.len]; omega, Nat.le_trans hk h.cap, h.fit, fun i hi => by
    obtain ⟨b, o, A', n', c', h1, h2, h3, h4, h5⟩ := h.has i (by omega)
    have e : (fs.take k).getD i (0, []) = fs.getD i (0, []) := by simp [List.getD_eq_getElem?_getD, hi]
    rw [← e] at h3 h5
    exact ⟨b, o, A', n', c', h1, h2, h3, h4, h5⟩⟩
/-- One frame more. -/
theorem FrOwn.step {w1 : World} {v' c1 : Value} {k : Nat} {l : List UInt8} {xs : List Value} (hT : T ≠ 5) (h1 : w1.ownsRow B T 2 v fs.length xs) (h2 : FrCells xs fs (OwnB w1 B 5)) (hc : OwnB w1 B 5 c1 l)
    (hown : w'.ownsRow B T 2 v' (fs.length + 1) (xs ++ [.int .i64 (k : Int), c1])) (hgrow : w1.grownBy w' v.ownBlock) : FrOwn w' B T v' (fs ++ [(k, l)]) := by
  have keep : ∀ (c : Value) (l : List UInt8), OwnB w1 B 5 c l → OwnB w' B 5 c l := fun c l hh => hh.kept hgrow (row_ne hh h1 hT.symm)
  exact ⟨_, by simpa using hown, (h2.mono keep).snoc h1.1 (keep _ _ hc)⟩
end
theorem cell_two_at (w : World) (x y : Value) (t : TypeId) (g : Nat) (hg : g = w.heap.size) : ∀ j u, [x, y][j]? = some u → (w.alloc (.cells #[x, y] t)).cell? ((⟨g, 0, none⟩ : Addr).add j) = some u := by
  intro j u hj
  subst hg
  match j, hj with
  | 0, hj => simp at hj; subst hj; simp [Addr.add]
  | 1, hj => simp at hj; subst hj; simp [Addr.add]
  | (j + 2), hj => simp at hj
/-- A fresh literal of one frame. -/
theorem FrRead.lit (w : World) (k : Nat) (A : Option Addr) (n c : Nat) (l : List UInt8) (h : HasB w w.heap.size A n c l) (T : TypeId) (g : Nat) (hg : g = w.heap.size) : FrRead (w.alloc (.cells #[.int .i64 (k : Int), .slice A n c] T)) (some ⟨g, 0, none⟩) 1 1 [(k, l)] := by
  subst hg
  refine ⟨rfl, Nat.le_refl _, by decide, fun i hi => ?_⟩
  obtain rfl : i = 0 := by omega
  exact ⟨w.heap.size, 0, A, n, c, rfl, by simp, by rw [cell_new]; rfl, by rw [cell_new]; rfl, (h.alloc (Nat.le_refl _) _).more (by simp)⟩
/-- A row of one-cell elements: its cells. -/
theorem row_one {w : World} {base : Nat} {e : TypeId} {v : Value} {n : Nat} {xs : List Value} (h : w.ownsRow base e 1 v n xs) :
    ∃ A c, v = .slice A n c ∧ n ≤ c ∧ c ≤ maxLen ∧ ∀ j, j < n → ∃ b, A = some ⟨b, 0, none⟩ ∧ b < w.heap.size ∧ w.cell? ⟨b, j, none⟩ = xs[j]? := by
  have hl := h.1
  rcases h.2 with ⟨rfl, rfl⟩ | ⟨g, cap, cur, rfl, hb, hg, hnc, hcm, _⟩
  · exact ⟨none, 0, rfl, Nat.le_refl _, Nat.zero_le _, fun j hj => absurd hj (by omega)⟩
  · refine ⟨_, cap, rfl, hnc, hcm, fun j hj => ⟨g, rfl, (Array.getElem?_eq_some_iff.1 hg).1, ?_⟩⟩
    have h1 := h.cells (g := g) rfl j xs[j] (List.getElem?_eq_getElem (by omega))
    rw [add_flat, Nat.zero_add] at h1
    rw [h1, List.getElem?_eq_getElem (by omega)]
theorem cell_one_at (w : World) (x : Value) (t : TypeId) (g : Nat) (hg : g = w.heap.size) : ∀ j u, [x][j]? = some u → (w.alloc (.cells #[x] t)).cell? ((⟨g, 0, none⟩ : Addr).add j) = some u := by
  intro j u hj
  subst hg
  match j, hj with
  | 0, hj => simp at hj; subst hj; simp [Addr.add]
  | (j + 1), hj => simp at hj
theorem two_one (k : Int) (A : Option Addr) (n c : Nat) : ∀ u ∈ [Value.int .i64 k, .slice A n c], u.oneCell' = true := by
  intro u hu
  simp at hu
  rcases hu with rfl | rfl <;> rfl
end Go.Proofs.Ytpegmingmcedmaa
