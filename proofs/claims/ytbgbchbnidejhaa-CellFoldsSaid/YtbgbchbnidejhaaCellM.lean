/- Layer 5, plain: cells, what they are together, in any order and in parts. No program's text is met here. -/
import Derived.Test.YtbgbchbnidejhaaWideM
namespace Go.Proofs.Ytbgbchbnidejhaa

/-- A cell: Count, Sums, Mins, Maxs. -/
abbrev PC := Int × List Int × List Int × List Int
def zeroC : PC := (0, [], [], [])
def inV (x : Int) : Prop := -2305843009213693952 ≤ x ∧ x ≤ 2305843009213693952
def inS (x : Int) : Prop := -4611686018427387904 ≤ x ∧ x ≤ 4611686018427387904
instance (x : Int) : Decidable (inV x) := by unfold inV; exact inferInstance
instance (x : Int) : Decidable (inS x) := by unfold inS; exact inferInstance
/-- The empty cell of so many measures. -/
def cEmpty (m : Nat) : PC := (0, List.replicate m 0, List.replicate m 0, List.replicate m 0)
/-- May a measure be so, by its Count, Sum, Min and Max? -/
def mMay (n s lo hi : Int) : Prop := lo ≤ hi ∧ inV lo ∧ inV hi ∧ inS s ∧ (n = 1 → s = lo ∧ s = hi)
instance (n s lo hi : Int) : Decidable (mMay n s lo hi) := by unfold mMay; exact inferInstance
/-- May a cell that is not the empty one be, by what stands in it? -/
def fullMay (c : PC) : Prop := 1 ≤ c.1 ∧ c.1 ≤ 1099511627776 ∧ ∀ i, i < c.2.1.length → mMay c.1 (c.2.1.getD i 0) (c.2.2.1.getD i 0) (c.2.2.2.getD i 0)
instance (c : PC) : Decidable (fullMay c) := by unfold fullMay; exact inferInstance
def cMay (c : PC) : Prop := c.2.1.length ≤ 2 ∧ c.2.2.1.length = c.2.1.length ∧ c.2.2.2.length = c.2.1.length ∧ (c = cEmpty c.2.1.length ∨ fullMay c)
instance (c : PC) : Decidable (cMay c) := by unfold cMay; exact inferInstance

/-- May a measure be so, of a cell with so many values, empty or not? -/
def mayP (n s lo hi : Int) : Prop := (n = 0 ∧ s = 0 ∧ lo = 0 ∧ hi = 0) ∨ (n ≠ 0 ∧ mMay n s lo hi)
instance (n s lo hi : Int) : Decidable (mayP n s lo hi) := by unfold mayP; exact inferInstance
theorem zeros_iff {l : List Int} {m : Nat} (hl : l.length = m) : l = List.replicate m 0 ↔ ∀ i, i < m → l.getD i 0 = 0 := by
  constructor
  · rintro rfl i hi
    simp [List.getD_eq_getElem?_getD, hi]
  · intro h
    apply List.ext_getElem (by simp [hl])
    intro k h1 h2
    have := h k (by omega)
    rw [List.getD_eq_getElem?_getD, List.getElem?_eq_getElem h1] at this
    simpa using this
theorem cMay_iff (n : Int) (S M X : List Int) : cMay (n, S, M, X) ↔ S.length ≤ 2 ∧ M.length = S.length ∧ X.length = S.length ∧ 0 ≤ n ∧ n ≤ 1099511627776 ∧ ∀ i, i < S.length → mayP n (S.getD i 0) (M.getD i 0) (X.getD i 0) := by
  unfold cMay
  show (S.length ≤ 2 ∧ M.length = S.length ∧ X.length = S.length ∧ ((n, S, M, X) = cEmpty S.length ∨ fullMay (n, S, M, X))) ↔ _
  constructor
  · rintro ⟨h1, h2, h3, h4⟩
    refine ⟨h1, h2, h3, ?_⟩
    rcases h4 with h4 | ⟨h5, h6, h7⟩
    · simp only [cEmpty, Prod.mk.injEq] at h4
      obtain ⟨rfl, e1, e2, e3⟩ := h4
      have a1 := (zeros_iff (l := S) (m := S.length) rfl).1 e1
      have a2 := (zeros_iff h2).1 e2
      have a3 := (zeros_iff h3).1 e3
      exact ⟨by decide, by decide, fun i hi => .inl ⟨rfl, a1 i hi, a2 i hi, a3 i hi⟩⟩
    · have h5 : 1 ≤ n := h5
      have h6 : n ≤ 1099511627776 := h6
      exact ⟨by omega, h6, fun i hi => .inr ⟨by omega, h7 i hi⟩⟩
  · rintro ⟨h1, h2, h3, h4, h5, h6⟩
    refine ⟨h1, h2, h3, ?_⟩
    by_cases hn : n = 0
    · subst hn
      left
      have key : ∀ i, i < S.length → S.getD i 0 = 0 ∧ M.getD i 0 = 0 ∧ X.getD i 0 = 0 := fun i hi => by
        rcases h6 i hi with ⟨_, a, b, c⟩ | ⟨h, _⟩
        · exact ⟨a, b, c⟩
        · exact absurd rfl h
      simp only [cEmpty, Prod.mk.injEq]
      exact ⟨trivial, (zeros_iff (l := S) (m := S.length) rfl).2 fun i hi => (key i hi).1, (zeros_iff h2).2 fun i hi => (key i hi).2.1, (zeros_iff h3).2 fun i hi => (key i hi).2.2⟩
    · right
      refine ⟨by show 1 ≤ n; omega, h5, fun i hi => ?_⟩
      rcases h6 i hi with ⟨h, _⟩ | ⟨_, h⟩
      · exact absurd h hn
      · exact h
theorem cEmpty_may {m : Nat} (h : m ≤ 2) : cMay (cEmpty m) := ⟨by simpa [cEmpty] using h, by simp [cEmpty], by simp [cEmpty], .inl (by simp [cEmpty])⟩

/-! ### The least and the greatest -/
def minL : List Int → Int
  | [] => 0
  | x :: l => l.foldl min x
def maxL : List Int → Int
  | [] => 0
  | x :: l => l.foldl max x
theorem minL_one (x : Int) : minL [x] = x := rfl
theorem maxL_one (x : Int) : maxL [x] = x := rfl
theorem minL_snoc {l : List Int} (h : l ≠ []) (x : Int) : minL (l ++ [x]) = min (minL l) x := by
  cases l with
  | nil => exact absurd rfl h
  | cons y l => simp [minL]
theorem maxL_snoc {l : List Int} (h : l ≠ []) (x : Int) : maxL (l ++ [x]) = max (maxL l) x := by
  cases l with
  | nil => exact absurd rfl h
  | cons y l => simp [maxL]
theorem minL_spec : ∀ (l : List Int), l ≠ [] → minL l ∈ l ∧ ∀ y ∈ l, minL l ≤ y := by
  have key : ∀ (l : List Int) (x : Int), (l.foldl min x = x ∨ l.foldl min x ∈ l) ∧ l.foldl min x ≤ x ∧ ∀ y ∈ l, l.foldl min x ≤ y := by
    intro l
    induction l with
    | nil => intro x; exact ⟨.inl rfl, Int.le_refl _, fun y hy => by cases hy⟩
    | cons z l ih =>
      intro x
      obtain ⟨h1, h2, h3⟩ := ih (min x z)
      simp only [List.foldl_cons, List.mem_cons]
      refine ⟨?_, by omega, fun y hy => ?_⟩
      · rcases h1 with h | h
        · rw [h]
          rcases Int.le_total x z with h4 | h4
          · exact .inl (by omega)
          · exact .inr (.inl (by omega))
        · exact .inr (.inr h)
      · rcases hy with rfl | hy
        · omega
        · exact h3 y hy
  intro l hl
  cases l with
  | nil => exact absurd rfl hl
  | cons x l =>
    obtain ⟨h1, h2, h3⟩ := key l x
    refine ⟨?_, fun y hy => ?_⟩
    · rcases h1 with h | h
      · show l.foldl min x ∈ x :: l
        rw [h]; exact List.mem_cons_self ..
      · exact List.mem_cons_of_mem _ h
    · rcases List.mem_cons.1 hy with rfl | hy
      · exact h2
      · exact h3 y hy
theorem maxL_spec : ∀ (l : List Int), l ≠ [] → maxL l ∈ l ∧ ∀ y ∈ l, y ≤ maxL l := by
  have key : ∀ (l : List Int) (x : Int), (l.foldl max x = x ∨ l.foldl max x ∈ l) ∧ x ≤ l.foldl max x ∧ ∀ y ∈ l, y ≤ l.foldl max x := by
    intro l
    induction l with
    | nil => intro x; exact ⟨.inl rfl, Int.le_refl _, fun y hy => by cases hy⟩
    | cons z l ih =>
      intro x
      obtain ⟨h1, h2, h3⟩ := ih (max x z)
      simp only [List.foldl_cons, List.mem_cons]
      refine ⟨?_, by omega, fun y hy => ?_⟩
      · rcases h1 with h | h
        · rw [h]
          rcases Int.le_total x z with h4 | h4
          · exact .inr (.inl (by omega))
          · exact .inl (by omega)
        · exact .inr (.inr h)
      · rcases hy with rfl | hy
        · omega
        · exact h3 y hy
  intro l hl
  cases l with
  | nil => exact absurd rfl hl
  | cons x l =>
    obtain ⟨h1, h2, h3⟩ := key l x
    refine ⟨?_, fun y hy => ?_⟩
    · rcases h1 with h | h
      · show l.foldl max x ∈ x :: l
        rw [h]; exact List.mem_cons_self ..
      · exact List.mem_cons_of_mem _ h
    · rcases List.mem_cons.1 hy with rfl | hy
      · exact h2
      · exact h3 y hy
theorem minL_same {a b : List Int} (ha : a ≠ []) (hb : b ≠ []) (h : ∀ x, x ∈ a ↔ x ∈ b) : minL a = minL b := by
  obtain ⟨h1, h2⟩ := minL_spec a ha
  obtain ⟨h3, h4⟩ := minL_spec b hb
  have h5 := h2 _ ((h _).2 h3)
  have h6 := h4 _ ((h _).1 h1)
  omega
theorem maxL_same {a b : List Int} (ha : a ≠ []) (hb : b ≠ []) (h : ∀ x, x ∈ a ↔ x ∈ b) : maxL a = maxL b := by
  obtain ⟨h1, h2⟩ := maxL_spec a ha
  obtain ⟨h3, h4⟩ := maxL_spec b hb
  have h5 := h2 _ ((h _).2 h3)
  have h6 := h4 _ ((h _).1 h1)
  omega
theorem minL_app {a b : List Int} (ha : a ≠ []) (hb : b ≠ []) : minL (a ++ b) = min (minL a) (minL b) := by
  obtain ⟨h1, h2⟩ := minL_spec a ha
  obtain ⟨h3, h4⟩ := minL_spec b hb
  obtain ⟨h5, h6⟩ := minL_spec (a ++ b) (by simp [ha])
  have h7 := h6 _ (List.mem_append_left b h1)
  have h8 := h6 _ (List.mem_append_right a h3)
  rcases List.mem_append.1 h5 with h | h
  · have := h2 _ h; omega
  · have := h4 _ h; omega
theorem maxL_app {a b : List Int} (ha : a ≠ []) (hb : b ≠ []) : maxL (a ++ b) = max (maxL a) (maxL b) := by
  obtain ⟨h1, h2⟩ := maxL_spec a ha
  obtain ⟨h3, h4⟩ := maxL_spec b hb
  obtain ⟨h5, h6⟩ := maxL_spec (a ++ b) (by simp [ha])
  have h7 := h6 _ (List.mem_append_left b h1)
  have h8 := h6 _ (List.mem_append_right a h3)
  rcases List.mem_append.1 h5 with h | h
  · have := h2 _ h; omega
  · have := h4 _ h; omega
theorem sumI_perm {a b : List Int} (h : a.Perm b) : sumI a = sumI b := by
  induction h with
  | nil => rfl
  | cons x _ ih => simp only [sumI, ih]
  | swap x y l => simp only [sumI]; omega
  | trans _ _ h1 h2 => rw [h1, h2]

/-! ### Folds -/
/-- Are they values of so many measures? -/
def isVal (m : Int) (v : List Int) : Prop := (v.length : Int) = m ∧ ∀ x ∈ v, inV x
instance (m : Int) (v : List Int) : Decidable (isVal m v) := by unfold isVal; exact inferInstance
/-- The k-th of each. -/
def colI (l : List (List Int)) (k : Nat) : List Int := l.map fun v => v.getD k 0
/-- All of l together, whether it may be or not. -/
def foldC (m : Nat) (l : List (List Int)) : PC := (l.length, (List.range m).map fun k => sumI (colI l k), (List.range m).map fun k => minL (colI l k), (List.range m).map fun k => maxL (colI l k))
/-- What Fold answers. -/
def cFold (m : Int) (l : List (List Int)) : PC × Int :=
  if m < 0 ∨ 2 < m then (zeroC, 1)
  else if ∃ v ∈ l, ¬ isVal m v then (zeroC, 1)
  else if l = [] then (cEmpty m.toNat, 0)
  else if ∀ k, k < m.toNat → inS (sumI (colI l k)) then (foldC m.toNat l, 0)
  else (zeroC, 14)
theorem cFold_perm (m : Int) {a b : List (List Int)} (h : a.Perm b) : cFold m a = cFold m b := by
  unfold cFold
  have hcol : ∀ k, (colI a k).Perm (colI b k) := fun k => h.map _
  have h1 : (∃ v ∈ a, ¬ isVal m v) ↔ (∃ v ∈ b, ¬ isVal m v) := ⟨fun ⟨v, h1, h2⟩ => ⟨v, h.mem_iff.1 h1, h2⟩, fun ⟨v, h1, h2⟩ => ⟨v, h.mem_iff.2 h1, h2⟩⟩
  have h2 : a = [] ↔ b = [] := ⟨fun e => by subst e; exact h.nil_eq.symm, fun e => by subst e; exact h.symm.nil_eq.symm⟩
  simp only [h1, h2, fun k => sumI_perm (hcol k)]
  split
  · rfl
  · split
    · rfl
    · split
      · rfl
      · rename_i hb
        have ha : a ≠ [] := fun e => hb (h2.1 e)
        have hm : ∀ k, minL (colI a k) = minL (colI b k) := fun k => minL_same (by simp [colI, ha]) (by simp [colI, hb]) fun x => (hcol k).mem_iff
        have hM : ∀ k, maxL (colI a k) = maxL (colI b k) := fun k => maxL_same (by simp [colI, ha]) (by simp [colI, hb]) fun x => (hcol k).mem_iff
        simp only [foldC, h.length_eq, fun k => sumI_perm (hcol k), hm, hM]
theorem cFold_reverse (m : Int) (l : List (List Int)) : cFold m l.reverse = cFold m l := cFold_perm m (List.reverse_perm l)
theorem cFold_turned (m : Int) (l : List (List Int)) (t : Nat) : cFold m (l.drop t ++ l.take t) = cFold m l :=
  cFold_perm m (List.perm_append_comm.trans (by rw [List.take_append_drop]))

/-! ### Two together -/
def putC (a b : PC) : PC := (a.1 + b.1, List.zipWith (· + ·) a.2.1 b.2.1, List.zipWith min a.2.2.1 b.2.2.1, List.zipWith max a.2.2.2 b.2.2.2)
/-- What Merge answers. -/
def cMerge (a b : PC) : PC × Int :=
  if ¬ cMay a ∨ ¬ cMay b ∨ a.2.1.length ≠ b.2.1.length then (zeroC, 1)
  else if a.1 = 0 then (b, 0)
  else if b.1 = 0 then (a, 0)
  else if (∀ k, k < a.2.1.length → inS ((putC a b).2.1.getD k 0)) ∧ a.1 + b.1 ≤ 1099511627776 then (putC a b, 0)
  else (zeroC, 14)
theorem foldC_length (m : Nat) (l : List (List Int)) : (foldC m l).2.1.length = m ∧ (foldC m l).2.2.1.length = m ∧ (foldC m l).2.2.2.length = m := by simp [foldC]
theorem foldC_get {m k : Nat} (l : List (List Int)) (h : k < m) : (foldC m l).2.1.getD k 0 = sumI (colI l k) ∧ (foldC m l).2.2.1.getD k 0 = minL (colI l k) ∧ (foldC m l).2.2.2.getD k 0 = maxL (colI l k) := by
  simp [foldC, List.getD_eq_getElem?_getD, h]
theorem colI_val {m : Nat} {l : List (List Int)} (h : ∀ v ∈ l, isVal m v) {k : Nat} (hk : k < m) : ∀ x ∈ colI l k, inV x := by
  intro x hx
  obtain ⟨v, hv, rfl⟩ := List.mem_map.1 hx
  obtain ⟨h1, h2⟩ := h v hv
  have hl : k < v.length := by omega
  rw [List.getD_eq_getElem?_getD, List.getElem?_eq_getElem hl]
  exact h2 _ (List.getElem_mem hl)
theorem colI_ne {l : List (List Int)} (h : l ≠ []) (k : Nat) : colI l k ≠ [] := by simp [colI, h]
theorem foldC_may {m : Nat} {l : List (List Int)} (hm : m ≤ 2) (hl : l ≠ []) (hn : l.length ≤ 1000) (hv : ∀ v ∈ l, isVal m v) (hs : ∀ k, k < m → inS (sumI (colI l k))) : cMay (foldC m l) := by
  obtain ⟨h1, h2, h3⟩ := foldC_length m l
  refine ⟨by omega, by omega, by omega, .inr ⟨?_, ?_, fun i hi => ?_⟩⟩
  · have : 0 < l.length := List.length_pos_iff.2 hl
    show 1 ≤ (l.length : Int)
    omega
  · show (l.length : Int) ≤ _
    omega
  · rw [h1] at hi
    obtain ⟨e1, e2, e3⟩ := foldC_get l hi
    rw [e1, e2, e3]
    obtain ⟨a1, a2⟩ := minL_spec _ (colI_ne hl i)
    obtain ⟨b1, b2⟩ := maxL_spec _ (colI_ne hl i)
    refine ⟨a2 _ b1, colI_val hv hi _ a1, colI_val hv hi _ b1, hs i hi, fun e => ?_⟩
    have e : (l.length : Int) = 1 := e
    match l, hl, e with
    | [v], _, _ => simp [colI, sumI, minL, maxL]
    | _ :: _ :: _, _, e => simp at e; omega
theorem list_eq_getD {a b : List Int} {m : Nat} (ha : a.length = m) (hb : b.length = m) (h : ∀ k, k < m → a.getD k 0 = b.getD k 0) : a = b := by
  apply List.ext_getElem (by omega)
  intro k h1 h2
  have := h k (by omega)
  rwa [List.getD_eq_getElem?_getD, List.getD_eq_getElem?_getD, List.getElem?_eq_getElem h1, List.getElem?_eq_getElem h2] at this
theorem zip_getD (f : Int → Int → Int) {a b : List Int} {m k : Nat} (ha : a.length = m) (hb : b.length = m) (hk : k < m) : (List.zipWith f a b).getD k 0 = f (a.getD k 0) (b.getD k 0) := by
  simp only [List.getD_eq_getElem?_getD, List.getElem?_zipWith, List.getElem?_eq_getElem (show k < a.length by omega), List.getElem?_eq_getElem (show k < b.length by omega)]
  rfl
theorem putC_fold (m : Nat) {a b : List (List Int)} (ha : a ≠ []) (hb : b ≠ []) : putC (foldC m a) (foldC m b) = foldC m (a ++ b) := by
  obtain ⟨a1, a2, a3⟩ := foldC_length m a
  obtain ⟨b1, b2, b3⟩ := foldC_length m b
  obtain ⟨c1, c2, c3⟩ := foldC_length m (a ++ b)
  have hcol : ∀ k, colI (a ++ b) k = colI a k ++ colI b k := fun k => List.map_append
  refine Prod.ext ?_ (Prod.ext ?_ (Prod.ext ?_ ?_))
  · show (a.length : Int) + (b.length : Int) = ((a ++ b).length : Int)
    rw [List.length_append]; omega
  · refine list_eq_getD (m := m) (by simp [putC, foldC]) c1 fun k hk => ?_
    rw [(foldC_get (a ++ b) hk).1]
    show (List.zipWith (· + ·) _ _).getD k 0 = _
    rw [zip_getD _ a1 b1 hk, (foldC_get a hk).1, (foldC_get b hk).1, hcol, sumI_app]
  · refine list_eq_getD (m := m) (by simp [putC, foldC]) c2 fun k hk => ?_
    rw [(foldC_get (a ++ b) hk).2.1]
    show (List.zipWith min _ _).getD k 0 = _
    rw [zip_getD _ a2 b2 hk, (foldC_get a hk).2.1, (foldC_get b hk).2.1, hcol, minL_app (colI_ne ha k) (colI_ne hb k)]
  · refine list_eq_getD (m := m) (by simp [putC, foldC]) c3 fun k hk => ?_
    rw [(foldC_get (a ++ b) hk).2.2]
    show (List.zipWith max _ _).getD k 0 = _
    rw [zip_getD _ a3 b3 hk, (foldC_get a hk).2.2, (foldC_get b hk).2.2, hcol, maxL_app (colI_ne ha k) (colI_ne hb k)]

/-- The ways of a fold. -/
theorem cFold_arg {m : Int} {l : List (List Int)} (h : m < 0 ∨ 2 < m ∨ ∃ v ∈ l, ¬ isVal m v) : cFold m l = (zeroC, 1) := by
  unfold cFold
  by_cases h1 : m < 0 ∨ 2 < m
  · rw [if_pos h1]
  · rw [if_neg h1, if_pos (by rcases h with h | h | h; exact absurd (.inl h) h1; exact absurd (.inr h) h1; exact h)]
theorem cFold_none {m : Int} (h : ¬ (m < 0 ∨ 2 < m)) : cFold m [] = (cEmpty m.toNat, 0) := by
  unfold cFold
  rw [if_neg h, if_neg (by simp), if_pos rfl]
theorem cFold_all {m : Int} {l : List (List Int)} (h : ¬ (m < 0 ∨ 2 < m)) (hv : ∀ v ∈ l, isVal m v) (hl : l ≠ []) : cFold m l = if ∀ k, k < m.toNat → inS (sumI (colI l k)) then (foldC m.toNat l, 0) else (zeroC, 14) := by
  unfold cFold
  rw [if_neg h, if_neg (by rintro ⟨v, h1, h2⟩; exact h2 (hv v h1)), if_neg hl]
theorem cFold_cases (m : Int) (l : List (List Int)) (hn : l.length ≤ 1000) :
    ((m < 0 ∨ 2 < m ∨ ∃ v ∈ l, ¬ isVal m v) ∧ cFold m l = (zeroC, 1)) ∨
    (¬ (m < 0 ∨ 2 < m) ∧ (∀ v ∈ l, isVal m v) ∧ ((cFold m l = ((if l = [] then cEmpty m.toNat else foldC m.toNat l), 0) ∧ cMay (cFold m l).1) ∨ (l ≠ [] ∧ cFold m l = (zeroC, 14)))) := by
  by_cases h : m < 0 ∨ 2 < m
  · exact .inl ⟨h.elim .inl (fun h => .inr (.inl h)), cFold_arg (h.elim .inl (fun h => .inr (.inl h)))⟩
  · by_cases hv : ∃ v ∈ l, ¬ isVal m v
    · exact .inl ⟨.inr (.inr hv), cFold_arg (.inr (.inr hv))⟩
    · have hv' : ∀ v ∈ l, isVal m v := fun v h1 => Decidable.byContradiction fun h2 => hv ⟨v, h1, h2⟩
      refine .inr ⟨h, hv', ?_⟩
      by_cases hl : l = []
      · subst hl
        rw [if_pos rfl, cFold_none h]
        exact .inl ⟨rfl, cEmpty_may (by omega)⟩
      · rw [if_neg hl, cFold_all h hv' hl]
        by_cases hs : ∀ k, k < m.toNat → inS (sumI (colI l k))
        · rw [if_pos hs]
          exact .inl ⟨rfl, foldC_may (by omega) hl hn (fun v hv => by have := hv' v hv; rwa [show ((m.toNat : Nat) : Int) = m by omega]) hs⟩
        · rw [if_neg hs]
          exact .inr ⟨hl, rfl⟩
/-- A fold is the merge of the folds of two parts, if these may be. -/
theorem cFold_parts (m : Int) (a b : List (List Int)) (hn : (a ++ b).length ≤ 1000) :
    (((cFold m a).2 = 1 ∨ (cFold m b).2 = 1) → (cFold m (a ++ b)).2 = 1) ∧
    ((cFold m a).2 ≠ 1 → (cFold m b).2 ≠ 1 → (cFold m (a ++ b)).2 = 0 ∨ (cFold m (a ++ b)).2 = 14) ∧
    ((cFold m a).2 = 0 → (cFold m b).2 = 0 → cMay (cFold m a).1 ∧ cMay (cFold m b).1 ∧ cMerge (cFold m a).1 (cFold m b).1 = cFold m (a ++ b)) := by
  have hla : a.length ≤ 1000 := by rw [List.length_append] at hn; omega
  have hlb : b.length ≤ 1000 := by rw [List.length_append] at hn; omega
  rcases cFold_cases m a hla with ⟨ha, ea⟩ | ⟨hm, hva, ha⟩
  · have : cFold m (a ++ b) = (zeroC, 1) := cFold_arg (by
      rcases ha with h | h | ⟨v, h1, h2⟩
      · exact .inl h
      · exact .inr (.inl h)
      · exact .inr (.inr ⟨v, List.mem_append_left _ h1, h2⟩))
    rw [this, ea]
    exact ⟨fun _ => rfl, fun h => absurd rfl h, fun h => by cases h⟩
  · rcases cFold_cases m b hlb with ⟨hb, eb⟩ | ⟨_, hvb, hb⟩
    · have : cFold m (a ++ b) = (zeroC, 1) := cFold_arg (by
        rcases hb with h | h | ⟨v, h1, h2⟩
        · exact .inl h
        · exact .inr (.inl h)
        · exact .inr (.inr ⟨v, List.mem_append_right _ h1, h2⟩))
      rw [this, eb]
      exact ⟨fun _ => rfl, fun _ h => absurd rfl h, fun _ h => by cases h⟩
    · have hvab : ∀ v ∈ a ++ b, isVal m v := fun v h => (List.mem_append.1 h).elim (hva v) (hvb v)
      have hab : (cFold m (a ++ b)).2 = 0 ∨ (cFold m (a ++ b)).2 = 14 := by
        rcases cFold_cases m (a ++ b) hn with ⟨h, _⟩ | ⟨_, _, ⟨h, _⟩ | ⟨_, h⟩⟩
        · rcases h with h | h | ⟨v, h1, h2⟩
          · exact absurd (.inl h) hm
          · exact absurd (.inr h) hm
          · exact absurd (hvab v h1) h2
        · rw [h]; exact .inl rfl
        · rw [h]; exact .inr rfl
      have n1 : ∀ (l : List (List Int)), ((cFold m l = ((if l = [] then cEmpty m.toNat else foldC m.toNat l), 0) ∧ cMay (cFold m l).1) ∨ (l ≠ [] ∧ cFold m l = (zeroC, 14))) → (cFold m l).2 ≠ 1 := by
        intro l h
        rcases h with ⟨h, _⟩ | ⟨_, h⟩
        · rw [h]; exact (show (0 : Int) ≠ 1 by decide)
        · rw [h]; exact (show (14 : Int) ≠ 1 by decide)
      refine ⟨fun h => h.elim (fun h => absurd h (n1 a ha)) (fun h => absurd h (n1 b hb)), fun _ _ => hab, fun h0 h1 => ?_⟩
      rcases ha with ⟨ea, ma⟩ | ⟨_, ea⟩
      · rcases hb with ⟨eb, mb⟩ | ⟨_, eb⟩
        · refine ⟨ma, mb, ?_⟩
          rw [ea] at ma ⊢
          rw [eb] at mb ⊢
          have ma : cMay (if a = [] then cEmpty m.toNat else foldC m.toNat a) := ma
          have mb : cMay (if b = [] then cEmpty m.toNat else foldC m.toNat b) := mb
          have la : (if a = [] then cEmpty m.toNat else foldC m.toNat a).2.1.length = m.toNat := by split; simp [cEmpty]; exact (foldC_length _ _).1
          have lb : (if b = [] then cEmpty m.toNat else foldC m.toNat b).2.1.length = m.toNat := by split; simp [cEmpty]; exact (foldC_length _ _).1
          unfold cMerge
          rw [if_neg (by rintro (h | h | h); exact h ma; exact h mb; exact h (la.trans lb.symm))]
          by_cases h2 : a = []
          · subst h2
            rw [if_pos (by rw [if_pos rfl]; rfl), List.nil_append, eb]
          · rw [if_neg h2] at la ⊢
            have hap : 0 < a.length := List.length_pos_iff.2 h2
            rw [if_neg (show ¬ (foldC m.toNat a).1 = 0 from by show ¬ (a.length : Int) = 0; omega)]
            by_cases h3 : b = []
            · subst h3
              rw [if_pos (by rw [if_pos rfl]; rfl), List.append_nil, ea, if_neg h2]
            · rw [if_neg h3]
              have hbp : 0 < b.length := List.length_pos_iff.2 h3
              rw [if_neg (show ¬ (foldC m.toNat b).1 = 0 from by show ¬ (b.length : Int) = 0; omega), putC_fold m.toNat h2 h3, cFold_all hm hvab (by simp [h2])]
              have hc : (foldC m.toNat a).1 + (foldC m.toNat b).1 ≤ 1099511627776 := by
                show (a.length : Int) + (b.length : Int) ≤ _
                omega
              rw [la]
              by_cases hs : ∀ k, k < m.toNat → inS (sumI (colI (a ++ b) k))
              · rw [if_pos hs, if_pos ⟨fun k hk => by rw [(foldC_get _ hk).1]; exact hs k hk, hc⟩]
              · rw [if_neg hs, if_neg (fun h => hs fun k hk => by have := h.1 k hk; rwa [(foldC_get _ hk).1] at this)]
        · rw [eb] at h1; cases h1
      · rw [ea] at h0; cases h0

/-! ### Many together -/
/-- Those that are not empty. -/
def fullC (l : List PC) : List PC := l.filter fun c => decide (c.1 ≠ 0)
/-- All of l together, whether it may be or not. -/
def sumC (m : Nat) (l : List PC) : PC :=
  (sumI (l.map (·.1)), (List.range m).map fun k => sumI (l.map fun c => c.2.1.getD k 0), (List.range m).map fun k => minL ((fullC l).map fun c => c.2.2.1.getD k 0), (List.range m).map fun k => maxL ((fullC l).map fun c => c.2.2.2.getD k 0))
/-- How many measures the first one has. -/
def headM (l : List PC) : Nat := (l.headD zeroC).2.1.length
/-- What Sum answers. -/
def cSum (l : List PC) : PC × Int :=
  if l = [] ∨ ∃ c ∈ l, ¬ cMay c ∨ c.2.1.length ≠ headM l then (zeroC, 1)
  else if sumI (l.map (·.1)) ≤ 1099511627776 ∧ ∀ k, k < headM l → inS (sumI (l.map fun c => c.2.1.getD k 0)) then (sumC (headM l) l, 0)
  else (zeroC, 14)
end Go.Proofs.Ytbgbchbnidejhaa
