/- Layer 5, plain: many cells together, as two and as values. -/
import Derived.Test.YtbgbchbnidejhaaCellM
namespace Go.Proofs.Ytbgbchbnidejhaa

theorem empty_is {c : PC} {m : Nat} (h : cMay c) (hm : c.2.1.length = m) (h0 : c.1 = 0) : c = cEmpty m := by
  obtain ⟨_, _, _, h4 | ⟨h5, _⟩⟩ := h
  · rw [hm] at h4; exact h4
  · omega
theorem sumI_full {f : PC → Int} : ∀ {L : List PC}, (∀ c ∈ L, c.1 = 0 → f c = 0) → sumI (L.map f) = sumI ((fullC L).map f) := by
  intro L
  induction L with
  | nil => intro _; rfl
  | cons c L ih =>
    intro h
    have h1 := ih fun d hd => h d (List.mem_cons_of_mem _ hd)
    unfold fullC at h1 ⊢
    by_cases h0 : c.1 = 0
    · rw [List.filter_cons_of_neg (by simpa using h0), List.map_cons]
      simp only [sumI]
      rw [h c (List.mem_cons_self ..) h0, h1, Int.zero_add]
    · rw [List.filter_cons_of_pos (by simpa using h0), List.map_cons, List.map_cons]
      simp only [sumI]
      rw [h1]
theorem fullC_twice (L : List PC) : fullC (fullC L) = fullC L := by
  unfold fullC
  exact List.filter_eq_self.2 fun c hc => (List.mem_filter.1 hc).2
theorem cEmpty_sum (m k : Nat) : (cEmpty m).2.1.getD k 0 = 0 := by
  simp only [cEmpty, List.getD_eq_getElem?_getD, List.getElem?_replicate]
  split <;> rfl
theorem sumC_full {m : Nat} {L : List PC} (h : ∀ c ∈ L, c.1 = 0 → c = cEmpty m) : sumC m L = sumC m (fullC L) := by
  unfold sumC
  rw [fullC_twice, sumI_full (f := (·.1)) (fun c _ h0 => h0)]
  have h2 : ∀ k, sumI (L.map fun c => c.2.1.getD k 0) = sumI ((fullC L).map fun c => c.2.1.getD k 0) := fun k =>
    sumI_full (f := fun c => c.2.1.getD k 0) fun c hc h0 => by show c.2.1.getD k 0 = 0; rw [h c hc h0]; exact cEmpty_sum m k
  simp only [h2]
theorem sumC_none (m : Nat) : sumC m [] = cEmpty m := by
  simp [sumC, cEmpty, sumI, fullC, minL, maxL, List.map_const']
theorem sumC_one {m : Nat} {c : PC} (h : cMay c) (hm : c.2.1.length = m) (h0 : c.1 ≠ 0) : sumC m [c] = c := by
  have hf : fullC [c] = [c] := by unfold fullC; simp [h0]
  obtain ⟨_, l2, l3, _⟩ := h
  refine Prod.ext ?_ (Prod.ext ?_ (Prod.ext ?_ ?_))
  · simp [sumC, sumI]
  · refine list_eq_getD (m := m) (by simp [sumC]) hm fun k hk => ?_
    simp [sumC, sumI, List.getD_eq_getElem?_getD, hk]
  · refine list_eq_getD (m := m) (by simp [sumC]) (by omega) fun k hk => ?_
    unfold sumC
    rw [hf]
    simp [minL, List.getD_eq_getElem?_getD, hk]
  · refine list_eq_getD (m := m) (by simp [sumC]) (by omega) fun k hk => ?_
    unfold sumC
    rw [hf]
    simp [maxL, List.getD_eq_getElem?_getD, hk]
theorem sumI_pos {l : List Int} (h : ∀ x ∈ l, 1 ≤ x) : (l.length : Int) ≤ sumI l := by
  induction l with
  | nil => simp [sumI]
  | cons x l ih =>
    have h1 := h x (by simp)
    have h2 := ih fun y hy => h y (by simp [hy])
    simp only [sumI, List.length_cons]
    omega
/-- May many together be? -/
theorem sumC_may {m : Nat} {L : List PC} (hm : m ≤ 2) (hL : ∀ c ∈ L, cMay c ∧ c.2.1.length = m) (hf : fullC L ≠ []) :
    cMay (sumC m L) ↔ sumI (L.map (·.1)) ≤ 1099511627776 ∧ ∀ k, k < m → inS (sumI (L.map fun c => c.2.1.getD k 0)) := by
  have hemp : ∀ c ∈ L, c.1 = 0 → c = cEmpty m := fun c hc h0 => empty_is (hL c hc).1 (hL c hc).2 h0
  have hfull : ∀ c ∈ fullC L, 1 ≤ c.1 ∧ cMay c ∧ c.2.1.length = m ∧ ∀ k, k < m → mMay c.1 (c.2.1.getD k 0) (c.2.2.1.getD k 0) (c.2.2.2.getD k 0) := by
    intro c hc
    obtain ⟨h1, h2⟩ := List.mem_filter.1 hc
    obtain ⟨h3, h4⟩ := hL c h1
    have h5 : c.1 ≠ 0 := by simpa using h2
    have h6 := h3
    obtain ⟨n, S, M, X⟩ := c
    obtain ⟨_, _, _, a1, _, a2⟩ := (cMay_iff n S M X).1 h6
    have h5 : n ≠ 0 := h5
    have h4' : S.length = m := h4
    refine ⟨by show 1 ≤ n; omega, h3, h4, fun k hk => ?_⟩
    rcases a2 k (by omega) with ⟨h, _⟩ | ⟨_, h⟩
    · exact absurd h h5
    · exact h
  have e1 : sumI (L.map (·.1)) = sumI ((fullC L).map (·.1)) := sumI_full (f := (·.1)) (fun c _ h0 => h0)
  have e2 : ∀ k, sumI (L.map fun c => c.2.1.getD k 0) = sumI ((fullC L).map fun c => c.2.1.getD k 0) := fun k =>
    sumI_full (f := fun c => c.2.1.getD k 0) fun c hc h0 => by show c.2.1.getD k 0 = 0; rw [hemp c hc h0]; exact cEmpty_sum m k
  have hlen : 0 < (fullC L).length := List.length_pos_iff.2 hf
  have hpos : ((fullC L).length : Int) ≤ sumI ((fullC L).map (·.1)) := by
    have := sumI_pos (l := (fullC L).map (·.1)) fun x hx => by
      obtain ⟨c, hc, rfl⟩ := List.mem_map.1 hx
      exact (hfull c hc).1
    rwa [List.length_map] at this
  have eS : ∀ k, k < m → (sumC m L).2.1.getD k 0 = sumI (L.map fun c => c.2.1.getD k 0) := fun k hk => by simp [sumC, List.getD_eq_getElem?_getD, hk]
  have eM : ∀ k, k < m → (sumC m L).2.2.1.getD k 0 = minL ((fullC L).map fun c => c.2.2.1.getD k 0) := fun k hk => by simp [sumC, List.getD_eq_getElem?_getD, hk]
  have eX : ∀ k, k < m → (sumC m L).2.2.2.getD k 0 = maxL ((fullC L).map fun c => c.2.2.2.getD k 0) := fun k hk => by simp [sumC, List.getD_eq_getElem?_getD, hk]
  have l1 : (sumC m L).2.1.length = m := by simp [sumC]
  have l2 : (sumC m L).2.2.1.length = m := by simp [sumC]
  have l3 : (sumC m L).2.2.2.length = m := by simp [sumC]
  have e0 : (sumC m L).1 = sumI (L.map (·.1)) := rfl
  generalize sumC m L = s at eS eM eX l1 l2 l3 e0 ⊢
  obtain ⟨n, S, M, X⟩ := s
  have eS : ∀ k, k < m → S.getD k 0 = sumI (L.map fun c => c.2.1.getD k 0) := eS
  have eM : ∀ k, k < m → M.getD k 0 = minL ((fullC L).map fun c => c.2.2.1.getD k 0) := eM
  have eX : ∀ k, k < m → X.getD k 0 = maxL ((fullC L).map fun c => c.2.2.2.getD k 0) := eX
  have l1 : S.length = m := l1
  have l2 : M.length = m := l2
  have l3 : X.length = m := l3
  have e0 : n = sumI (L.map (·.1)) := e0
  rw [cMay_iff]
  constructor
  · rintro ⟨_, _, _, _, h5, h6⟩
    refine ⟨by omega, fun k hk => ?_⟩
    rcases h6 k (by omega) with ⟨h, _⟩ | ⟨_, _, _, _, h, _⟩
    · omega
    · rwa [eS k hk] at h
  · rintro ⟨h1, h2⟩
    refine ⟨by omega, by omega, by omega, by omega, by omega, fun k hk => .inr ⟨by omega, ?_⟩⟩
    rw [l1] at hk
    rw [eS k hk, eM k hk, eX k hk]
    have ne1 : ((fullC L).map fun c => c.2.2.1.getD k 0) ≠ [] := by simpa using hf
    have ne2 : ((fullC L).map fun c => c.2.2.2.getD k 0) ≠ [] := by simpa using hf
    obtain ⟨a1, a2⟩ := minL_spec _ ne1
    obtain ⟨b1, b2⟩ := maxL_spec _ ne2
    obtain ⟨c, hc, ec⟩ := List.mem_map.1 a1
    obtain ⟨d, hd, ed⟩ := List.mem_map.1 b1
    have mc := (hfull c hc).2.2.2 k hk
    have md := (hfull d hd).2.2.2 k hk
    have hcd : c.2.2.2.getD k 0 ≤ maxL ((fullC L).map fun c => c.2.2.2.getD k 0) := b2 _ (List.mem_map.2 ⟨c, hc, rfl⟩)
    refine ⟨?_, ?_, ?_, h2 k hk, fun hn => ?_⟩
    · rw [← ec]
      have := mc.1
      exact Int.le_trans this hcd
    · rw [← ec]; exact mc.2.1
    · rw [← ed]; exact md.2.2.1
    · rw [e0, e1] at hn
      rw [e2]
      match hx : fullC L, hlen, hpos with
      | [x], _, _ =>
        rw [hx] at hn
        have hx1 := (hfull x (by rw [hx]; simp)).2.2.2 k hk
        have hx2 : x.1 = 1 := by simpa [sumI] using hn
        obtain ⟨_, _, _, _, h⟩ := hx1
        have h := h hx2
        simp only [List.map_cons, List.map_nil, sumI, minL, maxL, List.foldl_nil]
        omega
      | x :: y :: t, _, hp =>
        rw [hx] at hn
        simp only [List.length_cons] at hp
        omega

theorem headM_is {m : Nat} {L : List PC} (h : L ≠ []) (hL : ∀ c ∈ L, c.2.1.length = m) : headM L = m := by
  cases L with
  | nil => exact absurd rfl h
  | cons c L => exact hL c (List.mem_cons_self ..)
theorem cSum_arg {L : List PC} (h : L = [] ∨ ∃ c ∈ L, ¬ cMay c ∨ c.2.1.length ≠ headM L) : cSum L = (zeroC, 1) := if_pos h
/-- What cells are together, of which one is not empty. -/
theorem cSum_all {m : Nat} {L : List PC} (hm : m ≤ 2) (hn : L ≠ []) (hL : ∀ c ∈ L, cMay c ∧ c.2.1.length = m) : cSum L = if cMay (sumC m L) then (sumC m L, 0) else (zeroC, 14) := by
  have hh := headM_is hn fun c hc => (hL c hc).2
  unfold cSum
  rw [if_neg (by rintro (h | ⟨c, hc, h | h⟩); exact hn h; exact h (hL c hc).1; exact h (by rw [hh]; exact (hL c hc).2)), hh]
  by_cases hf : fullC L = []
  · have hs : sumC m L = cEmpty m := by
      rw [sumC_full (fun c hc h0 => empty_is (hL c hc).1 (hL c hc).2 h0), hf]; exact sumC_none m
    rw [if_pos (show cMay (sumC m L) from by rw [hs]; exact cEmpty_may hm), if_pos]
    have e0 : (sumC m L).1 = sumI (L.map (·.1)) := rfl
    have eS : ∀ k, k < m → (sumC m L).2.1.getD k 0 = sumI (L.map fun c => c.2.1.getD k 0) := fun k hk => by simp [sumC, List.getD_eq_getElem?_getD, hk]
    refine ⟨by rw [← e0, hs]; exact (by decide : (0 : Int) ≤ 1099511627776), fun k hk => ?_⟩
    rw [← eS k hk, hs, cEmpty_sum]
    exact ⟨by decide, by decide⟩
  · simp only [sumC_may hm hL hf]
theorem cSum_none {m : Nat} {L : List PC} (hm : m ≤ 2) (hn : L ≠ []) (hL : ∀ c ∈ L, cMay c ∧ c.2.1.length = m) (h0 : ∀ c ∈ L, c.1 = 0) : cSum L = (cEmpty m, 0) := by
  have hf : fullC L = [] := by unfold fullC; exact List.filter_eq_nil_iff.2 fun c hc => by simpa using h0 c hc
  have hs : sumC m L = cEmpty m := by
    rw [sumC_full (fun c hc h0 => empty_is (hL c hc).1 (hL c hc).2 h0), hf]; exact sumC_none m
  rw [cSum_all hm hn hL, hs, if_pos (cEmpty_may hm)]
/-- Those ahead that are empty are left out. -/
theorem cSum_drop {m : Nat} {L : List PC} (hm : m ≤ 2) (hn : L ≠ []) (hL : ∀ c ∈ L, cMay c ∧ c.2.1.length = m) {k : Nat} (h0 : ∀ c ∈ L.take k, c.1 = 0) : cSum L = if cMay (sumC m (L.drop k)) then (sumC m (L.drop k), 0) else (zeroC, 14) := by
  have hE : ∀ {L : List PC}, (∀ c ∈ L, cMay c ∧ c.2.1.length = m) → ∀ c ∈ L, c.1 = 0 → c = cEmpty m := fun hL c hc h0 => empty_is (hL c hc).1 (hL c hc).2 h0
  have hs : sumC m (L.drop k) = sumC m L := by
    rw [sumC_full (hE hL), sumC_full (hE fun c hc => hL c (List.mem_of_mem_drop hc))]
    congr 1
    have : fullC (L.take k) = [] := by unfold fullC; exact List.filter_eq_nil_iff.2 fun c hc => by simpa using h0 c hc
    have h2 : fullC (L.take k ++ L.drop k) = fullC (L.take k) ++ fullC (L.drop k) := by unfold fullC; exact List.filter_append ..
    rw [List.take_append_drop, this, List.nil_append] at h2
    exact h2.symm
  rw [hs]; exact cSum_all hm hn hL
theorem putC_sum {m : Nat} {a b : PC} (ha : cMay a) (hb : cMay b) (la : a.2.1.length = m) (lb : b.2.1.length = m) (a0 : a.1 ≠ 0) (b0 : b.1 ≠ 0) : sumC m [a, b] = putC a b := by
  have hf : fullC [a, b] = [a, b] := by unfold fullC; simp [a0, b0]
  obtain ⟨_, a2, a3, _⟩ := ha
  obtain ⟨_, b2, b3, _⟩ := hb
  refine Prod.ext ?_ (Prod.ext ?_ (Prod.ext ?_ ?_))
  · simp [sumC, sumI, putC]
  · refine list_eq_getD (m := m) (by simp [sumC]) (by simp [putC]; omega) fun k hk => ?_
    rw [show (putC a b).2.1 = List.zipWith (· + ·) a.2.1 b.2.1 from rfl, zip_getD _ la lb hk]
    simp [sumC, sumI, List.getD_eq_getElem?_getD, hk]
  · refine list_eq_getD (m := m) (by simp [sumC]) (by simp [putC]; omega) fun k hk => ?_
    rw [show (putC a b).2.2.1 = List.zipWith min a.2.2.1 b.2.2.1 from rfl, zip_getD _ (by omega) (by omega) hk]
    unfold sumC
    rw [hf]
    simp [minL, List.getD_eq_getElem?_getD, hk]
  · refine list_eq_getD (m := m) (by simp [sumC]) (by simp [putC]; omega) fun k hk => ?_
    rw [show (putC a b).2.2.2 = List.zipWith max a.2.2.2 b.2.2.2 from rfl, zip_getD _ (by omega) (by omega) hk]
    unfold sumC
    rw [hf]
    simp [maxL, List.getD_eq_getElem?_getD, hk]
/-- Two together, as many. -/
theorem cSum_two (a b : PC) : cSum [a, b] = cMerge a b := by
  by_cases h : ¬ cMay a ∨ ¬ cMay b ∨ a.2.1.length ≠ b.2.1.length
  · have h1 : cMerge a b = (zeroC, 1) := if_pos h
    rw [h1]
    refine cSum_arg (.inr ?_)
    rcases h with h | h | h
    · exact ⟨a, by simp, .inl h⟩
    · exact ⟨b, by simp, .inl h⟩
    · exact ⟨b, by simp, .inr fun e => h e.symm⟩
  · have ha : cMay a := Decidable.byContradiction fun h1 => h (.inl h1)
    have hb : cMay b := Decidable.byContradiction fun h1 => h (.inr (.inl h1))
    have hl : a.2.1.length = b.2.1.length := Decidable.byContradiction fun h1 => h (.inr (.inr h1))
    have hL : ∀ c ∈ [a, b], cMay c ∧ c.2.1.length = a.2.1.length := by
      intro c hc
      simp only [List.mem_cons, List.not_mem_nil, or_false] at hc
      rcases hc with rfl | rfl
      · exact ⟨ha, rfl⟩
      · exact ⟨hb, hl.symm⟩
    have hm : a.2.1.length ≤ 2 := ha.1
    have hE : ∀ c ∈ [a, b], c.1 = 0 → c = cEmpty a.2.1.length := fun c hc h0 => empty_is (hL c hc).1 (hL c hc).2 h0
    rw [cSum_all hm (by simp) hL]
    unfold cMerge
    rw [if_neg h]
    by_cases a0 : a.1 = 0
    · rw [if_pos a0]
      by_cases b0 : b.1 = 0
      · have hs : sumC a.2.1.length [a, b] = b := by
          rw [sumC_full hE, show fullC [a, b] = [] from by unfold fullC; simp [a0, b0], sumC_none]
          exact (empty_is hb hl.symm b0).symm
        rw [hs, if_pos hb]
      · have hs : sumC a.2.1.length [a, b] = b := by
          rw [sumC_full hE, show fullC [a, b] = [b] from by unfold fullC; simp [a0, b0], sumC_one hb hl.symm b0]
        rw [hs, if_pos hb]
    · rw [if_neg a0]
      by_cases b0 : b.1 = 0
      · have hs : sumC a.2.1.length [a, b] = a := by
          rw [sumC_full hE, show fullC [a, b] = [a] from by unfold fullC; simp [a0, b0], sumC_one ha rfl a0]
        rw [hs, if_pos ha, if_pos b0]
      · rw [if_neg b0]
        have hs := putC_sum ha hb rfl hl.symm a0 b0
        have hf : fullC [a, b] ≠ [] := by unfold fullC; simp [a0, b0]
        have hc := sumC_may hm hL hf
        rw [hs] at hc ⊢
        have e1 : sumI ([a, b].map (·.1)) = a.1 + b.1 := by simp [sumI]
        have e2 : ∀ k, k < a.2.1.length → sumI ([a, b].map fun c => c.2.1.getD k 0) = (putC a b).2.1.getD k 0 := fun k hk => by
          rw [show (putC a b).2.1 = List.zipWith (· + ·) a.2.1 b.2.1 from rfl, zip_getD _ rfl hl.symm hk]
          simp [sumI]
        rw [e1] at hc
        have hc2 : cMay (putC a b) ↔ (∀ k, k < a.2.1.length → inS ((putC a b).2.1.getD k 0)) ∧ a.1 + b.1 ≤ 1099511627776 := by
          rw [hc]
          exact ⟨fun ⟨h1, h2⟩ => ⟨fun k hk => by rw [← e2 k hk]; exact h2 k hk, h1⟩, fun ⟨h1, h2⟩ => ⟨h2, fun k hk => by rw [e2 k hk]; exact h1 k hk⟩⟩
        simp only [hc2]

/-- The cell of one list of values. -/
def oneC (v : List Int) : PC := (1, v, v, v)
theorem oneC_may {m : Nat} (hm : m ≤ 2) (v : List Int) : (cMay (oneC v) ∧ (oneC v).2.1.length = m) ↔ isVal m v := by
  unfold oneC isVal
  rw [cMay_iff]
  constructor
  · rintro ⟨⟨_, _, _, _, _, h⟩, hl⟩
    have hl : v.length = m := hl
    refine ⟨by omega, fun x hx => ?_⟩
    obtain ⟨k, hk, rfl⟩ := List.mem_iff_getElem.1 hx
    rcases h k hk with ⟨h, _⟩ | ⟨_, _, h, _⟩
    · cases h
    · rwa [List.getD_eq_getElem?_getD, List.getElem?_eq_getElem hk] at h
  · rintro ⟨hl, h⟩
    have hl : v.length = m := by omega
    refine ⟨⟨by omega, rfl, rfl, by decide, by decide, fun k hk => .inr ⟨by decide, ?_⟩⟩, hl⟩
    rw [List.getD_eq_getElem?_getD, List.getElem?_eq_getElem hk]
    have hx := h _ (List.getElem_mem hk)
    refine ⟨Int.le_refl _, hx, hx, ?_, fun _ => ⟨rfl, rfl⟩⟩
    unfold inV at hx
    unfold inS
    simp only [Option.getD_some]
    omega
/-- Values together, as many cells behind the empty one. -/
theorem cSum_fold {m : Nat} (hm : m ≤ 2) (l : List (List Int)) (hn : l.length ≤ 1000) : cSum (cEmpty m :: l.map oneC) = cFold m l := by
  have hm' : ¬ ((m : Int) < 0 ∨ 2 < (m : Int)) := by omega
  by_cases hv : ∃ v ∈ l, ¬ isVal m v
  · rw [cFold_arg (.inr (.inr hv))]
    obtain ⟨v, h1, h2⟩ := hv
    refine cSum_arg (.inr ⟨oneC v, List.mem_cons_of_mem _ (List.mem_map.2 ⟨v, h1, rfl⟩), ?_⟩)
    have hh : headM (cEmpty m :: l.map oneC) = m := by show (List.replicate m (0 : Int)).length = m; simp
    rw [hh]
    by_cases h3 : cMay (oneC v)
    · exact .inr fun h4 => h2 ((oneC_may hm v).1 ⟨h3, h4⟩)
    · exact .inl h3
  · have hv' : ∀ v ∈ l, isVal m v := fun v h1 => Decidable.byContradiction fun h2 => hv ⟨v, h1, h2⟩
    have hem : cMay (cEmpty m) ∧ (cEmpty m).2.1.length = m := ⟨cEmpty_may hm, by simp [cEmpty]⟩
    have hL : ∀ c ∈ cEmpty m :: l.map oneC, cMay c ∧ c.2.1.length = m := by
      intro c hc
      rcases List.mem_cons.1 hc with rfl | hc
      · exact hem
      · obtain ⟨v, h1, rfl⟩ := List.mem_map.1 hc
        exact (oneC_may hm v).2 (hv' v h1)
    by_cases hl : l = []
    · subst hl
      rw [cFold_none hm', Int.toNat_natCast]
      exact cSum_none hm (by simp) hL fun c hc => by
        simp only [List.map_nil, List.mem_cons, List.not_mem_nil, or_false] at hc
        rw [hc]; rfl
    · rw [cFold_all hm' hv' hl, Int.toNat_natCast, cSum_all hm (by simp) hL]
      have hfl : fullC (l.map oneC) = l.map oneC := by
        unfold fullC
        exact List.filter_eq_self.2 fun c hc => by
          obtain ⟨v, _, rfl⟩ := List.mem_map.1 hc
          simp [oneC]
      have hff : fullC (cEmpty m :: l.map oneC) = l.map oneC := by
        have : fullC (cEmpty m :: l.map oneC) = fullC (l.map oneC) := by unfold fullC; rw [List.filter_cons_of_neg (by simp [cEmpty])]
        rw [this, hfl]
      have hs : sumC m (cEmpty m :: l.map oneC) = foldC m l := by
        rw [sumC_full (fun c hc h0 => empty_is (hL c hc).1 (hL c hc).2 h0), hff]
        unfold sumC foldC colI
        rw [hfl]
        simp only [List.map_map]
        refine Prod.ext ?_ rfl
        have : ∀ l : List (List Int), sumI (l.map ((fun x : PC => x.1) ∘ oneC)) = (l.length : Int) := by
          intro l
          induction l with
          | nil => rfl
          | cons v l ih =>
            simp only [List.map_cons, sumI, ih, List.length_cons]
            show (1 : Int) + _ = _
            omega
        exact this l
      have hc : cMay (foldC m l) ↔ ∀ k, k < m → inS (sumI (colI l k)) := by
        constructor
        · intro h k hk
          rcases hf : foldC m l with ⟨n, S, M, X⟩
          have e := (foldC_get l hk).1
          have el := (foldC_length m l).1
          rw [hf] at h e el
          obtain ⟨_, _, _, _, _, h6⟩ := (cMay_iff n S M X).1 h
          rcases h6 k (by have : S.length = m := el; omega) with ⟨h0, h1, _⟩ | ⟨_, _, _, _, h1, _⟩
          · rw [← e]
            show inS (S.getD k 0)
            rw [h1]
            exact ⟨by decide, by decide⟩
          · rw [← e]; exact h1
        · exact fun h => foldC_may hm hl hn hv' h
      rw [hs]
      simp only [hc]
end Go.Proofs.Ytbgbchbnidejhaa
