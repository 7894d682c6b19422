/- Layer 8, plain: what a schema is, its corners, what covers what. No program's text is met here. -/
import Derived.Test.YtbiogldapodhmaaNamesM
namespace Go.Proofs.Ytbiogldapodhmaa

/-- A dimension: its name, its levels. -/
abbrev PDim := Txt × List Txt
def zeroD : PDim := ([], [])
def apartP (l : List Txt) (m : Nat) : Prop := 1 ≤ l.length ∧ l.length ≤ m ∧ (∀ s ∈ l, nameP s) ∧ l.Nodup
instance (l : List Txt) (m : Nat) : Decidable (apartP l m) := by unfold apartP; exact inferInstance
def baseP (D : List PDim) : List Int := D.map fun d => (d.2.length : Int)
def cornerP (D : List PDim) (v : List Int) : Prop := v.length = D.length ∧ ∀ i, i < v.length → 0 ≤ v.getD i 0 ∧ v.getD i 0 ≤ (((D.getD i zeroD).2.length : Nat) : Int)
instance (D : List PDim) (v : List Int) : Decidable (cornerP D v) := by unfold cornerP; exact inferInstance
def coversP (v w : List Int) : Prop := v.length = w.length ∧ ∀ i, i < v.length → w.getD i 0 ≤ v.getD i 0
instance (v w : List Int) : Decidable (coversP v w) := by unfold coversP; exact inferInstance
def joinP (v w : List Int) : List Int := if v.length = w.length then List.zipWith max v w else []
def viewsP (D : List PDim) (V : List (List Int)) : List (List Int) := baseP D :: V
def mayDP (D : List PDim) : Prop := (∀ d ∈ D, apartP d.2 3) ∧ apartP (D.map (·.1)) 3
instance (D : List PDim) : Decidable (mayDP D) := by unfold mayDP; exact inferInstance
def mayVP (D : List PDim) (V : List (List Int)) : Prop := V.length ≤ 6 ∧ (∀ v ∈ V, cornerP D v) ∧ (viewsP D V).Nodup
instance (D : List PDim) (V : List (List Int)) : Decidable (mayVP D V) := by unfold mayVP; exact inferInstance
def mayS (D : List PDim) (M : List Txt) (V : List (List Int)) : Prop := mayDP D ∧ apartP M 2 ∧ mayVP D V
instance (D : List PDim) (M : List Txt) (V : List (List Int)) : Decidable (mayS D M V) := by unfold mayS; exact inferInstance
/-- Where it stands among them, from k on. -/
def numP (v : List Int) : Nat → List (List Int) → Int × Int
  | _, [] => (0, 17)
  | k, x :: r => if x = v then ((k : Int), 0) else numP v (k + 1) r
def numberP (D : List PDim) (M : List Txt) (V : List (List Int)) (v : List Int) : Int × Int := if mayS D M V then numP v 0 (viewsP D V) else (0, 11)
/-- The corners' number, as far as it is counted. -/
def prodP : Int → List Int → Int
  | a, [] => a
  | a, n :: r => if 100 < n then 0 else prodP (a * (n + 1)) r
def cornersP (D : List PDim) : Int := if 8 < D.length then 0 else prodP 1 (baseP D)
/-- All corners, the least first. -/
def stepA (L : List (List Int)) (n : Nat) : List (List Int) := L.flatMap fun v => (List.range (n + 1)).map fun (k : Nat) => v ++ [(k : Int)]
def allP (D : List PDim) : List (List Int) := D.foldl (fun L d => stepA L d.2.length) [[]]

theorem coversP_self (v : List Int) : coversP v v := ⟨rfl, fun _ _ => Int.le_refl _⟩
theorem ext_getD {v w : List Int} (h : v.length = w.length) (he : ∀ i, i < v.length → v.getD i 0 = w.getD i 0) : v = w := by
  apply List.ext_getElem h
  intro i h1 h2
  have := he i h1
  simpa [List.getD_eq_getElem?_getD, List.getElem?_eq_getElem h1, List.getElem?_eq_getElem h2] using this
theorem coversP_anti {v w : List Int} (h : coversP v w) (h' : coversP w v) : v = w :=
  ext_getD h.1 fun i hi => Int.le_antisymm (h'.2 i (by have := h.1; omega)) (h.2 i hi)
theorem coversP_trans {u v w : List Int} (h : coversP u v) (h' : coversP v w) : coversP u w :=
  ⟨h.1.trans h'.1, fun i hi => Int.le_trans (h'.2 i (by have := h.1; omega)) (h.2 i hi)⟩
theorem joinP_len {v w : List Int} (h : v.length = w.length) : (joinP v w).length = v.length := by simp [joinP, h]
theorem joinP_get {v w : List Int} (h : v.length = w.length) {i : Nat} (hi : i < v.length) : (joinP v w).getD i 0 = max (v.getD i 0) (w.getD i 0) := by
  simp [joinP, h, List.getD_eq_getElem?_getD, List.getElem?_zipWith, List.getElem?_eq_getElem hi, List.getElem?_eq_getElem (h ▸ hi)]
theorem joinP_covers {v w : List Int} (h : v.length = w.length) : coversP (joinP v w) v ∧ coversP (joinP v w) w :=
  ⟨⟨joinP_len h, fun i hi => by rw [joinP_len h] at hi; rw [joinP_get h hi]; exact Int.le_max_left _ _⟩,
   ⟨(joinP_len h).trans h, fun i hi => by rw [joinP_len h] at hi; rw [joinP_get h hi]; exact Int.le_max_right _ _⟩⟩
/-- Whatever covers both covers them joined. -/
theorem joinP_least {u v w : List Int} (h : v.length = w.length) : coversP u (joinP v w) ↔ coversP u v ∧ coversP u w := by
  constructor
  · intro hu
    exact ⟨coversP_trans hu (joinP_covers h).1, coversP_trans hu (joinP_covers h).2⟩
  · rintro ⟨h1, h2⟩
    refine ⟨h1.1.trans (joinP_len h).symm, fun i hi => ?_⟩
    rw [joinP_get h (by have := h1.1; omega)]
    exact Int.max_le.2 ⟨h1.2 i hi, h2.2 i hi⟩
/-- One place more. -/
theorem joinP_snoc {v w : List Int} (h : v.length = w.length) {k : Nat} (hk : k < v.length) : (joinP v w).take k ++ [max (v.getD k 0) (w.getD k 0)] = (joinP v w).take (k + 1) := by
  rw [List.take_add_one, ← joinP_get h hk, List.getD_eq_getElem?_getD, List.getElem?_eq_getElem (by rw [joinP_len h]; exact hk)]
  rfl

/-! ### The base covers each corner; each of all is one -/
theorem baseP_len (D : List PDim) : (baseP D).length = D.length := by simp [baseP]
theorem baseP_get {D : List PDim} {i : Nat} (h : i < D.length) : (baseP D).getD i 0 = ((D.getD i zeroD).2.length : Int) := by
  simp [baseP, List.getD_eq_getElem?_getD, List.getElem?_eq_getElem h]
theorem base_covers {D : List PDim} {v : List Int} (h : cornerP D v) : coversP (baseP D) v :=
  ⟨by rw [baseP_len, h.1], fun i hi => by
    rw [baseP_len] at hi
    rw [baseP_get hi]
    exact (h.2 i (by rw [h.1]; exact hi)).2⟩
theorem base_corner (D : List PDim) : cornerP D (baseP D) :=
  ⟨baseP_len D, fun i hi => by
    rw [baseP_len] at hi
    rw [baseP_get hi]
    omega⟩
theorem stepA_mem {L : List (List Int)} {n : Nat} {v : List Int} : v ∈ stepA L n ↔ ∃ u ∈ L, ∃ k : Nat, k ≤ n ∧ v = u ++ [(k : Int)] := by
  simp only [stepA, List.mem_flatMap, List.mem_map, List.mem_range]
  constructor
  · rintro ⟨u, hu, k, hk, rfl⟩
    exact ⟨u, hu, k, by omega, rfl⟩
  · rintro ⟨u, hu, k, hk, rfl⟩
    exact ⟨u, hu, k, by omega, rfl⟩
theorem stepA_len (L : List (List Int)) (n : Nat) : (stepA L n).length = L.length * (n + 1) := by
  induction L with
  | nil => simp [stepA]
  | cons v r ih =>
    have h : stepA (v :: r) n = ((List.range (n + 1)).map fun (k : Nat) => v ++ [(k : Int)]) ++ stepA r n := rfl
    rw [h, List.length_append, ih, List.length_map, List.length_range, List.length_cons, Nat.add_mul]
    omega
theorem corner_snoc {D : List PDim} {d : PDim} {v : List Int} (h : cornerP D v) {k : Nat} (hk : k ≤ d.2.length) : cornerP (D ++ [d]) (v ++ [(k : Int)]) := by
  refine ⟨by simp [h.1], fun i hi => ?_⟩
  rw [List.length_append, List.length_singleton] at hi
  by_cases hlt : i < v.length
  · have e1 : (v ++ [(k : Int)]).getD i 0 = v.getD i 0 := by simp [List.getD_eq_getElem?_getD, List.getElem?_append_left hlt]
    have e2 : (D ++ [d]).getD i zeroD = D.getD i zeroD := by simp [List.getD_eq_getElem?_getD, List.getElem?_append_left (show i < D.length by rw [← h.1]; exact hlt)]
    rw [e1, e2]
    exact h.2 i hlt
  · obtain rfl : i = v.length := by omega
    have e1 : (v ++ [(k : Int)]).getD v.length 0 = k := by simp [List.getD_eq_getElem?_getD]
    have e2 : (D ++ [d]).getD v.length zeroD = d := by rw [h.1]; simp [List.getD_eq_getElem?_getD]
    rw [e1, e2]
    omega
theorem allP_snoc (D : List PDim) (d : PDim) : allP (D ++ [d]) = stepA (allP D) d.2.length := by simp [allP]
theorem rev_ind {p : List PDim → Prop} (h0 : p []) (h1 : ∀ D d, p D → p (D ++ [d])) (D : List PDim) : p D := by
  have key : ∀ R : List PDim, p R.reverse := by
    intro R
    induction R with
    | nil => exact h0
    | cons d r ih => rw [List.reverse_cons]; exact h1 _ _ ih
  have := key D.reverse
  rwa [List.reverse_reverse] at this
theorem allP_corner (D : List PDim) : ∀ v ∈ allP D, cornerP D v := by
  induction D using rev_ind with
  | h0 => intro v hv; simp [allP] at hv; subst hv; exact ⟨rfl, fun i hi => by simp at hi⟩
  | h1 D d ih =>
    intro v hv
    rw [allP_snoc, stepA_mem] at hv
    obtain ⟨u, hu, k, hk, rfl⟩ := hv
    exact corner_snoc (ih u hu) hk
theorem prodP_is : ∀ (l : List Int) (a : Int), (∀ n ∈ l, n ≤ 100) → prodP a l = l.foldl (fun a n => a * (n + 1)) a
  | [], _, _ => rfl
  | n :: r, a, h => by
    rw [prodP, if_neg (by have := h n (by simp); omega), List.foldl_cons]
    exact prodP_is r _ fun m hm => h m (List.mem_cons_of_mem _ hm)
theorem allP_len (D : List PDim) : ((allP D).length : Int) = (baseP D).foldl (fun a n => a * (n + 1)) 1 := by
  induction D using rev_ind with
  | h0 => rfl
  | h1 D d ih =>
    rw [allP_snoc, stepA_len, baseP, List.map_append, List.foldl_append]
    show _ = _ * _
    rw [← baseP, ← ih]
    push_cast
    rfl
/-- There are just so many. -/
theorem cornersP_all {D : List PDim} (h : D.length ≤ 8) (hl : ∀ d ∈ D, d.2.length ≤ 100) : cornersP D = (allP D).length := by
  rw [cornersP, if_neg (by omega), prodP_is, ← allP_len]
  intro n hn
  obtain ⟨d, hd, rfl⟩ := List.mem_map.1 hn
  have := hl d hd
  omega
/-! ### The number of a view -/
theorem numP_at {v : List Int} : ∀ (L : List (List Int)) (k i : Nat), i < L.length → (∀ j, j < i → L.getD j [] ≠ v) → L.getD i [] = v → numP v k L = (((k + i : Nat) : Int), 0)
  | [], _, _, h, _, _ => by simp at h
  | x :: r, k, 0, _, _, he => by
    rw [numP, if_pos (by simpa using he)]; rfl
  | x :: r, k, i + 1, h, hn, he => by
    rw [numP, if_neg (by simpa using hn 0 (by omega)), numP_at r (k + 1) i (by simpa using h) (fun j hj => by simpa using hn (j + 1) (by omega)) (by simpa using he)]
    congr 2
    omega
theorem numP_no {v : List Int} : ∀ (L : List (List Int)) (k : Nat), (∀ j, j < L.length → L.getD j [] ≠ v) → numP v k L = (0, 17)
  | [], _, _ => rfl
  | x :: r, k, hn => by
    rw [numP, if_neg (by simpa using hn 0 (by simp)), numP_no r (k + 1) (fun j hj => by simpa using hn (j + 1) (by simpa using hj))]
end Go.Proofs.Ytbiogldapodhmaa
