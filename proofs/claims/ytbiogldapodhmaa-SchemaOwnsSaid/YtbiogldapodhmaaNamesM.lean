/- Layer 6, plain: names, paths, their texts, their order. No program's text is met here. -/
import Derived.Test.YtbiogldapodhmaaBase
namespace Go.Proofs.Ytbiogldapodhmaa

/-- A text. -/
abbrev Txt := List UInt8
def isLet (b : UInt8) : Bool := (97 ≤ b && b ≤ 122) || (48 ≤ b && b ≤ 57) || b == 45 || b == 95
def nameP (s : Txt) : Prop := 1 ≤ s.length ∧ s.length ≤ 12 ∧ ∀ b ∈ s, isLet b = true
instance (s : Txt) : Decidable (nameP s) := by unfold nameP; exact inferInstance
def mayP (p : List Txt) : Prop := p.length ≤ 3 ∧ ∀ s ∈ p, nameP s
instance (p : List Txt) : Decidable (mayP p) := by unfold mayP; exact inferInstance
/-- The names with '/' between. -/
def joinT : List Txt → Txt
  | [] => []
  | [a] => a
  | a :: b :: p => a ++ 47 :: joinT (b :: p)
def textP (p : List Txt) : Txt := if p = [] then [42] else joinT p
/-- What stands between the '/'. -/
def splitT : Txt → List Txt
  | [] => [[]]
  | b :: s => if b = 47 then [] :: splitT s else match splitT s with | [] => [[b]] | a :: r => (b :: a) :: r
/-- The path whose text s is. -/
def pathP (s : Txt) : Option (List Txt) := if s = [42] then some [] else if mayP (splitT s) then some (splitT s) else none
theorem splitT_ne (s : Txt) : splitT s ≠ [] := by
  cases s with
  | nil => simp [splitT]
  | cons b s =>
    unfold splitT
    split
    · simp
    · split <;> simp
theorem splitT_cons {b : UInt8} {s a : Txt} {r : List Txt} (hb : b ≠ 47) (h : splitT s = a :: r) : splitT (b :: s) = (b :: a) :: r := by
  rw [splitT, if_neg hb, h]
theorem joinT_cons (a : Txt) {p : List Txt} (h : p ≠ []) : joinT (a :: p) = a ++ 47 :: joinT p := by
  cases p with
  | nil => exact absurd rfl h
  | cons b p => rfl
theorem joinT_split : ∀ s : Txt, joinT (splitT s) = s := by
  intro s
  induction s with
  | nil => rfl
  | cons b s ih =>
    by_cases hb : b = 47
    · rw [splitT, if_pos hb, joinT_cons _ (splitT_ne s), ih, hb]; rfl
    · rcases hs : splitT s with _ | ⟨a, r⟩
      · exact absurd hs (splitT_ne s)
      · rw [splitT_cons hb hs]
        rw [hs] at ih
        cases r with
        | nil => simpa [joinT] using ih
        | cons c r =>
          rw [joinT_cons _ (by simp)] at ih ⊢
          rw [List.cons_append, ih]
theorem splitT_name {a : Txt} (h : (47 : UInt8) ∉ a) : splitT a = [a] := by
  induction a with
  | nil => rfl
  | cons b a ih =>
    have h1 : b ≠ 47 := fun e => h (by simp [e])
    exact splitT_cons h1 (ih fun hm => h (List.mem_cons_of_mem _ hm))
theorem splitT_app {a s : Txt} (h : (47 : UInt8) ∉ a) : splitT (a ++ 47 :: s) = a :: splitT s := by
  induction a with
  | nil => simp [splitT]
  | cons b a ih =>
    have h1 : b ≠ 47 := fun e => h (by simp [e])
    exact splitT_cons h1 (ih fun hm => h (List.mem_cons_of_mem _ hm))
theorem splitT_join : ∀ {p : List Txt}, p ≠ [] → (∀ a ∈ p, (47 : UInt8) ∉ a) → splitT (joinT p) = p := by
  intro p
  induction p with
  | nil => intro h; exact absurd rfl h
  | cons a p ih =>
    intro _ h
    by_cases hp : p = []
    · subst hp
      exact splitT_name (h a (by simp))
    · rw [joinT_cons a hp, splitT_app (h a (by simp)), ih hp fun b hb => h b (List.mem_cons_of_mem _ hb)]
theorem nameP_no {a : Txt} (h : nameP a) : (47 : UInt8) ∉ a ∧ (42 : UInt8) ∉ a := by
  refine ⟨fun hm => ?_, fun hm => ?_⟩
  · have := h.2.2 47 hm; revert this; decide
  · have := h.2.2 42 hm; revert this; decide
/-- A path is read from its text. -/
theorem pathP_text {p : List Txt} (h : mayP p) : pathP (textP p) = some p := by
  unfold textP pathP
  by_cases hp : p = []
  · rw [if_pos hp, if_pos rfl, hp]
  · rw [if_neg hp]
    have hs : splitT (joinT p) = p := splitT_join hp fun a ha => (nameP_no (h.2 a ha)).1
    rw [if_neg, hs, if_pos h]
    intro he
    rw [he] at hs
    have : p = [[42]] := by rw [← hs]; rfl
    rw [this] at h
    exact (nameP_no (h.2 [42] (by simp))).2 (by simp)
/-- No other text is its. -/
theorem textP_path {s : Txt} {p : List Txt} (h : pathP s = some p) : mayP p ∧ textP p = s := by
  unfold pathP at h
  by_cases hs : s = [42]
  · rw [if_pos hs] at h
    injection h with h
    subst h hs
    exact ⟨⟨by simp, by simp⟩, rfl⟩
  · rw [if_neg hs] at h
    by_cases hm : mayP (splitT s)
    · rw [if_pos hm] at h
      injection h with h
      subst h
      exact ⟨hm, by unfold textP; rw [if_neg (splitT_ne s)]; exact joinT_split s⟩
    · rw [if_neg hm] at h
      cases h

/-! ### The order -/
def cmpP : List Txt → List Txt → Int
  | [], [] => 0
  | [], _ :: _ => -1
  | _ :: _, [] => 1
  | a :: p, b :: q => if a < b then -1 else if b < a then 1 else cmpP p q
theorem txt_eq {a b : Txt} (h1 : ¬ a < b) (h2 : ¬ b < a) : a = b := List.le_antisymm (List.not_lt.1 h2) (List.not_lt.1 h1)
theorem txt_irrefl (a : Txt) : ¬ a < a := List.lt_irrefl a
theorem txt_asymm {a b : Txt} (h : a < b) : ¬ b < a := List.lt_asymm h
theorem txt_trans {a b c : Txt} (h : a < b) (h' : b < c) : a < c := List.lt_trans h h'
theorem cmpP_self : ∀ p : List Txt, cmpP p p = 0
  | [] => rfl
  | a :: p => by rw [cmpP, if_neg (txt_irrefl a), if_neg (txt_irrefl a)]; exact cmpP_self p
theorem cmpP_range : ∀ p q : List Txt, cmpP p q = -1 ∨ cmpP p q = 0 ∨ cmpP p q = 1
  | [], [] => .inr (.inl rfl)
  | [], _ :: _ => .inl rfl
  | _ :: _, [] => .inr (.inr rfl)
  | a :: p, b :: q => by
    rw [cmpP]
    split
    · exact .inl rfl
    · split
      · exact .inr (.inr rfl)
      · exact cmpP_range p q
theorem cmpP_neg : ∀ p q : List Txt, cmpP p q = -cmpP q p
  | [], [] => rfl
  | [], _ :: _ => rfl
  | _ :: _, [] => rfl
  | a :: p, b :: q => by
    rw [cmpP, cmpP]
    by_cases h1 : a < b
    · rw [if_pos h1, if_neg (txt_asymm h1), if_pos h1]
    · by_cases h2 : b < a
      · rw [if_neg h1, if_pos h2, if_pos h2]; rfl
      · rw [if_neg h1, if_neg h2, if_neg h2, if_neg h1]; exact cmpP_neg p q
theorem cmpP_zero : ∀ p q : List Txt, cmpP p q = 0 ↔ p = q
  | [], [] => by simp [cmpP]
  | [], _ :: _ => by simp [cmpP]
  | _ :: _, [] => by simp [cmpP]
  | a :: p, b :: q => by
    rw [cmpP]
    by_cases h1 : a < b
    · rw [if_pos h1]
      exact ⟨(fun h => by cases h), (fun h => by injection h with h _; subst h; exact absurd h1 (txt_irrefl a))⟩
    · by_cases h2 : b < a
      · rw [if_neg h1, if_pos h2]
        exact ⟨(fun h => by cases h), (fun h => by injection h with h _; subst h; exact absurd h2 (txt_irrefl a))⟩
      · rw [if_neg h1, if_neg h2, cmpP_zero p q]
        have := txt_eq h1 h2
        subst this
        simp
theorem cmpP_trans : ∀ p q r : List Txt, cmpP p q ≤ 0 → cmpP q r ≤ 0 → cmpP p r ≤ 0
  | [], _, [] => fun _ _ => (show (0 : Int) ≤ 0 by decide)
  | [], _, _ :: _ => fun _ _ => (show (-1 : Int) ≤ 0 by decide)
  | _ :: _, [], _ => fun h _ => absurd (show (1 : Int) ≤ 0 from h) (by decide)
  | _ :: _, _ :: _, [] => fun _ h => absurd (show (1 : Int) ≤ 0 from h) (by decide)
  | a :: p, b :: q, c :: r => by
    intro h1 h2
    rw [cmpP] at h1 h2 ⊢
    by_cases ab : a < b
    · by_cases bc : b < c
      · rw [if_pos (txt_trans ab bc)]; decide
      · rw [if_neg bc] at h2
        by_cases cb : c < b
        · rw [if_pos cb] at h2; exact absurd h2 (by decide)
        · have := txt_eq bc cb
          subst this
          rw [if_pos ab]; decide
    · rw [if_neg ab] at h1
      by_cases ba : b < a
      · rw [if_pos ba] at h1; exact absurd h1 (by decide)
      · rw [if_neg ba] at h1
        have := txt_eq ab ba
        subst this
        by_cases ac : a < c
        · rw [if_pos ac]; decide
        · rw [if_neg ac] at h2 ⊢
          by_cases ca : c < a
          · rw [if_pos ca] at h2; exact absurd h2 (by decide)
          · rw [if_neg ca] at h2 ⊢
            exact cmpP_trans p q r h1 h2
/-- It begins with that one's names. -/
def underP (p q : List Txt) : Prop := q.length ≤ p.length ∧ p.take q.length = q
instance (p q : List Txt) : Decidable (underP p q) := by unfold underP; exact inferInstance
theorem underP_nil (p : List Txt) : underP p [] := ⟨Nat.zero_le _, by simp⟩
theorem underP_cons {a b : Txt} {p q : List Txt} : underP (a :: p) (b :: q) ↔ a = b ∧ underP p q := by
  unfold underP
  simp only [List.length_cons, List.take_succ_cons, List.cons.injEq, Nat.add_le_add_iff_right]
  exact ⟨fun ⟨h1, h2, h3⟩ => ⟨h2, h1, h3⟩, fun ⟨h2, h1, h3⟩ => ⟨h1, h2, h3⟩⟩
theorem underP_no {b : Txt} {q : List Txt} : ¬ underP [] (b :: q) := fun h => absurd h.1 (by simp)
/-- What stands under a path stands side by side. -/
theorem underP_side : ∀ t p q r : List Txt, underP p t → underP r t → cmpP p q ≤ 0 → cmpP q r ≤ 0 → underP q t
  | [], _, q, _ => fun _ _ _ _ => underP_nil q
  | b :: t, [], _, _ => fun h => absurd h underP_no
  | b :: t, _ :: _, _, [] => fun _ h => absurd h underP_no
  | b :: t, _ :: _, [], _ :: _ => fun _ _ h => absurd (show (1 : Int) ≤ 0 from h) (by decide)
  | b :: t, a :: p, c :: q, d :: r => by
    intro h1 h2 h3 h4
    obtain ⟨e1, g1⟩ := underP_cons.1 h1
    obtain ⟨e2, g2⟩ := underP_cons.1 h2
    subst e1
    subst e2
    rw [cmpP] at h3 h4
    by_cases ac : d < c
    · rw [if_neg (txt_asymm ac), if_pos ac] at h4
      exact absurd h4 (by decide)
    · rw [if_neg ac] at h3
      by_cases ca : c < d
      · rw [if_pos ca] at h3; exact absurd h3 (by decide)
      · rw [if_neg ca] at h3
        have := txt_eq ac ca
        subst this
        rw [if_neg (txt_irrefl _), if_neg (txt_irrefl _)] at h4
        exact underP_cons.2 ⟨rfl, underP_side t p q r g1 g2 h3 h4⟩
/-- Lists that are one up to a place are compared behind it. -/
theorem cmpP_drop : ∀ (i : Nat) (p q : List Txt), i ≤ p.length → i ≤ q.length → p.take i = q.take i → cmpP p q = cmpP (p.drop i) (q.drop i)
  | 0, _, _ => fun _ _ _ => rfl
  | i + 1, [], _ => fun h => absurd h (by simp)
  | i + 1, _ :: _, [] => fun _ h => absurd h (by simp)
  | i + 1, a :: p, b :: q => by
    intro h1 h2 h3
    simp only [List.take_succ_cons, List.cons.injEq] at h3
    obtain ⟨rfl, h3⟩ := h3
    rw [cmpP, if_neg (txt_irrefl a), if_neg (txt_irrefl a)]
    exact cmpP_drop i p q (by simpa using h1) (by simpa using h2) h3
def upP (p : List Txt) (n : Int) : List Txt := p.take n.toNat
end Go.Proofs.Ytbiogldapodhmaa
