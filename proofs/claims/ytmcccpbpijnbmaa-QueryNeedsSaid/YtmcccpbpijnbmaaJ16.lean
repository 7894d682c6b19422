/- WireRd, WireS, BatchM, WireP, QryM, QryN -/
import Derived.Test.YtmcccpbpijnbmaaJ2
import Derived.Test.YtmcccpbpijnbmaaJ8
import Derived.BigQuiet
import Derived.Deep.QuietTactic
import Derived.Outline
namespace Go.Proofs.Ytmcccpbpijnbmaa
set_option maxRecDepth 100000
open Go.RowKit

section
variable {T : TypeId} {w w' : World} {g : Nat} {A : Option Addr} {n c : Nat} {l : List UInt8} {p e : Nat}
end

end Go.Proofs.Ytmcccpbpijnbmaa
namespace Go.Proofs.Ytmcccpbpijnbmaa
set_option maxRecDepth 100000

def encT (t : List UInt8) : List UInt8 := enc (zig (t.length : Int)) ++ t
def encI (x : Int) : List UInt8 := enc (zig x)
theorem encI_len {x : Int} (h : -9223372036854775808 ≤ x) (h' : x ≤ 9223372036854775807) : (encI x).length ≤ 10 := enc_ten (zig_lt h h')
theorem flat_len {α : Type} {f : α → List UInt8} {l : List α} {m : Nat} (h : ∀ x ∈ l, (f x).length ≤ m) : (l.flatMap f).length ≤ m * l.length := by
 induction l with
 | nil => simp
 | cons x r ih =>
  have h1 := h x (by simp)
  have h2 := ih fun y hy => h y (List.mem_cons_of_mem _ hy)
  rw [List.flatMap_cons, List.length_append, List.length_cons, Nat.mul_succ]
  omega
theorem flat_snoc {α : Type} {f : α → List UInt8} {l : List α} {k : Nat} {x : α} (h : l[k]? = some x) : (l.take (k + 1)).flatMap f = (l.take k).flatMap f ++ f x := by
 rw [List.take_add_one, h]
 simp
end Go.Proofs.Ytmcccpbpijnbmaa
namespace Go.Proofs.Ytmcccpbpijnbmaa
set_option maxRecDepth 100000

abbrev Fct := List (List Txt) × List Int
def plainF (f : Fct) : Prop := f.1.length ≤ 3 ∧ (∀ p ∈ f.1, mayP p) ∧ f.2.length ≤ 2 ∧ ∀ x ∈ f.2, inV x
instance (f : Fct) : Decidable (plainF f) := by unfold plainF; exact inferInstance
def fitF (D : List PDim) (m : Nat) (f : Fct) : Prop := plainF f ∧ f.1.length = D.length ∧ f.2.length = m ∧ ∀ i, i < D.length → (f.1.getD i []).length = (D.getD i zeroD).2.length
instance (D : List PDim) (m : Nat) (f : Fct) : Decidable (fitF D m f) := by unfold fitF; exact inferInstance
end Go.Proofs.Ytmcccpbpijnbmaa
namespace Go.Proofs.Ytmcccpbpijnbmaa
set_option maxRecDepth 100000

def encP (x : List Txt) : List UInt8 := encT (textP x)
theorem joinT_len38 : ∀ {L : List Txt}, L ≠ [] → (∀ s ∈ L, s.length ≤ 12) → (joinT L).length + 1 ≤ 13 * L.length := by
 intro L
 induction L with
 | nil => intro h; exact absurd rfl h
 | cons a p ih =>
  intro _ h
  have h1 := h a (by simp)
  by_cases hp : p = []
  ·subst hp
   simp [joinT]; omega
  ·have h2 := ih hp fun s hs => h s (List.mem_cons_of_mem _ hs)
   rw [joinT_cons a hp]
   simp; omega
theorem textP_38 {x : List Txt} (h : mayP x) : (textP x).length ≤ 38 := by
 unfold textP
 split
 ·simp
 ·rename_i hne
  have h1 := joinT_len38 hne fun s hs => (h.2 s hs).2.1
  have h2 := h.1
  omega
theorem textP_len {x : List Txt} (h : mayP x) : (textP x).length ≤ 39 := Nat.le_trans (textP_38 h) (by decide)
theorem encP_len {x : List Txt} (h : mayP x) : (encP x).length ≤ 49 := by
 have h1 := textP_len h
 have h2 := enc_ten (zig_lt (n := ((textP x).length : Int)) (by omega) (by omega))
 unfold encP encT
 rw [List.length_append]
 omega
end Go.Proofs.Ytmcccpbpijnbmaa
namespace Go.Proofs.Ytmcccpbpijnbmaa
set_option maxRecDepth 100000

abbrev Fil := Int × Int × List (List Txt)
abbrev Qry := List Int × List Fil
def plainFl (f : Fil) : Prop := (0 ≤ f.1 ∧ f.1 ≤ 2) ∧ (0 ≤ f.2.1 ∧ f.2.1 ≤ 3) ∧ f.2.2.length ≤ 6 ∧ ∀ p ∈ f.2.2, mayP p
instance (f : Fil) : Decidable (plainFl f) := by unfold plainFl; exact inferInstance
def plainQ (q : Qry) : Prop := q.1.length ≤ 3 ∧ q.2.length ≤ 3 ∧ (∀ n ∈ q.1, 0 ≤ n ∧ n ≤ 3) ∧ ∀ f ∈ q.2, plainFl f
instance (q : Qry) : Decidable (plainQ q) := by unfold plainQ; exact inferInstance
def fitFl (D : List PDim) (f : Fil) : Prop := (0 ≤ f.1 ∧ f.1 < (D.length : Int)) ∧ (1 ≤ f.2.1 ∧ f.2.1 ≤ (((D.getD f.1.toNat zeroD).2.length : Nat) : Int)) ∧ (1 ≤ f.2.2.length ∧ f.2.2.length ≤ 6) ∧ ∀ p ∈ f.2.2, mayP p ∧ (p.length : Int) = f.2.1
instance (D : List PDim) (f : Fil) : Decidable (fitFl D f) := by unfold fitFl; exact inferInstance
def fitQ (D : List PDim) (q : Qry) : Prop := cornerP D q.1 ∧ q.2.length ≤ 3 ∧ ∀ f ∈ q.2, fitFl D f
instance (D : List PDim) (q : Qry) : Decidable (fitQ D q) := by unfold fitQ; exact inferInstance
def mayQ (D : List PDim) (M : List Txt) (V : List (List Int)) (q : Qry) : Nat := if mayS D M V then if fitQ D q then 0 else 16 else 11
def needAt (F : List Fil) (i : Nat) (n : Int) : Int := F.foldl (fun n f => if f.1 = (i : Int) ∧ n < f.2.1 then f.2.1 else n) n
def needQ (q : Qry) : List Int := (List.range q.1.length).map fun i => needAt q.2 i (q.1.getD i 0)
def passF (P : List (List Txt)) (f : Fil) : Prop := 0 ≤ f.1 ∧ f.1 < (P.length : Int) ∧ ∃ m ∈ f.2.2, underP (P.getD f.1.toNat []) m
instance (P : List (List Txt)) (f : Fil) : Decidable (passF P f) := by unfold passF; exact inferInstance
def passQ (P : List (List Txt)) (q : Qry) : Prop := ∀ f ∈ q.2, passF P f
instance (P : List (List Txt)) (q : Qry) : Decidable (passQ P q) := by unfold passQ; exact inferInstance
def keyQ (q : Qry) (P : List (List Txt)) : List (List Txt) := (List.range q.1.length).map fun i => upP (P.getD i []) (q.1.getD i 0)
def shortQ (v : List Int) (P : List (List Txt)) : List (List Txt) := (List.range P.length).map fun i => upP (P.getD i []) (v.getD i 0)
def encFl (f : Fil) : List UInt8 := encI f.1 ++ (encI f.2.1 ++ (encI f.2.2.length ++ f.2.2.flatMap encP))
def encQ (q : Qry) : List UInt8 := encI q.1.length ++ (q.1.flatMap encI ++ (encI q.2.length ++ q.2.flatMap encFl))
def putQ (b : List UInt8) (q : Qry) : List UInt8 := if plainQ q then b ++ encQ q else []
/-! ### a query that may be is plain -/
theorem fitQ_plain {D : List PDim} {M : List Txt} {V : List (List Int)} {q : Qry} (hS : mayS D M V) (h : fitQ D q) : plainQ q := by
 obtain ⟨⟨hd1, hd2⟩, _, _⟩ := hS
 have hD : D.length ≤ 3 := by have := hd2.2.1; rwa [List.length_map] at this
 have hL : ∀ i, i < D.length → (D.getD i zeroD).2.length ≤ 3 := fun i hi => by
  have e : D.getD i zeroD = D[i] := by rw [List.getD_eq_getElem?_getD, List.getElem?_eq_getElem hi]; rfl
  rw [e]
  exact (hd1 _ (List.getElem_mem hi)).2.1
 obtain ⟨⟨hc1, hc2⟩, hf, hF⟩ := h
 refine ⟨by omega, hf, fun n hn => ?_, fun f hf => ?_⟩
 ·obtain ⟨i, hi, rfl⟩ := List.getElem_of_mem hn
  have h1 := hc2 i hi
  have h2 := hL i (by omega)
  rw [show q.1.getD i 0 = q.1[i] from by rw [List.getD_eq_getElem?_getD, List.getElem?_eq_getElem hi]; rfl] at h1
  omega
 ·obtain ⟨h1, h2, h3, h4⟩ := hF f hf
  have h5 := hL f.1.toNat (by omega)
  exact ⟨by omega, by omega, h3.2, fun p hp => (h4 p hp).1⟩
theorem mayQ_plain {D : List PDim} {M : List Txt} {V : List (List Int)} {q : Qry} (h : mayQ D M V q = 0) : mayS D M V ∧ fitQ D q ∧ plainQ q := by
 unfold mayQ at h
 split at h
 ·rename_i h1
  split at h
  ·rename_i h2
   exact ⟨h1, h2, fitQ_plain h1 h2⟩
  ·cases h
 ·cases h
/-! ### how many bytes -/
theorem encFl_len {f : Fil} (h : plainFl f) : (encFl f).length ≤ 330 := by
 obtain ⟨h1, h2, h3, h4⟩ := h
 have a := flat_len (f := encP) (l := f.2.2) (m := 49) fun x hx => encP_len (h4 x hx)
 have b := encI_len (x := f.1) (by omega) (by omega)
 have c := encI_len (x := f.2.1) (by omega) (by omega)
 have d := encI_len (x := (f.2.2.length : Int)) (by omega) (by omega)
 unfold encFl
 simp only [List.length_append]
 omega
/-! ### what is put is read again -/
/-! ### what it needs -/
theorem needAt_cons (f : Fil) (F : List Fil) (i : Nat) (n : Int) : needAt (f :: F) i n = needAt F i (if f.1 = (i : Int) ∧ n < f.2.1 then f.2.1 else n) := rfl
theorem needAt_ge : ∀ (F : List Fil) (i : Nat) (n : Int), n ≤ needAt F i n
 | [], _, n => Int.le_refl n
 | f :: F, i, n => by
  rw [needAt_cons]
  have h := needAt_ge F i (if f.1 = (i : Int) ∧ n < f.2.1 then f.2.1 else n)
  split at h
  ·rename_i h1
   rw [if_pos h1]
   omega
  ·rename_i h1
   rw [if_neg h1]
   exact h
theorem needAt_mem : ∀ (F : List Fil) (i : Nat) (n : Int), ∀ f ∈ F, f.1 = (i : Int) → f.2.1 ≤ needAt F i n
 | [], _, _, f, hf, _ => by cases hf
 | g :: F, i, n, f, hf, he => by
  rw [needAt_cons]
  rcases List.mem_cons.1 hf with rfl | hf
  ·have h := needAt_ge F i (if f.1 = (i : Int) ∧ n < f.2.1 then f.2.1 else n)
   split at h
   ·rename_i h1
    rw [if_pos h1]
    exact h
   ·rename_i h1
    rw [if_neg h1]
    have : ¬ n < f.2.1 := fun h2 => h1 ⟨he, h2⟩
    omega
  ·exact needAt_mem F i _ f hf he
theorem needAt_snoc (F : List Fil) (f : Fil) (i : Nat) (n : Int) : needAt (F ++ [f]) i n = if f.1 = (i : Int) ∧ needAt F i n < f.2.1 then f.2.1 else needAt F i n := by
 unfold needAt
 rw [List.foldl_append]
 rfl
theorem needQ_len (q : Qry) : (needQ q).length = q.1.length := by simp [needQ]
theorem needQ_get {q : Qry} {i : Nat} (hi : i < q.1.length) : (needQ q).getD i 0 = needAt q.2 i (q.1.getD i 0) := by
 unfold needQ
 rw [List.getD_eq_getElem?_getD, List.getElem?_map, List.getElem?_range hi]
 rfl
theorem keyQ_len (q : Qry) (P : List (List Txt)) : (keyQ q P).length = q.1.length := by simp [keyQ]
theorem shortQ_len (v : List Int) (P : List (List Txt)) : (shortQ v P).length = P.length := by simp [shortQ]
theorem shortQ_get (v : List Int) {P : List (List Txt)} {i : Nat} (hi : i < P.length) : (shortQ v P).getD i [] = upP (P.getD i []) (v.getD i 0) := by
 unfold shortQ
 rw [List.getD_eq_getElem?_getD, List.getElem?_map, List.getElem?_range hi]
 rfl
theorem upP_up (p : List Txt) {n m : Int} (h : n ≤ m) : upP (upP p m) n = upP p n := by
 unfold upP
 rw [List.take_take, Nat.min_eq_left (by omega)]
theorem underP_up {p m : List Txt} {n : Int} (h : (m.length : Int) ≤ n) : underP (upP p n) m ↔ underP p m := by
 unfold underP upP
 rw [List.take_take, List.length_take, Nat.min_eq_left (show m.length ≤ n.toNat by omega)]
 constructor
 ·rintro ⟨h1, h2⟩
  exact ⟨by omega, h2⟩
 ·rintro ⟨h1, h2⟩
  exact ⟨by omega, h2⟩
theorem needQ_key {D : List PDim} {q : Qry} (hf : fitQ D q) {P : List (List Txt)} (hP : P.length = D.length) : keyQ q (shortQ (needQ q) P) = keyQ q P := by
 have hl := hf.1.1
 unfold keyQ
 refine List.map_congr_left fun i hi => ?_
 have hi := List.mem_range.1 hi
 rw [shortQ_get _ (by omega), needQ_get hi, upP_up _ (needAt_ge _ _ _)]
theorem needQ_pass {D : List PDim} {q : Qry} (hf : fitQ D q) {P : List (List Txt)} (hP : P.length = D.length) : passQ (shortQ (needQ q) P) q ↔ passQ P q := by
 have hl := hf.1.1
 refine forall_congr' fun f => forall_congr' fun hm => ?_
 obtain ⟨h1, h2, h3, h4⟩ := hf.2.2 f hm
 unfold passF
 rw [shortQ_len, shortQ_get _ (by omega), needQ_get (by omega)]
 refine and_congr_right fun _ => and_congr_right fun _ => ?_
 constructor
 ·rintro ⟨m, hm2, hu⟩
  have h5 := needAt_mem q.2 f.1.toNat (q.1.getD f.1.toNat 0) f hm (by omega)
  exact ⟨m, hm2, (underP_up (by rw [(h4 m hm2).2]; exact h5)).1 hu⟩
 ·rintro ⟨m, hm2, hu⟩
  have h5 := needAt_mem q.2 f.1.toNat (q.1.getD f.1.toNat 0) f hm (by omega)
  exact ⟨m, hm2, (underP_up (by rw [(h4 m hm2).2]; exact h5)).2 hu⟩
end Go.Proofs.Ytmcccpbpijnbmaa
namespace Go.Proofs.Ytmcccpbpijnbmaa
set_option maxRecDepth 100000

theorem fitFl_iff {D : List PDim} {k n' n : Nat} {v : Int} {L : List (List Txt)} {x : Txt} {l : List Txt} (hk : k < D.length) (he : D.getD k zeroD = (x, l)) (hl : l.length = n') (hn : L.length = n) :
  fitFl D ((k : Int), v, L) ↔ (1 ≤ v ∧ v ≤ (n' : Int)) ∧ (1 ≤ (n : Int) ∧ (n : Int) ≤ 6) ∧ ∀ p ∈ L, mayP p ∧ (p.length : Int) = v := by
 subst hl hn
 unfold fitFl
 simp only [Int.toNat_natCast, he]
 constructor
 ·rintro ⟨_, h2, h3, h4⟩
  exact ⟨h2, ⟨by omega, by omega⟩, h4⟩
 ·rintro ⟨h2, h3, h4⟩
  exact ⟨⟨by omega, by omega⟩, h2, ⟨by omega, by omega⟩, h4⟩
theorem fitFl_far {D : List PDim} {d v : Int} {n : Nat} {L : List (List Txt)} (hn : D.length = n) (h : ¬ (0 ≤ d ∧ d ≤ (n : Int) - 1)) : ¬ fitFl D (d, v, L) := fun h2 => h ⟨h2.1.1, by have := h2.1.2; simp only at this; omega⟩
theorem mem_takeX {α : Type} {L : List α} {k : Nat} {x : α} {P : α → Prop} (hx : L[k]? = some x) (h : P x) (ht : ∀ y ∈ L.take k, P y) : ∀ y ∈ L.take (k + 1), P y := by
 intro y hy
 rw [List.take_add_one, hx] at hy
 rcases List.mem_append.1 hy with hy | hy
 ·exact ht y hy
 ·have hy : y ∈ [x] := hy
  rw [List.mem_singleton.1 hy]; exact h
theorem fitQ_iff {D : List PDim} {G : List Int} {F : List Fil} {n : Nat} (hn : F.length = n) : fitQ D (G, F) ↔ cornerP D G ∧ (n : Int) ≤ 3 ∧ ∀ f ∈ F, fitFl D f := by
 subst hn
 unfold fitQ
 constructor
 ·rintro ⟨h1, h2, h3⟩; exact ⟨h1, by simp only at h2; omega, h3⟩
 ·rintro ⟨h1, h2, h3⟩; exact ⟨h1, by simp only; omega, h3⟩
theorem mayQ_s {D : List PDim} {M : List Txt} {V : List (List Int)} {q : Qry} (h : ¬ mayS D M V) : mayQ D M V q = 11 := if_neg h
theorem mayQ_f {D : List PDim} {M : List Txt} {V : List (List Int)} {q : Qry} (h : mayS D M V) (h' : ¬ fitQ D q) : mayQ D M V q = 16 := by
 unfold mayQ; rw [if_pos h, if_neg h']
theorem mayQ_y {D : List PDim} {M : List Txt} {V : List (List Int)} {q : Qry} (h : mayS D M V) (h' : fitQ D q) : mayQ D M V q = 0 := by
 unfold mayQ; rw [if_pos h, if_pos h']
/-! ### what it needs, filter by filter -/
theorem needQ_nil (G : List Int) : needQ (G, []) = G := by
 refine List.ext_getElem? fun i => ?_
 unfold needQ
 rw [List.getElem?_map]
 by_cases hi : i < G.length
 ·rw [List.getElem?_range hi, List.getElem?_eq_getElem hi]
  simp [needAt, List.getD_eq_getElem?_getD, List.getElem?_eq_getElem hi]
 ·rw [List.getElem?_eq_none (by simpa using hi), List.getElem?_eq_none (by omega)]
  rfl
theorem need_set {G : List Int} {F : List Fil} {k d : Nat} {v : Int} {M : List (List Txt)} (he : F[k]? = some ((d : Int), v, M)) :
  (needQ (G, F.take k)).set d (max ((needQ (G, F.take k)).getD d 0) v) = needQ (G, F.take (k + 1)) := by
 have ht : F.take (k + 1) = F.take k ++ [((d : Int), v, M)] := by rw [List.take_add_one, he]; rfl
 refine List.ext_getElem? fun i => ?_
 by_cases hi : i < G.length
 ·have h1 : ∀ F', (needQ (G, F'))[i]? = some (needAt F' i (G.getD i 0)) := fun F' => by
   unfold needQ
   rw [List.getElem?_map, List.getElem?_range hi]
   rfl
  rw [List.getElem?_set, h1, h1, ht, needAt_snoc]
  simp only
  by_cases hdi : d = i
  ·subst hdi
   have h2 : (needQ (G, F.take k)).getD d 0 = needAt (F.take k) d (G.getD d 0) := by rw [List.getD_eq_getElem?_getD, h1]; rfl
   rw [if_pos rfl, if_pos (by rw [needQ_len]; exact hi), h2]
   by_cases hlt : needAt (F.take k) d (G.getD d 0) < v
   ·rw [if_pos ⟨rfl, hlt⟩, Int.max_eq_right (by omega)]
   ·rw [if_neg (fun h => hlt h.2), Int.max_eq_left (by omega)]
  ·rw [if_neg hdi, if_neg (fun h => hdi (by have := h.1; omega))]
 ·rw [List.getElem?_eq_none (by rw [List.length_set, needQ_len]; exact Nat.le_of_not_lt hi), List.getElem?_eq_none (by rw [needQ_len]; exact Nat.le_of_not_lt hi)]
theorem shortQ_at {v : List Int} {P : List (List Txt)} {k : Nat} {p : List Txt} {x : Int} (hp : P[k]? = some p) (hx : v[k]? = some x) : (shortQ v P)[k]? = some (upP p x) := by
 have hi := (List.getElem?_eq_some_iff.1 hp).1
 unfold shortQ
 rw [List.getElem?_map, List.getElem?_range hi]
 simp [List.getD_eq_getElem?_getD, hp, hx]
theorem shortQ_short {v : List Int} {P : List (List Txt)} {m : Nat} (h : ∀ p ∈ P, p.length ≤ m) : ∀ p ∈ shortQ v P, p.length ≤ m := by
 intro p hp
 obtain ⟨i, hi, rfl⟩ := List.mem_map.1 hp
 have hi := List.mem_range.1 hi
 have h1 : P.getD i [] ∈ P := by
  rw [List.getD_eq_getElem?_getD, List.getElem?_eq_getElem hi]
  exact List.getElem_mem _
 exact Nat.le_trans (List.length_take_le' _ _) (h _ h1)
def needA (D : List PDim) (M : List Txt) (V : List (List Int)) (q : Qry) : List Int := if mayQ D M V q = 0 then needQ q else []
end Go.Proofs.Ytmcccpbpijnbmaa
