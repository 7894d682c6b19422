/- Wide2, WireRd, DictE, GrownOf, WireS, BatchM, CubW, CubR2, LatN, LatO, LatP, LatQ, LatR, LatS, LatT -/
import Derived.Test.YtmepdkdeanbbaaaGreatJ2
import Derived.Test.YtmepdkdeanbbaaaGreatJ6
import Derived.Test.YtmepdkdeanbbaaaGreatJ9
import Derived.BigQuiet
import Derived.Deep.QuietTactic
import Derived.Deep.RegionHeld3
import Derived.Outline
namespace Go.Proofs.YtmepdkdeanbbaaaGreat
set_option maxRecDepth 100000
open Go.RowKit

theorem int_sum (hi lo : Int) (w : World) (h : wMay hi lo) (n x : Int)
  (hs : (-9223372036854775808 ≤ wNum hi lo ∧ wNum hi lo ≤ 9223372036854775807 ∧ n = wNum hi lo ∧ x = 0) ∨ (¬ (-9223372036854775808 ≤ wNum hi lo ∧ wNum hi lo ≤ 9223372036854775807) ∧ n = 0 ∧ x = 14)) :
  Calls Tryz.prog 246 #[.agg #[.int .i64 hi, .int .i64 lo]] w fun e w' => e = .returned (.tuple #[.int .i64 n, .int .i64 x]) ∧ Below w.heap.size w w' := by
 have h' : decide (wMay hi lo) = true := decide_eq_true h
 go_enter Tryz.func246, Tryz.ntmps246
 go_wp2_with fail
 refine (wmay_any hi lo _).mono ?_
 rintro e w1 ⟨rfl, hb⟩
 rw [h']
 have hba := block_new hb (g := w.heap.size) rfl
 have hg0 : w1.cell? ⟨w.heap.size, 0, none⟩ = some (.int .i64 hi) := hba.cell 0
 have hg1 : w1.cell? ⟨w.heap.size, 1, none⟩ = some (.int .i64 lo) := hba.cell 1
 have hbe := below_then (below_a1 _ _) hb
 clear hb h'
 obtain ⟨m, hor, hm0, hm1, hlo, hhi⟩ : ∃ m : Int, bits .or .i64 (wrap64 (hi * 4294967296)) lo = m ∧ -9223372036854775808 ≤ m ∧ m ≤ 9223372036854775807 ∧ Hid (m % 4294967296 = lo) ∧ Hid ((-9223372036854775808 ≤ wNum hi lo ∧ wNum hi lo ≤ 9223372036854775807 → m = wNum hi lo) ∧ (¬ (-9223372036854775808 ≤ wNum hi lo ∧ wNum hi lo ≤ 9223372036854775807) → m / 4294967296 ≠ hi)) := by
  unfold wMay at h
  refine ⟨_, rfl, ?_⟩
  rw [i64_or_lo _ _ (by unfold wrap64; omega) (by omega) (by omega), IntKind.wrap_i64]
  unfold wNum wrap64
  exact ⟨by omega, by omega, Lib.hid (by omega), Lib.hid ⟨by omega, by omega⟩⟩
 have Hs := Lib.hid hs
 clear h hs
 have hz : w.heap.size < w1.heap.size := hba.lt
 rcases Hs.out with ⟨h1, h2, rfl, rfl⟩ | ⟨h1, rfl, rfl⟩
 case' inl => have hq : ((m / 4294967296 : Int) == hi) = true := by have h3 := hhi.out.1 ⟨h1, h2⟩; have h4 := hlo.out; unfold wNum at h3; simp; omega
 case' inl => have hnm := Lib.hid (hhi.out.1 ⟨h1, h2⟩)
 case' inr => have hq : ((m / 4294967296 : Int) == hi) = false := by have h3 := hhi.out.2 h1; simp; exact h3
 case' inr => have hnm : True := trivial
 all_goals
  have hr : ((m % 4294967296 : Int) == lo) = true := by have h4 := hlo.out; simp; omega
  clear h1 hhi hlo Hs
  go_wp2_with fail
  go_region_held3 (fun w' => w'.cell? ⟨w.heap.size, 0, none⟩ = some (.int .i64 hi) ∧ w'.cell? ⟨w.heap.size, 1, none⟩ = some (.int .i64 lo))
   (first
    | exact ⟨hg0, hg1⟩
    | exact ⟨hk0, hk1⟩)
   (first
    | (go_at_call 256; refine (of_any m _ hm0 hm1).mono ?_; rintro e w3 ⟨rfl, hbc⟩; have hk0 := (hbc.cell (p := ⟨w.heap.size, 0, none⟩) hz).trans hg0; have hk1 := (hbc.cell (p := ⟨w.heap.size, 1, none⟩) hz).trans hg1))
  have hbe3 : Below w.heap.size w w3 := below_then (Below.drew hbe) hbc
  clear hbc hba hg0 hg1 hk0 hk1 hbe
  go_wp2_with fail
  go_ret2
  first
   | exact ⟨rfl, hbe3⟩
   | exact ⟨by rw [hnm.out]; rfl, hbe3⟩
end Go.Proofs.YtmepdkdeanbbaaaGreat
namespace Go.Proofs.YtmepdkdeanbbaaaGreat
set_option maxRecDepth 100000
open Go.RowKit

section
variable {T : TypeId} {w w' : World} {g : Nat} {A : Option Addr} {n c : Nat} {l : List UInt8} {p e : Nat}
end

def lk (l : List UInt8) (p e : Nat) (lo hi : Int) : Int × Nat × Nat :=
 if e ≠ 0 then (0, 0, e) else if gE (l.drop p) ≠ 0 then (0, 0, gE (l.drop p)) else if gN (l.drop p) < lo ∨ hi < gN (l.drop p) then (0, 0, 2) else (gN (l.drop p), gK (l.drop p), 0)
theorem lk_ok {l : List UInt8} {p : Nat} {lo hi : Int} (h : gE (l.drop p) = 0) (h' : ¬ (gN (l.drop p) < lo ∨ hi < gN (l.drop p))) : lk l p 0 lo hi = (gN (l.drop p), gK (l.drop p), 0) := by
 unfold lk; rw [if_neg (by simp), if_neg (by simpa using h), if_neg h']
def tx (l : List UInt8) (p e : Nat) (hi : Int) : List UInt8 × Nat × Nat :=
 let r := lk l p e 0 hi
 if r.2.2 ≠ 0 then ([], p, r.2.2) else if r.1.toNat ≤ l.length - p - r.2.1 then ((l.drop (p + r.2.1)).take r.1.toNat, p + r.2.1 + r.1.toNat, 0) else ([], p, 3)
theorem tx_ok {l : List UInt8} {p e k : Nat} {hi m : Int} (h : lk l p e 0 hi = (m, k, 0)) (hm : m.toNat ≤ l.length - p - k) : tx l p e hi = ((l.drop (p + k)).take m.toNat, p + k + m.toNat, 0) := by
 unfold tx; rw [h]; simp [hm]
end Go.Proofs.YtmepdkdeanbbaaaGreat
namespace Go.Proofs.YtmepdkdeanbbaaaGreat
set_option maxRecDepth 100000

def rdS (n : Nat) (l : List UInt8) (x : List Pth × Nat × Nat) : List Pth × Nat × Nat :=
 let k := lk l x.2.1 x.2.2 0 x.1.length
 let t := tx l (x.2.1 + k.2.1) k.2.2 12
 if mayC n x.1 k.1.toNat t.1 then (x.1 ++ [pth x.1 k.1.toNat ++ [t.1]], t.2.1, t.2.2) else (x.1, t.2.1, if t.2.2 = 0 then 2 else t.2.2)
def rdN (n : Nat) (l : List UInt8) (x : List Pth × Nat × Nat) : Nat → List Pth × Nat × Nat
 | 0 => x
 | i + 1 => rdS n l (rdN n l x i)
theorem rdS_is {n : Nat} {l : List UInt8} {Q : List Pth} {p e : Nat} {a k1 e1 : Nat} {s : Txt} {p2 e2 : Nat} (h1 : lk l p e 0 Q.length = ((a : Int), k1, e1)) (h2 : tx l (p + k1) e1 12 = (s, p2, e2)) :
  rdS n l (Q, p, e) = if mayC n Q a s then (Q ++ [pth Q a ++ [s]], p2, e2) else (Q, p2, if e2 = 0 then 2 else e2) := by
 unfold rdS
 simp only [h1, h2, Int.toNat_natCast]
end Go.Proofs.YtmepdkdeanbbaaaGreat
namespace Go.Proofs.YtmepdkdeanbbaaaGreat
set_option maxRecDepth 100000
open Go.RowKit

theorem grown_of {w a : World} (hb : Below w.heap.size w a) (r : Option Nat) : w.grownBy a r := ⟨hb.os, hb.tape, hb.output, hb.size, fun k hk _ => hb.block k hk⟩
theorem below_grown {w a c : World} {b : Nat} (hb : Below w.heap.size w a) (hg : a.grownBy c (some b)) : w.grownBy c (some b) := grownBy_trans (grown_of hb _) hg fun _ h => .inl h
end Go.Proofs.YtmepdkdeanbbaaaGreat
namespace Go.Proofs.YtmepdkdeanbbaaaGreat
set_option maxRecDepth 100000

def encI (x : Int) : List UInt8 := enc (zig x)
theorem encI_len {x : Int} (h : -9223372036854775808 ≤ x) (h' : x ≤ 9223372036854775807) : (encI x).length ≤ 10 := enc_ten (zig_lt h h')
theorem flat_len {α : Type} {f : α → List UInt8} {l : List α} {m : Nat} (h : ∀ x ∈ l, (f x).length ≤ m) : (l.flatMap f).length ≤ m * l.length := by
 induction l with
 | nil => simp
 | cons x r ih =>
  have h1 := h x (by simp)
  have h2 := ih fun y hy => h y (List.mem_cons_of_mem _ hy)
  rw [List.flatMap_cons, List.length_append, List.length_cons, Nat.mul_succ]
  omega
end Go.Proofs.YtmepdkdeanbbaaaGreat
namespace Go.Proofs.YtmepdkdeanbbaaaGreat
set_option maxRecDepth 100000

abbrev Fct := List (List Txt) × List Int
def plainF (f : Fct) : Prop := f.1.length ≤ 3 ∧ (∀ p ∈ f.1, mayP p) ∧ f.2.length ≤ 2 ∧ ∀ x ∈ f.2, inV x
instance (f : Fct) : Decidable (plainF f) := by unfold plainF; exact inferInstance
def fitF (D : List PDim) (m : Nat) (f : Fct) : Prop := plainF f ∧ f.1.length = D.length ∧ f.2.length = m ∧ ∀ i, i < D.length → (f.1.getD i []).length = (D.getD i zeroD).2.length
instance (D : List PDim) (m : Nat) (f : Fct) : Decidable (fitF D m f) := by unfold fitF; exact inferInstance
def missP (L : List Fct) (least : Nat) (ok : Fct → Prop) [DecidablePred ok] : Nat := if L.length < least ∨ 8 < L.length then 13 else if ∃ f ∈ L, ¬ ok f then 12 else 0
def mayBt (D : List PDim) (M : List Txt) (V : List (List Int)) (L : List Fct) : Nat := if mayS D M V then missP L 1 (fitF D M.length) else 11
theorem missP_many {L : List Fct} {m : Nat} {ok : Fct → Prop} [DecidablePred ok] (h : L.length < m ∨ 8 < L.length) : missP L m ok = 13 := if_pos h
theorem missP_is {L : List Fct} {m : Nat} {ok : Fct → Prop} [DecidablePred ok] : missP L m ok = 0 ↔ m ≤ L.length ∧ L.length ≤ 8 ∧ ∀ f ∈ L, ok f := by
 unfold missP
 split
 ·constructor
  ·intro h; cases h
  ·intro h; omega
 ·split
  ·rename_i h
   obtain ⟨f, hf, hn⟩ := h
   constructor
   ·intro h; cases h
   ·intro h; exact absurd (h.2.2 f hf) hn
  ·rename_i h1 h2
   exact ⟨fun _ => ⟨by omega, by omega, fun f hf => Classical.byContradiction fun hn => h2 ⟨f, hf, hn⟩⟩, fun _ => rfl⟩
theorem isVal_fold (m : Int) (v : List Int) : (cFold m [v]).2 = 0 ↔ (0 ≤ m ∧ m ≤ 2 ∧ isVal m v) := by
 by_cases h : m < 0 ∨ 2 < m
 ·unfold cFold
  rw [if_pos h]
  constructor
  ·intro h; cases h
  ·intro h; omega
 ·by_cases hv : isVal m v
  ·rw [cFold_all h (by intro u hu; rw [List.mem_singleton.1 hu]; exact hv) (by simp), if_pos]
   ·simp only [true_iff]
    exact ⟨by omega, by omega, hv⟩
   ·intro k hk
    have hx : inV (v.getD k 0) := by
     have hkl : k < v.length := by have := hv.1; omega
     have e : v.getD k 0 = v[k] := by rw [List.getD_eq_getElem?_getD, List.getElem?_eq_getElem hkl]; rfl
     rw [e]
     exact hv.2 _ (List.getElem_mem hkl)
    unfold inV at hx
    simp only [colI, List.map_cons, List.map_nil, sumI, inS]
    omega
  ·rw [cFold_arg (.inr (.inr ⟨v, by simp, hv⟩))]
   constructor
   ·intro h; cases h
   ·intro h; exact absurd h.2.2 hv
end Go.Proofs.YtmepdkdeanbbaaaGreat
namespace Go.Proofs.YtmepdkdeanbbaaaGreat
set_option maxRecDepth 100000

def encMeas (t : Int × Int × Int) : List UInt8 := encI t.1 ++ (encI t.2.1 ++ encI t.2.2)
def ofC (m : Nat) (x : PC) : Int × List (Int × Int × Int) := (x.1, (List.range m).map fun k => (x.2.1.getD k 0, x.2.2.1.getD k 0, x.2.2.2.getD k 0))
def encRaw (z : List Int × Int × List (Int × Int × Int)) : List UInt8 := z.1.flatMap encI ++ (encI z.2.1 ++ z.2.2.flatMap encMeas)
def encOne (m : Nat) (d : List Int × PC) : List UInt8 := encRaw (d.1, ofC m d.2)
theorem isCell_bounds {m : Nat} {x : PC} (h : isCell m x) : 1 ≤ x.1 ∧ x.1 ≤ 1099511627776 ∧ ∀ k, k < m → inS (x.2.1.getD k 0) ∧ inV (x.2.2.1.getD k 0) ∧ inV (x.2.2.2.getD k 0) := by
 obtain ⟨⟨_, _, _, h4⟩, h5, h6⟩ := h
 rcases h4 with h4 | h4
 ·exact absurd (by rw [h4]; rfl) h5
 ·obtain ⟨a1, a2, a3⟩ := h4
  exact ⟨a1, a2, fun k hk => by
   obtain ⟨_, b1, b2, b3, _⟩ := a3 k (by rw [h6]; exact hk)
   exact ⟨b3, b1, b2⟩⟩
def encC (m : Nat) (C : Cub) : List UInt8 := encI (C.length : Int) ++ C.flatMap (encOne m)
end Go.Proofs.YtmepdkdeanbbaaaGreat
namespace Go.Proofs.YtmepdkdeanbbaaaGreat
set_option maxRecDepth 100000

end Go.Proofs.YtmepdkdeanbbaaaGreat
namespace Go.Proofs.YtmepdkdeanbbaaaGreat
set_option maxRecDepth 100000

theorem foldV_is {m : Nat} (hm : m ≤ 2) {l : List (List Int)} (hn : l.length ≤ 1000) (_h0 : l ≠ []) (hv : ∀ v ∈ l, isVal m v) : cFold m l = if cMay (sumC m (l.map oneC)) then (sumC m (l.map oneC), 0) else (zeroC, 14) := by
 have hL : ∀ c ∈ cEmpty m :: l.map oneC, cMay c ∧ c.2.1.length = m := by
  intro c hc
  rcases List.mem_cons.1 hc with rfl | hc
  ·exact ⟨⟨by simpa [cEmpty] using hm, by simp [cEmpty], by simp [cEmpty], .inl (by simp [cEmpty])⟩, by simp [cEmpty]⟩
  ·obtain ⟨v, hv', rfl⟩ := List.mem_map.1 hc
   exact (oneC_may hm v).2 (hv v hv')
 have h1 := cSum_drop (k := 1) hm (by simp) hL (by intro c hc; simp at hc; subst hc; rfl)
 rw [cSum_fold hm l hn] at h1
 simpa using h1
theorem oneC_cell {m : Nat} (hm : m ≤ 2) {v : List Int} (h : isVal m v) : isCell m (oneC v) := by
 obtain ⟨h1, h2⟩ := (oneC_may hm v).2 h
 exact ⟨h1, by simp [oneC], h2⟩
section
variable {α K : Type} [DecidableEq K]
def cellsV (κ : α → K) (c : α → PC) (F : List α) (k : K) : List PC := (F.filter fun f => decide (κ f = k)).map c
theorem cellsV_app (κ : α → K) (c : α → PC) (F G : List α) (k : K) : cellsV κ c (F ++ G) k = cellsV κ c F k ++ cellsV κ c G k := by unfold cellsV; rw [List.filter_append, List.map_append]
theorem cellsV_ne {κ : α → K} {c : α → PC} {F : List α} {k : K} : cellsV κ c F k ≠ [] ↔ ∃ f ∈ F, κ f = k := by
 unfold cellsV
 constructor
 ·intro h
  obtain ⟨c, hc⟩ := List.exists_mem_of_ne_nil _ h
  obtain ⟨f, hf, _⟩ := List.mem_map.1 hc
  have h2 := List.mem_filter.1 hf
  exact ⟨f, h2.1, of_decide_eq_true h2.2⟩
 ·rintro ⟨f, hf, e⟩ h
  have h2 : f ∈ F.filter fun f => decide (κ f = k) := List.mem_filter.2 ⟨hf, decide_eq_true e⟩
  rw [List.map_eq_nil_iff.1 h] at h2
  simp at h2
theorem cellsV_full {m : Nat} {κ : α → K} {c : α → PC} {F : List α} (hF : ∀ f ∈ F, isCell m (c f)) (k : K) : ∀ x ∈ cellsV κ c F k, Full m x := by
 intro x hx
 obtain ⟨f, hf, rfl⟩ := List.mem_map.1 hx
 exact (hF f (List.mem_filter.1 hf).1).full
def okF (m : Nat) (κ : α → K) (c : α → PC) (F : List α) : Prop := ∀ f ∈ F, cMay (sumC m (cellsV κ c F (κ f)))
def fstK (κ : α → K) : List α → List K → List K
 | [], acc => acc
 | f :: F, acc => fstK κ F (if κ f ∈ acc then acc else acc ++ [κ f])
theorem fstK_snoc (κ : α → K) : ∀ (F : List α) (f : α) (acc : List K), fstK κ (F ++ [f]) acc = if κ f ∈ fstK κ F acc then fstK κ F acc else fstK κ F acc ++ [κ f]
 | [], f, acc => rfl
 | g :: F, f, acc => by
  show fstK κ (F ++ [f]) _ = _
  rw [fstK_snoc κ F f]
  rfl
theorem mem_fstK (κ : α → K) : ∀ (F : List α) (acc : List K) (k : K), k ∈ fstK κ F acc ↔ k ∈ acc ∨ ∃ f ∈ F, κ f = k
 | [], acc, k => by simp [fstK]
 | g :: F, acc, k => by
  rw [fstK, mem_fstK κ F]
  by_cases h : κ g ∈ acc
  ·rw [if_pos h]
   constructor
   ·rintro (h1 | ⟨f, hf, e⟩)
    ·exact .inl h1
    ·exact .inr ⟨f, List.mem_cons_of_mem _ hf, e⟩
   ·rintro (h1 | ⟨f, hf, e⟩)
    ·exact .inl h1
    ·rcases List.mem_cons.1 hf with rfl | hf
     ·exact .inl (e ▸ h)
     ·exact .inr ⟨f, hf, e⟩
  ·rw [if_neg h]
   constructor
   ·rintro (h1 | ⟨f, hf, e⟩)
    ·rcases List.mem_append.1 h1 with h1 | h1
     ·exact .inl h1
     ·exact .inr ⟨g, by simp, (List.mem_singleton.1 h1).symm⟩
    ·exact .inr ⟨f, List.mem_cons_of_mem _ hf, e⟩
   ·rintro (h1 | ⟨f, hf, e⟩)
    ·exact .inl (List.mem_append_left _ h1)
    ·rcases List.mem_cons.1 hf with rfl | hf
     ·exact .inl (List.mem_append_right _ (by simp [e]))
     ·exact .inr ⟨f, hf, e⟩
theorem fstK_nodup (κ : α → K) : ∀ (F : List α) (acc : List K), acc.Nodup → (fstK κ F acc).Nodup
 | [], _, h => h
 | g :: F, acc, h => by
  rw [fstK]
  refine fstK_nodup κ F _ ?_
  split
  ·exact h
  ·rename_i hn
   refine List.nodup_append.2 ⟨h, by simp, fun a ha b hb e => ?_⟩
   rw [List.mem_singleton.1 hb] at e
   exact hn (e ▸ ha)
theorem fstK_len (κ : α → K) : ∀ (F : List α) (acc : List K), (fstK κ F acc).length ≤ acc.length + F.length
 | [], acc => by simp [fstK]
 | g :: F, acc => by
  rw [fstK]
  have h := fstK_len κ F (if κ g ∈ acc then acc else acc ++ [κ g])
  have h2 : (if κ g ∈ acc then acc else acc ++ [κ g]).length ≤ acc.length + 1 := by split <;> simp
  simp only [List.length_cons]
  omega
theorem fstK_step {κ : α → K} {F : List α} {i : Nat} {f : α} (h : F[i]? = some f) : fstK κ (F.take (i + 1)) [] = if κ f ∈ fstK κ (F.take i) [] then fstK κ (F.take i) [] else fstK κ (F.take i) [] ++ [κ f] := by
 rw [List.take_add_one, h]
 exact fstK_snoc κ _ _ _
theorem cellsV_from {κ : α → K} {c : α → PC} {F : List α} {i : Nat} {k : K} (h : k ∉ fstK κ (F.take i) []) : cellsV κ c (F.drop i) k = cellsV κ c F k := by
 have h1 : cellsV κ c (F.take i) k = [] := Classical.byContradiction fun hn => h ((mem_fstK κ _ _ _).2 (.inr (cellsV_ne.1 hn)))
 have h2 := cellsV_app κ c (F.take i) (F.drop i) k
 rw [List.take_append_drop, h1, List.nil_append] at h2
 exact h2.symm
theorem sumC_more {m : Nat} {A B : List PC} (hA : ∀ c ∈ A, Full m c) (hB : ∀ c ∈ B, Full m c) (nA : A ≠ []) : sumC m (sumC m A :: B) = sumC m (A ++ B) := by
 have hs := sumC_is hA nA
 by_cases nB : B = []
 ·subst nB
  rw [List.append_nil, sumC_self hs]
 ·rw [show sumC m A :: B = [sumC m A] ++ B from rfl, sumC_app (fun c hc => by rw [List.mem_singleton.1 hc]; exact hs) hB (by simp) nB, sumC_self hs, ← sumC_app hA hB nA nB]
end
/-! ### rows, and a cuboid -/
section
variable {α : Type}
structure IsRows (m : Nat) (κ : α → PKey) (c : α → PC) (F : List α) (R : Rws) : Prop where
 ris : RisL R
 all : ∀ x, x ∈ R ↔ (∃ f ∈ F, κ f = x.1) ∧ x.2 = sumC m (cellsV κ c F x.1)
theorem IsRows.one {m : Nat} {κ : α → PKey} {c : α → PC} {F : List α} {R Q : Rws} (h : IsRows m κ c F R) (h' : IsRows m κ c F Q) : R = Q := risL_ext h.ris h'.ris fun x => (h.all x).trans (h'.all x).symm
structure IsCub (m : Nat) (κ : α → List Int) (c : α → PC) (F : List α) (C : Cub) : Prop where
 ris : Ris C
 all : ∀ x, x ∈ C ↔ (∃ f ∈ F, κ f = x.1) ∧ x.2 = sumC m (cellsV κ c F x.1)
theorem IsCub.get {m : Nat} {κ : α → List Int} {c : α → PC} {F : List α} {C : Cub} (h : IsCub m κ c F C) (k : List Int) : getK C k = if ∃ f ∈ F, κ f = k then some (sumC m (cellsV κ c F k)) else none := by
 by_cases hk : ∃ f ∈ F, κ f = k
 ·rw [if_pos hk]
  exact getK_of_mem h.ris ((h.all (k, _)).2 ⟨hk, rfl⟩)
 ·rw [if_neg hk, getK_none]
  intro hm
  obtain ⟨x, hx, rfl⟩ := List.mem_map.1 hm
  exact hk ((h.all x).1 hx).1
theorem IsCub.of_get {m : Nat} {κ : α → List Int} {c : α → PC} {F : List α} {C : Cub} (hr : Ris C) (h : ∀ k, getK C k = if ∃ f ∈ F, κ f = k then some (sumC m (cellsV κ c F k)) else none) : IsCub m κ c F C :=
 ⟨hr, fun x => by
  constructor
  ·intro hx
   have h1 := getK_of_mem hr hx
   rw [h] at h1
   split at h1
   ·rename_i hk
    injection h1 with h1
    exact ⟨hk, h1.symm⟩
   ·cases h1
  ·rintro ⟨hk, e⟩
   have h1 := h x.1
   rw [if_pos hk, ← e] at h1
   exact getK_mem h1⟩
theorem IsCub.one {m : Nat} {κ : α → List Int} {c : α → PC} {F : List α} {C D : Cub} (h : IsCub m κ c F C) (h' : IsCub m κ c F D) : C = D := ris_ext h.ris h'.ris fun k => by rw [h.get, h'.get]
theorem cells_alike {κ : α → List Int} {μ : α → PKey} {c : α → PC} {F : List α} (h : ∀ f ∈ F, ∀ g ∈ F, κ f = κ g ↔ μ f = μ g) {f : α} (hf : f ∈ F) : cellsV κ c F (κ f) = cellsV μ c F (μ f) := by
 unfold cellsV
 congr 1
 refine List.filter_congr fun g hg => ?_
 have h1 := h g hg f hf
 by_cases e : κ g = κ f
 ·rw [decide_eq_true e, decide_eq_true (h1.1 e)]
 ·rw [decide_eq_false e, decide_eq_false (fun e' => e (h1.2 e'))]
theorem IsCub.rows {m : Nat} {κ : α → List Int} {μ : α → PKey} {c : α → PC} {F : List α} {C : Cub} {R : Rws} (hC : IsCub m κ c F C) (h : ∀ f ∈ F, ∀ g ∈ F, κ f = κ g ↔ μ f = μ g) (ψ : List Int → PKey) (hψ : ∀ f ∈ F, ψ (κ f) = μ f) (hR : RisL R) (hp : R.Perm (C.map fun e => (ψ e.1, e.2))) : IsRows m μ c F R :=
 ⟨hR, fun x => by
  rw [hp.mem_iff, List.mem_map]
  constructor
  ·rintro ⟨e, he, rfl⟩
   obtain ⟨⟨f, hf, hk⟩, hc⟩ := (hC.all e).1 he
   have h2 : ψ e.1 = μ f := by rw [← hk]; exact hψ f hf
   refine ⟨⟨f, hf, h2.symm⟩, ?_⟩
   show e.2 = sumC m (cellsV μ c F (ψ e.1))
   rw [hc, ← hk, cells_alike h hf, hψ f hf]
  ·rintro ⟨⟨f, hf, hk⟩, hc⟩
   refine ⟨(κ f, sumC m (cellsV κ c F (κ f))), (hC.all _).2 ⟨⟨f, hf, rfl⟩, rfl⟩, ?_⟩
   refine Prod.ext ?_ ?_
   ·show ψ (κ f) = x.1
    rw [hψ f hf, hk]
   ·show sumC m (cellsV κ c F (κ f)) = x.2
    rw [cells_alike h hf, hc, hk]⟩
def doneF (m : Nat) (κ : α → PKey) (c : α → PC) (F : List α) (i : Nat) : Rws := (fstK κ (F.take i) []).map fun k => (k, sumC m (cellsV κ c F k))
theorem doneF_keys (m : Nat) (κ : α → PKey) (c : α → PC) (F : List α) (i : Nat) : (doneF m κ c F i).map (·.1) = fstK κ (F.take i) [] := by
 unfold doneF
 rw [List.map_map]
 exact List.map_id' _
theorem doneF_had {m : Nat} {κ : α → PKey} {c : α → PC} {F : List α} {i : Nat} {f : α} (h : F[i]? = some f) (hh : κ f ∈ fstK κ (F.take i) []) : doneF m κ c F (i + 1) = doneF m κ c F i := by
 unfold doneF
 rw [fstK_step h, if_pos hh]
theorem doneF_new {m : Nat} {κ : α → PKey} {c : α → PC} {F : List α} {i : Nat} {f : α} (h : F[i]? = some f) (hh : κ f ∉ fstK κ (F.take i) []) : doneF m κ c F (i + 1) = doneF m κ c F i ++ [(κ f, sumC m (cellsV κ c F (κ f)))] := by
 unfold doneF
 rw [fstK_step h, if_neg hh, List.map_append]
 rfl
theorem doneF_one (m : Nat) (κ : α → PKey) (c : α → PC) (F : List α) (i : Nat) : (doneF m κ c F i).Pairwise fun a b => a.1 ≠ b.1 := by
 have h := fstK_nodup κ (F.take i) [] List.nodup_nil
 unfold doneF
 rw [List.pairwise_map]
 exact h
theorem doneF_rows {m : Nat} {κ : α → PKey} {c : α → PC} {F : List α} {R : Rws} (h : Sel (doneF m κ c F F.length) R []) : IsRows m κ c F R :=
 ⟨h.end_.1, fun x => by
  rw [h.end_.2.mem_iff]
  unfold doneF
  rw [List.take_length, List.mem_map]
  constructor
  ·rintro ⟨k, hk, rfl⟩
   rcases (mem_fstK κ F [] k).1 hk with h1 | h1
   ·simp at h1
   ·exact ⟨h1, rfl⟩
  ·rintro ⟨hk, e⟩
   exact ⟨x.1, (mem_fstK κ F [] x.1).2 (.inr hk), Prod.ext rfl e.symm⟩⟩
end
end Go.Proofs.YtmepdkdeanbbaaaGreat
namespace Go.Proofs.YtmepdkdeanbbaaaGreat
set_option maxRecDepth 100000

def keyP : List Int → List Pth → PKey
 | n :: v, p :: P => p.take n.toNat :: keyP v P
 | _, _ => []
def keyC : List (List Pth) → List Int → List Pth → List Int
 | Q :: Qs, n :: v, p :: P => ((fnd Q (p.take n.toNat) : Nat) : Int) :: keyC Qs v P
 | _, _, _ => []
def pathsK : List (List Pth) → List Int → PKey
 | Q :: Qs, c :: k => pth Q c.toNat :: pathsK Qs k
 | _, _ => []
def HasPth : List (List Pth) → List Int → List Pth → Prop
 | Q :: Qs, n :: v, p :: P => (p.take n.toNat = [] ∨ p.take n.toNat ∈ Q) ∧ HasPth Qs v P
 | [], [], [] => True
 | _, _, _ => False
def NoNil (Qs : List (List Pth)) : Prop := ∀ Q ∈ Qs, [] ∉ Q
theorem fnd_take {Q : List Pth} (h0 : [] ∉ Q) {a b : Pth} (ha : a = [] ∨ a ∈ Q) (hb : b = [] ∨ b ∈ Q) : fnd Q a = fnd Q b ↔ a = b := by
 constructor
 ·intro h
  rcases ha with rfl | ha
  ·rcases hb with rfl | hb
   ·rfl
   ·rw [fnd_no h0] at h
    exact absurd (fnd_pos.2 hb) (by omega)
  ·exact fnd_inj h ha
 ·rintro rfl; rfl
theorem keyC_alike : ∀ {Qs : List (List Pth)} {v : List Int} {P P' : List Pth}, NoNil Qs → HasPth Qs v P → HasPth Qs v P' → (keyC Qs v P = keyC Qs v P' ↔ keyP v P = keyP v P')
 | [], [], [], [], _, _, _ => by simp [keyC, keyP]
 | Q :: Qs, n :: v, p :: P, p' :: P', h0, h, h' => by
  have h1 := fnd_take (h0 Q (by simp)) h.1 h'.1
  have h2 := keyC_alike (Qs := Qs) (v := v) (P := P) (P' := P') (fun Q hQ => h0 Q (List.mem_cons_of_mem _ hQ)) h.2 h'.2
  simp only [keyC, keyP, List.cons.injEq, Int.natCast_inj]
  exact and_congr h1 h2
 | [], _ :: _, _, _, _, h, _ => h.elim
 | [], [], _ :: _, _, _, h, _ => h.elim
 | [], [], [], _ :: _, _, _, h => h.elim
 | _ :: _, [], _, _, _, h, _ => h.elim
 | _ :: _, _ :: _, [], _, _, h, _ => h.elim
 | _ :: _, _ :: _, _ :: _, [], _, _, h => h.elim
theorem pathsK_key : ∀ {Qs : List (List Pth)} {v : List Int} {P : List Pth}, NoNil Qs → HasPth Qs v P → pathsK Qs (keyC Qs v P) = keyP v P
 | [], [], [], _, _ => rfl
 | Q :: Qs, n :: v, p :: P, h0, h => by
  have h2 := pathsK_key (Qs := Qs) (v := v) (P := P) (fun Q hQ => h0 Q (List.mem_cons_of_mem _ hQ)) h.2
  simp only [keyC, keyP, pathsK, Int.toNat_natCast, List.cons.injEq]
  refine ⟨?_, h2⟩
  rcases h.1 with e | hm
  ·rw [e, fnd_no (h0 Q (by simp))]
   rfl
  ·exact pth_fnd hm
 | [], _ :: _, _, _, h => h.elim
 | [], [], _ :: _, _, h => h.elim
 | _ :: _, [], _, _, h => h.elim
 | _ :: _, _ :: _, [], _, h => h.elim
def GrownD : List (List Pth) → List (List Pth) → Prop
 | Q :: Qs, R :: Rs => (∃ M, R = Q ++ M) ∧ GrownD Qs Rs
 | [], [] => True
 | _, _ => False
theorem GrownD.refl : ∀ Qs : List (List Pth), GrownD Qs Qs
 | [] => trivial
 | Q :: Qs => ⟨⟨[], by simp⟩, GrownD.refl Qs⟩
theorem GrownD.trans : ∀ {Qs Rs Ts : List (List Pth)}, GrownD Qs Rs → GrownD Rs Ts → GrownD Qs Ts
 | [], [], [], _, _ => trivial
 | Q :: Qs, R :: Rs, T :: Ts, ⟨⟨M, e⟩, h⟩, ⟨⟨M', e'⟩, h'⟩ => ⟨⟨M ++ M', by rw [e', e, List.append_assoc]⟩, GrownD.trans h h'⟩
 | [], _ :: _, _, h, _ => h.elim
 | _ :: _, [], _, h, _ => h.elim
 | [], [], _ :: _, _, h => h.elim
 | _ :: _, _ :: _, [], _, h => h.elim
theorem HasPth.grown : ∀ {Qs Rs : List (List Pth)} {v : List Int} {P : List Pth}, GrownD Qs Rs → HasPth Qs v P → HasPth Rs v P
 | [], [], _, _, _, h => h
 | Q :: Qs, R :: Rs, n :: v, p :: P, ⟨⟨M, e⟩, hg⟩, h => ⟨h.1.imp id fun hm => by rw [e]; exact List.mem_append_left _ hm, HasPth.grown hg h.2⟩
 | Q :: Qs, R :: Rs, [], _, _, h => h.elim
 | Q :: Qs, R :: Rs, _ :: _, [], _, h => h.elim
 | [], _ :: _, _, _, h, _ => h.elim
 | _ :: _, [], _, _, h, _ => h.elim
theorem keyC_grown : ∀ {Qs Rs : List (List Pth)} {v : List Int} {P : List Pth}, GrownD Qs Rs → NoNil Rs → HasPth Qs v P → keyC Rs v P = keyC Qs v P
 | [], [], _, _, _, _, _ => rfl
 | Q :: Qs, R :: Rs, n :: v, p :: P, ⟨⟨M, e⟩, hg⟩, h0, h => by
  have h2 := keyC_grown hg (fun Q hQ => h0 Q (List.mem_cons_of_mem _ hQ)) h.2
  simp only [keyC, List.cons.injEq, Int.natCast_inj]
  refine ⟨?_, h2⟩
  rcases h.1 with e1 | hm
  ·have hR : [] ∉ R := h0 R (by simp)
   rw [e1, fnd_no hR, fnd_no (fun hq => hR (by rw [e]; exact List.mem_append_left _ hq))]
  ·rw [e]
   exact fnd_left hm
 | Q :: Qs, R :: Rs, [], _, _, _, h => h.elim
 | Q :: Qs, R :: Rs, _ :: _, [], _, _, h => h.elim
 | [], _ :: _, _, _, h, _, _ => h.elim
 | _ :: _, [], _, _, h, _, _ => h.elim
end Go.Proofs.YtmepdkdeanbbaaaGreat
namespace Go.Proofs.YtmepdkdeanbbaaaGreat
set_option maxRecDepth 100000

theorem IsCub.more {m : Nat} {α : Type} {κ : α → List Int} {c : α → PC} {F G : List α} {C D : Cub} (hF : ∀ f ∈ F, isCell m (c f)) (hG : ∀ f ∈ G, isCell m (c f)) (hC : IsCub m κ c F C) (hr : Ris D)
  (hD : ∀ k, getK D k = if ∃ g ∈ G, κ g = k then some (sumC m ((getK C k).toList ++ cellsV κ c G k)) else getK C k) : IsCub m κ c (F ++ G) D := by
 refine IsCub.of_get hr fun k => ?_
 rw [hD k]
 by_cases hg : ∃ g ∈ G, κ g = k
 ·have hfg : ∃ f ∈ F ++ G, κ f = k := by
   obtain ⟨g, hg1, hg2⟩ := hg
   exact ⟨g, List.mem_append_right _ hg1, hg2⟩
  rw [if_pos hg, if_pos hfg, cellsV_app, hC.get]
  by_cases hf : ∃ f ∈ F, κ f = k
  ·rw [if_pos hf]
   show some (sumC m (sumC m (cellsV κ c F k) :: cellsV κ c G k)) = _
   rw [sumC_more (cellsV_full hF k) (cellsV_full hG k) (cellsV_ne.2 hf)]
  ·rw [if_neg hf]
   have h0 : cellsV κ c F k = [] := Classical.byContradiction fun h => hf (cellsV_ne.1 h)
   rw [h0]
   rfl
 ·rw [if_neg hg, hC.get]
  have h0 : cellsV κ c G k = [] := Classical.byContradiction fun h => hg (cellsV_ne.1 h)
  by_cases hf : ∃ f ∈ F, κ f = k
  ·have hfg : ∃ f ∈ F ++ G, κ f = k := by
    obtain ⟨g, hg1, hg2⟩ := hf
    exact ⟨g, List.mem_append_left _ hg1, hg2⟩
   rw [if_pos hf, if_pos hfg, cellsV_app, h0, List.append_nil]
  ·rw [if_neg hf, if_neg]
   rintro ⟨f, h1, h2⟩
   rcases List.mem_append.1 h1 with h1 | h1
   ·exact hf ⟨f, h1, h2⟩
   ·exact hg ⟨f, h1, h2⟩
theorem okF_more {m : Nat} {α : Type} {κ : α → List Int} {c : α → PC} {F G : List α} {C : Cub} (hF : ∀ f ∈ F, isCell m (c f)) (hG : ∀ f ∈ G, isCell m (c f)) (hC : IsCub m κ c F C) (hok : okF m κ c F) :
  okF m κ c (F ++ G) ↔ ∀ g ∈ G, cMay (sumC m ((getK C (κ g)).toList ++ cellsV κ c G (κ g))) := by
 have key : ∀ g ∈ G, sumC m ((getK C (κ g)).toList ++ cellsV κ c G (κ g)) = sumC m (cellsV κ c (F ++ G) (κ g)) := fun g hg => by
  rw [cellsV_app, hC.get]
  by_cases hf : ∃ f ∈ F, κ f = κ g
  ·rw [if_pos hf]
   show sumC m (sumC m (cellsV κ c F (κ g)) :: cellsV κ c G (κ g)) = _
   rw [sumC_more (cellsV_full hF _) (cellsV_full hG _) (cellsV_ne.2 hf)]
  ·rw [if_neg hf]
   have h0 : cellsV κ c F (κ g) = [] := Classical.byContradiction fun h => hf (cellsV_ne.1 h)
   rw [h0]
   rfl
 constructor
 ·intro h g hg
  rw [key g hg]
  exact h g (List.mem_append_right _ hg)
 ·intro h f hf
  by_cases hg : ∃ g ∈ G, κ g = κ f
  ·obtain ⟨g, hg1, hg2⟩ := hg
   rw [← hg2, ← key g hg1]
   exact h g hg1
  ·have h0 : cellsV κ c G (κ f) = [] := Classical.byContradiction fun h => hg (cellsV_ne.1 h)
   rw [cellsV_app, h0, List.append_nil]
   rcases List.mem_append.1 hf with hf | hf
   ·exact hok f hf
   ·exact absurd ⟨f, hf, rfl⟩ hg
theorem okF_alike {m : Nat} {α : Type} {κ : α → List Int} {μ : α → PKey} {c : α → PC} {F : List α} (h : ∀ f ∈ F, ∀ g ∈ F, κ f = κ g ↔ μ f = μ g) : okF m κ c F ↔ okF m μ c F := by
 unfold okF
 constructor
 ·intro hk f hf
  rw [← cells_alike h hf]
  exact hk f hf
 ·intro hk f hf
  rw [cells_alike h hf]
  exact hk f hf
def kC {β : Type} (Qs : List (List Pth)) (v : List Int) (f : PKey × β) : List Int := keyC Qs v f.1
def kP {β : Type} (v : List Int) (f : PKey × β) : PKey := keyP v f.1
theorem kC_alike {Qs : List (List Pth)} {v : List Int} {β : Type} {F : List (PKey × β)} (h0 : NoNil Qs) (h : ∀ f ∈ F, HasPth Qs v f.1) : ∀ f ∈ F, ∀ g ∈ F, kC Qs v f = kC Qs v g ↔ kP v f = kP v g := fun f hf g hg => keyC_alike h0 (h f hf) (h g hg)
theorem kC_path {Qs : List (List Pth)} {v : List Int} {β : Type} {F : List (PKey × β)} (h0 : NoNil Qs) (h : ∀ f ∈ F, HasPth Qs v f.1) : ∀ f ∈ F, pathsK Qs (kC Qs v f) = kP v f := fun f hf => pathsK_key h0 (h f hf)
theorem IsCub.grown {m : Nat} {Qs Rs : List (List Pth)} {v : List Int} {β : Type} {c : PKey × β → PC} {F : List (PKey × β)} {C : Cub} (hC : IsCub m (kC Qs v) c F C) (hg : GrownD Qs Rs) (h0 : NoNil Rs) (h : ∀ f ∈ F, HasPth Qs v f.1) : IsCub m (kC Rs v) c F C := by
 have e : ∀ f ∈ F, kC Rs v f = kC Qs v f := fun f hf => keyC_grown hg h0 (h f hf)
 have e2 : ∀ k, cellsV (kC Rs v) c F k = cellsV (kC Qs v) c F k := fun k => by
  unfold cellsV
  congr 1
  refine List.filter_congr fun f hf => ?_
  rw [e f hf]
 refine ⟨hC.ris, fun x => ?_⟩
 rw [hC.all x, e2]
 refine and_congr_left fun _ => ?_
 constructor
 ·rintro ⟨f, hf, hk⟩; exact ⟨f, hf, by rw [e f hf, hk]⟩
 ·rintro ⟨f, hf, hk⟩; exact ⟨f, hf, by rw [← e f hf, hk]⟩
end Go.Proofs.YtmepdkdeanbbaaaGreat
namespace Go.Proofs.YtmepdkdeanbbaaaGreat
set_option maxRecDepth 100000

def LeastAt (L : Rws) (i j : Nat) : Prop := j < i ∧ ∀ (k : Nat) (a b : PKey × PC), k < i → L[k]? = some a → L[j]? = some b → ¬ lessL a.1 b.1
theorem leastAt_one {L : Rws} : LeastAt L 1 0 := ⟨by omega, fun k a b hk ha hb => by
 obtain rfl : k = 0 := by omega
 rw [ha] at hb
 injection hb with hb
 rw [hb]
 exact lessL_irrefl _⟩
theorem leastAt_less {L : Rws} {i j : Nat} {a b : PKey × PC} (h : LeastAt L i j) (ha : L[i]? = some a) (hb : L[j]? = some b) (hl : lessL a.1 b.1) : LeastAt L (i + 1) i := ⟨by omega, fun k x y hk hx hy => by
 rw [ha] at hy
 injection hy with hy
 subst hy
 by_cases hki : k = i
 ·subst hki
  rw [ha] at hx
  injection hx with hx
  rw [hx]
  exact lessL_irrefl _
 ·exact fun h1 => h.2 k x b (by omega) hx hb (lessL_trans h1 hl)⟩
theorem leastAt_not {L : Rws} {i j : Nat} {a b : PKey × PC} (h : LeastAt L i j) (ha : L[i]? = some a) (hb : L[j]? = some b) (hl : ¬ lessL a.1 b.1) : LeastAt L (i + 1) j := ⟨by have := h.1; omega, fun k x y hk hx hy => by
 by_cases hki : k = i
 ·subst hki
  rw [ha] at hx
  injection hx with hx
  rw [hb] at hy
  injection hy with hy
  rw [← hx, ← hy]
  exact hl
 ·exact h.2 k x y (by omega) hx hy⟩
theorem leastAt_all {L : Rws} {j : Nat} {b : PKey × PC} (h : LeastAt L L.length j) (hb : L[j]? = some b) : ∀ a ∈ L, ¬ lessL a.1 b.1 := fun a ha => by
 obtain ⟨k, hk, rfl⟩ := List.getElem_of_mem ha
 exact h.2 k _ b hk (List.getElem?_eq_getElem hk) hb
abbrev cellsR (L : Rws) (k : PKey) : List PC := cellsV (fun e : PKey × PC => e.1) (fun e => e.2) L k
structure TogR (m : Nat) (L out l : Rws) : Prop where
 left : l = L.filter fun e => decide (e.1 ∉ out.map (·.1))
 ris : RisL out
 lt : ∀ a ∈ out, ∀ b ∈ l, lessL a.1 b.1
 val : ∀ x ∈ out, (∃ e ∈ L, e.1 = x.1) ∧ x.2 = sumC m (cellsR L x.1)
theorem TogR.cells {m : Nat} {L out l : Rws} (h : TogR m L out l) {k : PKey} (hk : ∃ e ∈ l, e.1 = k) : cellsR l k = cellsR L k := by
 obtain ⟨e, he, rfl⟩ := hk
 rw [h.left] at he ⊢
 have hn := of_decide_eq_true (List.mem_filter.1 he).2
 unfold cellsR cellsV
 rw [List.filter_filter]
 congr 1
 refine List.filter_congr fun x hx => ?_
 by_cases hxe : x.1 = e.1
 ·rw [decide_eq_true hxe, Bool.true_and, hxe, decide_eq_true hn]
 ·rw [decide_eq_false hxe, Bool.false_and]
end Go.Proofs.YtmepdkdeanbbaaaGreat
namespace Go.Proofs.YtmepdkdeanbbaaaGreat
set_option maxRecDepth 100000

end Go.Proofs.YtmepdkdeanbbaaaGreat
namespace Go.Proofs.YtmepdkdeanbbaaaGreat
set_option maxRecDepth 100000

def GoodD : List Nat → List (List Pth) → Prop
 | n :: N, Q :: Qs => Good n Q ∧ GoodD N Qs
 | [], [] => True
 | _, _ => False
theorem GoodD.noNil : ∀ {N : List Nat} {Qs : List (List Pth)}, GoodD N Qs → NoNil Qs
 | [], [], _ => fun Q h => by simp at h
 | n :: N, Q :: Qs, ⟨h, h'⟩ => fun R hR => by
  rcases List.mem_cons.1 hR with rfl | hR
  ·exact h.ne_nil
  ·exact GoodD.noNil h' R hR
 | [], _ :: _, h => h.elim
 | _ :: _, [], h => h.elim
def addD : List Nat → List (List Pth) → List Pth → List (List Pth)
 | n :: N, Q :: Qs, p :: P => addQ n Q p :: addD N Qs P
 | _, Qs, _ => Qs
def errD : List Nat → List (List Pth) → List Pth → Nat
 | n :: N, Q :: Qs, p :: P => if addE n Q p ≠ 0 then addE n Q p else errD N Qs P
 | _, _, _ => 0
theorem addQ_grown (n : Nat) (Q : List Pth) (p : Pth) : ∃ M, addQ n Q p = Q ++ M := by
 unfold addQ
 split
 ·exact ⟨_, rfl⟩
 ·exact ⟨[], by simp⟩
theorem addD_grown : ∀ (N : List Nat) (Qs : List (List Pth)) (P : List Pth), GrownD Qs (addD N Qs P)
 | n :: N, Q :: Qs, p :: P => ⟨addQ_grown n Q p, addD_grown N Qs P⟩
 | [], Qs, _ => by rw [addD]; exact GrownD.refl Qs; all_goals simp
 | _ :: _, [], _ => trivial
 | _ :: _, Q :: Qs, [] => GrownD.refl (Q :: Qs)
theorem addD_good : ∀ {N : List Nat} {Qs : List (List Pth)} (P : List Pth), GoodD N Qs → GoodD N (addD N Qs P)
 | _ :: _, _ :: _, _ :: P, ⟨h, h'⟩ => ⟨h.add, addD_good P h'⟩
 | [], [], _, h => h
 | _ :: _, _ :: _, [], h => h
 | [], _ :: _, _, h => h.elim
 | _ :: _, [], _, h => h.elim
def LevD : List Nat → List Int → Prop
 | n :: N, v :: V => 0 ≤ v ∧ v ≤ (n : Int) ∧ LevD N V
 | [], [] => True
 | _, _ => False
theorem addD_has : ∀ {N : List Nat} {Qs : List (List Pth)} {P : List Pth} {v : List Int}, GoodD N Qs → LevD N v → P.length = N.length → errD N Qs P = 0 → HasPth (addD N Qs P) v P
 | [], [], [], [], _, _, _, _ => trivial
 | n :: N, Q :: Qs, p :: P, x :: v, ⟨hg, hG⟩, ⟨h0, h1, hv⟩, hl, he => by
  have he0 : addE n Q p = 0 := Classical.byContradiction fun h => by rw [errD, if_pos h] at he; exact h he
  have he1 : errD N Qs P = 0 := by rw [errD, if_neg (fun h => h he0)] at he; exact he
  have hok : addOk n Q p := Classical.byContradiction fun h => by
   unfold addE at he0
   rw [if_neg h] at he0
   split at he0 <;> cases he0
  refine ⟨?_, addD_has hG hv (by simpa using hl) he1⟩
  by_cases hx : x.toNat = 0
  ·rw [hx]; exact .inl (by simp)
  ·exact .inr (Good.take_mem hg.add (add_there hg hok) (by omega) (by rw [hok.1.1]; omega))
 | [], _ :: _, _, _, h, _, _, _ => h.elim
 | _ :: _, [], _, _, h, _, _, _ => h.elim
 | [], [], _ :: _, _, _, _, hl, _ => by simp at hl
 | [], [], [], _ :: _, _, h, _, _ => h.elim
 | _ :: _, _ :: _, [], _, _, _, hl, _ => by simp at hl
 | _ :: _, _ :: _, _ :: _, [], _, h, _, _ => h.elim
def addsD (N : List Nat) : List (List Pth) → List Fct → List (List Pth) × Nat
 | Qs, [] => (Qs, 0)
 | Qs, f :: F => if errD N Qs f.1 ≠ 0 then (Qs, errD N Qs f.1) else addsD N (addD N Qs f.1) F
theorem addsD_all {N : List Nat} : ∀ {F : List Fct} {Qs Rs : List (List Pth)}, GoodD N Qs → addsD N Qs F = (Rs, 0) → GoodD N Rs ∧ GrownD Qs Rs ∧ ∀ v, LevD N v → ∀ f ∈ F, f.1.length = N.length → HasPth Rs v f.1
 | [], Qs, Rs, h, e => by
  rw [addsD] at e
  injection e with e _
  subst e
  exact ⟨h, GrownD.refl _, fun v _ f hf => by simp at hf⟩
 | f :: F, Qs, Rs, h, e => by
  rw [addsD] at e
  by_cases he : errD N Qs f.1 ≠ 0
  ·rw [if_pos he] at e
   injection e with _ e
   exact absurd e he
  ·rw [if_neg he] at e
   have he0 : errD N Qs f.1 = 0 := Classical.byContradiction he
   obtain ⟨h1, h2, h3⟩ := addsD_all (addD_good f.1 h) e
   refine ⟨h1, (addD_grown N Qs f.1).trans h2, fun v hv g hg hgl => ?_⟩
   rcases List.mem_cons.1 hg with rfl | hg
   ·exact (addD_has h hv hgl he0).grown h2
   ·exact h3 v hv g hg hgl
end Go.Proofs.YtmepdkdeanbbaaaGreat
namespace Go.Proofs.YtmepdkdeanbbaaaGreat
set_option maxRecDepth 100000

def levN (D : List PDim) : List Nat := D.map fun d => d.2.length
abbrev oneF (f : Fct) : PC := oneC f.2
theorem corner_lev : ∀ {D : List PDim} {v : List Int}, cornerP D v → LevD (levN D) v
 | [], [], _ => trivial
 | [], _ :: _, h => by have := h.1; simp at this
 | _ :: _, [], h => by have := h.1; simp at this
 | d :: D, x :: v, h => by
  have h0 := h.2 0 (by simp)
  simp at h0
  refine ⟨h0.1, h0.2, corner_lev ⟨by have := h.1; simpa using this, fun i hi => ?_⟩⟩
  have h1 := h.2 (i + 1) (by simpa using hi)
  simpa using h1
theorem views_lev {D : List PDim} {M : List Txt} {V : List (List Int)} (h : mayS D M V) : ∀ v ∈ viewsP D V, LevD (levN D) v := fun v hv => by
 rcases List.mem_cons.1 hv with rfl | hv
 ·exact corner_lev (base_corner D)
 ·exact corner_lev (h.2.2.2.1 v hv)
theorem fit_val {D : List PDim} {m : Nat} {f : Fct} (h : fitF D m f) : isVal m f.2 := ⟨by have := h.2.2.1; omega, h.1.2.2.2⟩
theorem fit_cell {D : List PDim} {m : Nat} (hm : m ≤ 2) {f : Fct} (h : fitF D m f) : isCell m (oneF f) := oneC_cell hm (fit_val h)
theorem fit_lev {D : List PDim} {m : Nat} {f : Fct} (h : fitF D m f) : f.1.map List.length = levN D := by
 refine List.ext_getElem (by simp [levN, h.2.1]) fun i h1 h2 => ?_
 have hi : i < D.length := by simpa [levN] using h2
 have hj : i < f.1.length := by simpa using h1
 have h3 := h.2.2.2 i hi
 rw [List.getD_eq_getElem?_getD, List.getD_eq_getElem?_getD, List.getElem?_eq_getElem hi, List.getElem?_eq_getElem hj] at h3
 simpa [levN] using h3
abbrev Hld := PKey × PC
def entF (f : Fct) : Hld := (f.1, oneC f.2)
abbrev cellE (e : Hld) : PC := e.2
def cntE (E : List Hld) : Int := sumI (E.map fun e => e.2.1)
theorem cntE_app (E G : List Hld) : cntE (E ++ G) = cntE E + cntE G := by
 unfold cntE
 rw [List.map_append, sumI_app]
theorem cntE_facts : ∀ G : List Fct, cntE (G.map entF) = G.length
 | [] => rfl
 | f :: G => by
  have h := cntE_app [entF f] (G.map entF)
  rw [cntE_facts G] at h
  rw [List.map_cons, show entF f :: G.map entF = [entF f] ++ G.map entF from rfl, h]
  simp [cntE, entF, oneC, sumI]
  omega
structure LatOk (D : List PDim) (M : List Txt) (V : List (List Int)) (E : List Hld) (Qs : List (List Pth)) : Prop where
 may : mayS D M V
 good : GoodD (levN D) Qs
 cell : ∀ e ∈ E, isCell M.length e.2
 lev : ∀ e ∈ E, e.1.map List.length = levN D
 has : ∀ v ∈ viewsP D V, ∀ e ∈ E, HasPth Qs v e.1
 ok : ∀ v ∈ viewsP D V, okF M.length (kP v) cellE E
 cnt : cntE E ≤ 1099511627776
theorem goodD_none : ∀ {D : List PDim}, (∀ d ∈ D, apartP d.2 3) → GoodD (levN D) (D.map fun _ => [])
 | [], _ => trivial
 | d :: D, h => ⟨good_nil ⟨(h d (by simp)).1, (h d (by simp)).2.1⟩, goodD_none fun e he => h e (List.mem_cons_of_mem _ he)⟩
theorem LatOk.begin {D : List PDim} {M : List Txt} {V : List (List Int)} (h : mayS D M V) : LatOk D M V [] (D.map fun _ => []) :=
 ⟨h, goodD_none h.1.1, fun f hf => by simp at hf, fun f hf => by simp at hf, fun _ _ f hf => by simp at hf, fun _ _ f hf => by simp at hf, by decide⟩
def applyP (D : List PDim) (M : List Txt) (V : List (List Int)) (E : List Hld) (Qs : List (List Pth)) (G : List Fct) : (List Hld × List (List Pth)) × Nat :=
 if mayBt D M V G ≠ 0 then ((E, Qs), mayBt D M V G)
 else if (addsD (levN D) Qs G).2 ≠ 0 then ((E, Qs), (addsD (levN D) Qs G).2)
 else if ∃ v ∈ viewsP D V, ∃ e ∈ E ++ G.map entF, ¬ cMay (sumC M.length (cellsV (kP v) cellE (E ++ G.map entF) (kP v e))) then ((E, Qs), 14)
 else if cntE E + G.length > 1099511627776 then ((E, Qs), 14)
 else ((E ++ G.map entF, (addsD (levN D) Qs G).1), 0)
section
variable {D : List PDim} {M : List Txt} {V : List (List Int)} {E : List Hld} {G : List Fct} {Qs : List (List Pth)}
theorem applyP_may (h : mayBt D M V G ≠ 0) : applyP D M V E Qs G = ((E, Qs), mayBt D M V G) := if_pos h
theorem applyP_dict (h : mayBt D M V G = 0) (h2 : (addsD (levN D) Qs G).2 ≠ 0) : applyP D M V E Qs G = ((E, Qs), (addsD (levN D) Qs G).2) := by
 unfold applyP
 rw [if_neg (fun h' => h' h), if_pos h2]
theorem not_ok {m : Nat} {κ : Hld → PKey} {c : Hld → PC} {E : List Hld} : ¬ okF m κ c E ↔ ∃ f ∈ E, ¬ cMay (sumC m (cellsV κ c E (κ f))) := by
 constructor
 ·intro h
  exact Classical.byContradiction fun hn => h fun f hf => Classical.byContradiction fun hc => hn ⟨f, hf, hc⟩
 ·rintro ⟨f, hf, hc⟩ h
  exact hc (h f hf)
theorem applyP_far (h : mayBt D M V G = 0) (h2 : (addsD (levN D) Qs G).2 = 0) {v : List Int} (hv : v ∈ viewsP D V) (h3 : ¬ okF M.length (kP v) cellE (E ++ G.map entF)) : applyP D M V E Qs G = ((E, Qs), 14) := by
 unfold applyP
 rw [if_neg (fun h' => h' h), if_neg (fun h' => h' h2), if_pos ⟨v, hv, not_ok.1 h3⟩]
theorem applyP_many (h : mayBt D M V G = 0) (h2 : (addsD (levN D) Qs G).2 = 0) (h3 : cntE E + G.length > 1099511627776) : applyP D M V E Qs G = ((E, Qs), 14) := by
 unfold applyP
 rw [if_neg (fun h' => h' h), if_neg (fun h' => h' h2)]
 split
 ·rfl
 ·first | rfl | (rw [if_pos h3])
theorem applyP_ok (h : mayBt D M V G = 0) (h2 : (addsD (levN D) Qs G).2 = 0) (h3 : ∀ v ∈ viewsP D V, okF M.length (kP v) cellE (E ++ G.map entF)) (h4 : cntE E + G.length ≤ 1099511627776) : applyP D M V E Qs G = ((E ++ G.map entF, (addsD (levN D) Qs G).1), 0) := by
 unfold applyP
 rw [if_neg (fun h' => h' h), if_neg (fun h' => h' h2), if_neg, if_neg (by omega)]
 rintro ⟨v, hv, hf⟩
 exact not_ok.2 hf (h3 v hv)
theorem mayBt_fit (h : mayBt D M V G = 0) : ∀ f ∈ G, fitF D M.length f := by
 unfold mayBt at h
 split at h
 ·exact (missP_is.1 h).2.2
 ·cases h
theorem LatOk.apply (h : LatOk D M V E Qs) (G : List Fct) : LatOk D M V (applyP D M V E Qs G).1.1 (applyP D M V E Qs G).1.2 := by
 by_cases h1 : mayBt D M V G = 0
 ·by_cases h2 : (addsD (levN D) Qs G).2 = 0
  ·by_cases h3 : ∀ v ∈ viewsP D V, okF M.length (kP v) cellE (E ++ G.map entF)
   ·by_cases h4 : cntE E + G.length ≤ 1099511627776
    ·rw [applyP_ok h1 h2 h3 h4]
     have hfit := mayBt_fit h1
     have hm : M.length ≤ 2 := h.may.2.1.2.1
     obtain ⟨g1, g2, g3⟩ := addsD_all (N := levN D) (F := G) (Qs := Qs) (Rs := (addsD (levN D) Qs G).1) h.good (Prod.ext rfl h2)
     refine ⟨h.may, g1, fun e he => ?_, fun e he => ?_, fun v hv e he => ?_, h3, ?_⟩
     ·rcases List.mem_append.1 he with he | he
      ·exact h.cell e he
      ·obtain ⟨f, hf, rfl⟩ := List.mem_map.1 he
       exact fit_cell hm (hfit f hf)
     ·rcases List.mem_append.1 he with he | he
      ·exact h.lev e he
      ·obtain ⟨f, hf, rfl⟩ := List.mem_map.1 he
       exact fit_lev (hfit f hf)
     ·rcases List.mem_append.1 he with he | he
      ·exact (h.has v hv e he).grown g2
      ·obtain ⟨f, hf, rfl⟩ := List.mem_map.1 he
       exact g3 v (views_lev h.may v hv) f hf (by rw [(hfit f hf).2.1]; simp [levN])
     ·rw [cntE_app, cntE_facts]
      exact h4
    ·rw [applyP_many h1 h2 (by omega)]
     exact h
   ·obtain ⟨v, hv, hb⟩ : ∃ v ∈ viewsP D V, ¬ okF M.length (kP v) cellE (E ++ G.map entF) := Classical.byContradiction fun hn => h3 fun v hv => Classical.byContradiction fun hc => hn ⟨v, hv, hc⟩
    rw [applyP_far h1 h2 hv hb]
    exact h
  ·rw [applyP_dict h1 h2]
   exact h
 ·rw [applyP_may h1]
  exact h
end
end Go.Proofs.YtmepdkdeanbbaaaGreat
