/- WireRd, GrownOf, WireS, CubW -/
import Derived.Test.YteifhgcjmjihgaaJ2
import Derived.Test.YteifhgcjmjihgaaJ14
import Derived.BigQuiet
import Derived.Deep.QuietTactic
import Derived.Outline
namespace Go.Proofs.Yteifhgcjmjihgaa
set_option maxRecDepth 100000
open Go.RowKit

/-- Block g is a reader (of type T) of the bytes l, at a place, with an error. -/
structure Rd (T : TypeId) (w : World) (g : Nat) (A : Option Addr) (n c : Nat) (l : List UInt8) (p e : Nat) : Prop where
  block : Block w g T #[.slice A n c, .int .i64 (p : Int), .int .i64 (e : Int)]
  has : HasB w g A n c l
  at_le : p ≤ n
  err_le : e ≤ 3

section
variable {T : TypeId} {w w' : World} {g : Nat} {A : Option Addr} {n c : Nat} {l : List UInt8} {p e : Nat}
theorem Rd.c0 (h : Rd T w g A n c l p e) : w.cell? ⟨g, 0, none⟩ = some (.slice A n c) := h.block.cell 0
theorem Rd.c1 (h : Rd T w g A n c l p e) : w.cell? ⟨g, 1, none⟩ = some (.int .i64 (p : Int)) := h.block.cell 1
theorem Rd.c2 (h : Rd T w g A n c l p e) : w.cell? ⟨g, 2, none⟩ = some (.int .i64 (e : Int)) := h.block.cell 2
theorem Rd.free (h : Rd T w g A n c l p e) (i : Nat) : w.frozen? ⟨g, i, none⟩ = false := h.block.free i
theorem Rd.lt (h : Rd T w g A n c l p e) : g < w.heap.size := h.block.lt
theorem Rd.drewN (h : Rd T w g A n c l p e) (k : Nat) : Rd T (w.drewN k) g A n c l p e := ⟨h.block.drewN k, h.has.drewN k, h.at_le, h.err_le⟩
theorem Rd.grown {row : Option Nat} (h : Rd T w g A n c l p e) (hg : w.grownBy w' row) (hr : ∀ k, row = some k → g < k) : Rd T w' g A n c l p e :=
  ⟨h.block.grown hg (fun e => by have := hr _ e; omega), h.has.grown hg (Nat.le_of_lt h.lt) (fun k hk => Nat.le_of_lt (hr k hk)), h.at_le, h.err_le⟩
theorem HasB.setAbove {B i : Nat} {u : Value} (h : HasB w B A n c l) (hg : B ≤ g) : HasB (w.setCell ⟨g, i, none⟩ u) B A n c l :=
  h.keep fun b o hb => by
    apply World.cell?_of_block
    simp [World.setCell, Array.getElem?_modify]
    intro e; omega
theorem Rd.setE (h : Rd T w g A n c l p e) (e' : Nat) (he : e' ≤ 3) : Rd T (w.setCell ⟨g, 2, none⟩ (.int .i64 (e' : Int))) g A n c l p e' :=
  ⟨h.block.set_ 2 _, h.has.setAbove (Nat.le_refl _), h.at_le, he⟩
theorem Rd.setP (h : Rd T w g A n c l p e) (p' : Nat) (hp : p' ≤ n) : Rd T (w.setCell ⟨g, 1, none⟩ (.int .i64 (p' : Int))) g A n c l p' e :=
  ⟨h.block.set_ 1 _, h.has.setAbove (Nat.le_refl _), hp, h.err_le⟩
theorem grown_set (w : World) (g i : Nat) (u : Value) : w.grownBy (w.setCell ⟨g, i, none⟩ u) (some g) :=
  ⟨rfl, rfl, rfl, by simp [World.setCell], fun k _ hk => by
    simp [World.setCell, Array.getElem?_modify]
    intro e; exact absurd (congrArg some e.symm) hk⟩
theorem grown_drewN {row : Option Nat} {a b : World} (h : a.grownBy b row) (k : Nat) : a.grownBy (b.drewN k) row := ⟨h.os, h.tape, h.output, h.size, h.block⟩
end

/-- What is looked at: the number, its bytes, the error. -/
def lk (l : List UInt8) (p e : Nat) (lo hi : Int) : Int × Nat × Nat :=
  if e ≠ 0 then (0, 0, e) else if gE (l.drop p) ≠ 0 then (0, 0, gE (l.drop p)) else if gN (l.drop p) < lo ∨ hi < gN (l.drop p) then (0, 0, 2) else (gN (l.drop p), gK (l.drop p), 0)
theorem lk_err {l : List UInt8} {p e : Nat} {lo hi : Int} (h : e ≠ 0) : lk l p e lo hi = (0, 0, e) := if_pos h
theorem lk_none {l : List UInt8} {p : Nat} {lo hi : Int} (h : gE (l.drop p) ≠ 0) : lk l p 0 lo hi = (0, 0, gE (l.drop p)) := by
  unfold lk; rw [if_neg (by simp), if_pos h]
theorem lk_far {l : List UInt8} {p : Nat} {lo hi : Int} (h : gE (l.drop p) = 0) (h' : gN (l.drop p) < lo ∨ hi < gN (l.drop p)) : lk l p 0 lo hi = (0, 0, 2) := by
  unfold lk; rw [if_neg (by simp), if_neg (by simpa using h), if_pos h']
theorem lk_ok {l : List UInt8} {p : Nat} {lo hi : Int} (h : gE (l.drop p) = 0) (h' : ¬ (gN (l.drop p) < lo ∨ hi < gN (l.drop p))) : lk l p 0 lo hi = (gN (l.drop p), gK (l.drop p), 0) := by
  unfold lk; rw [if_neg (by simp), if_neg (by simpa using h), if_neg h']
theorem lk_e (l : List UInt8) (p e : Nat) (lo hi : Int) (he : e ≤ 3) : (lk l p e lo hi).2.2 ≤ 3 := by
  unfold lk
  split
  · exact he
  · split
    · exact gE_le _
    · split <;> simp
theorem lk_k (l : List UInt8) (p e : Nat) (lo hi : Int) : (lk l p e lo hi).2.1 ≤ l.length - p := by
  have := (gK_le (l.drop p)).1
  rw [List.length_drop] at this
  unfold lk
  split
  · simp
  · split
    · simp
    · split
      · simp
      · exact this
theorem lk_n (l : List UInt8) (p e : Nat) (lo hi : Int) : -9223372036854775808 ≤ (lk l p e lo hi).1 ∧ (lk l p e lo hi).1 ≤ 9223372036854775807 := by
  have := gN_bd (l.drop p)
  unfold lk
  split
  · simp
  · split
    · simp
    · split
      · simp
      · exact this


def LookPost (T : TypeId) (w : World) (g : Nat) (A : Option Addr) (n c : Nat) (l : List UInt8) (p : Nat) (r : Int × Nat × Nat) (x : Ending) (w' : World) : Prop :=
  x = .returned (.tuple #[.int .i64 r.1, .int .i64 (r.2.1 : Nat)]) ∧ Rd T w' g A n c l p r.2.2 ∧ w.grownBy w' (some g)
theorem at_two {r : Int × Nat × Nat} {m : Int} {k e : Nat} (h : r = (m, k, e)) : Ending.returned (.tuple #[.int .i64 m, .int .i64 (k : Nat)]) = .returned (.tuple #[.int .i64 r.1, .int .i64 (r.2.1 : Nat)]) := by rw [h]
/-- End. -/
def endE (n p e : Nat) : Nat := if e ≠ 0 then e else if p < n then 2 else 0
/-- A text: its bytes, the place behind it, the error. -/
def tx (l : List UInt8) (p e : Nat) (hi : Int) : List UInt8 × Nat × Nat :=
  let r := lk l p e 0 hi
  if r.2.2 ≠ 0 then ([], p, r.2.2) else if r.1.toNat ≤ l.length - p - r.2.1 then ((l.drop (p + r.2.1)).take r.1.toNat, p + r.2.1 + r.1.toNat, 0) else ([], p, 3)
theorem tx_err {l : List UInt8} {p e k e' : Nat} {hi m : Int} (h : lk l p e 0 hi = (m, k, e')) (he : e' ≠ 0) : tx l p e hi = ([], p, e') := by
  unfold tx; rw [h]; exact if_pos he
theorem tx_short {l : List UInt8} {p e k : Nat} {hi m : Int} (h : lk l p e 0 hi = (m, k, 0)) (hm : ¬ m.toNat ≤ l.length - p - k) : tx l p e hi = ([], p, 3) := by
  unfold tx; rw [h]; simp [hm]
theorem tx_ok {l : List UInt8} {p e k : Nat} {hi m : Int} (h : lk l p e 0 hi = (m, k, 0)) (hm : m.toNat ≤ l.length - p - k) : tx l p e hi = ((l.drop (p + k)).take m.toNat, p + k + m.toNat, 0) := by
  unfold tx; rw [h]; simp [hm]
theorem lk_pos (l : List UInt8) (p e : Nat) (hi : Int) : 0 ≤ (lk l p e 0 hi).1 := by
  unfold lk
  split
  · simp
  · split
    · simp
    · split
      · simp
      · show 0 ≤ gN _
        omega
def TextPost (T : TypeId) (w : World) (g : Nat) (A : Option Addr) (n c : Nat) (l : List UInt8) (r : List UInt8 × Nat × Nat) (x : Ending) (w' : World) : Prop :=
  x = .returned (.string ⟨r.1.toArray⟩) ∧ Rd T w' g A n c l r.2.1 r.2.2 ∧ w.grownBy w' (some g)
end Go.Proofs.Yteifhgcjmjihgaa
namespace Go.Proofs.Yteifhgcjmjihgaa
set_option maxRecDepth 100000
open Go.RowKit

theorem grown_of {w a : World} (hb : Below w.heap.size w a) (r : Option Nat) : w.grownBy a r := ⟨hb.os, hb.tape, hb.output, hb.size, fun k hk _ => hb.block k hk⟩
theorem below_grown {w a c : World} {b : Nat} (hb : Below w.heap.size w a) (hg : a.grownBy c (some b)) : w.grownBy c (some b) := grownBy_trans (grown_of hb _) hg fun _ h => .inl h
end Go.Proofs.Yteifhgcjmjihgaa
namespace Go.Proofs.Yteifhgcjmjihgaa
set_option maxRecDepth 100000

def encT (t : List UInt8) : List UInt8 := enc (zig (t.length : Int)) ++ t
def encI (x : Int) : List UInt8 := enc (zig x)
theorem encI_len {x : Int} (h : -9223372036854775808 ≤ x) (h' : x ≤ 9223372036854775807) : (encI x).length ≤ 10 := enc_ten (zig_lt h h')
theorem flat_len {α : Type} {f : α → List UInt8} {l : List α} {m : Nat} (h : ∀ x ∈ l, (f x).length ≤ m) : (l.flatMap f).length ≤ m * l.length := by
  induction l with
  | nil => simp
  | cons x r ih =>
    have h1 := h x (by simp)
    have h2 := ih fun y hy => h y (List.mem_cons_of_mem _ hy)
    rw [List.flatMap_cons, List.length_append, List.length_cons, Nat.mul_succ]
    omega
theorem flat_snoc {α : Type} {f : α → List UInt8} {l : List α} {k : Nat} {x : α} (h : l[k]? = some x) : (l.take (k + 1)).flatMap f = (l.take k).flatMap f ++ f x := by
  rw [List.take_add_one, h]
  simp
/-- A thing that is read: what, the place behind it, the error. -/
abbrev RdT (α : Type) := List UInt8 → Nat → Nat → α × Nat × Nat
def sevN {α : Type} (rd : RdT α) (l : List UInt8) (p e : Nat) : Nat → List α × Nat × Nat
  | 0 => ([], p, e)
  | k + 1 => ((sevN rd l p e k).1 ++ [(rd l (sevN rd l p e k).2.1 (sevN rd l p e k).2.2).1], (rd l (sevN rd l p e k).2.1 (sevN rd l p e k).2.2).2.1, (rd l (sevN rd l p e k).2.1 (sevN rd l p e k).2.2).2.2)
def sevA {α : Type} (rd : RdT α) (most : Nat) (l : List UInt8) (p e : Nat) : List α × Nat × Nat := sevN rd l (p + (lk l p e 0 most).2.1) (lk l p e 0 most).2.2 (lk l p e 0 most).1.toNat
theorem sevN_len {α : Type} {rd : RdT α} {l : List UInt8} {p e : Nat} : ∀ k, (sevN rd l p e k).1.length = k
  | 0 => rfl
  | k + 1 => by
    show ((sevN rd l p e k).1 ++ [_]).length = _
    rw [List.length_append, sevN_len k]; rfl
theorem sevN_step {α : Type} {rd : RdT α} {l : List UInt8} {p e k : Nat} {X : List α} {p1 e1 p2 e2 : Nat} {x : α} (h : sevN rd l p e k = (X, p1, e1)) (h2 : rd l p1 e1 = (x, p2, e2)) : sevN rd l p e (k + 1) = (X ++ [x], p2, e2) := by
  unfold sevN
  rw [h, h2]
theorem sevA_is {α : Type} {rd : RdT α} {most : Nat} {l : List UInt8} {p e a k1 e1 : Nat} (h : lk l p e 0 most = ((a : Int), k1, e1)) : sevA rd most l p e = sevN rd l (p + k1) e1 a := by
  unfold sevA
  rw [h, Int.toNat_natCast]
theorem lkN_le (l : List UInt8) (p e : Nat) {hi : Int} (h : 0 ≤ hi) : (lk l p e 0 hi).1 ≤ hi := by
  unfold lk
  split
  · exact h
  · split
    · exact h
    · split
      · exact h
      · show gN _ ≤ hi
        omega
theorem lkN_nat (l : List UInt8) (p e : Nat) {hi : Nat} : ∃ (a k1 e1 : Nat), lk l p e 0 (hi : Int) = ((a : Int), k1, e1) ∧ a ≤ hi := by
  have h1 := lk_pos l p e hi
  have h2 := lkN_le l p e (hi := (hi : Int)) (by omega)
  exact ⟨(lk l p e 0 hi).1.toNat, (lk l p e 0 hi).2.1, (lk l p e 0 hi).2.2, Prod.ext (by simp; omega) rfl, by omega⟩
theorem lkP {F R : List UInt8} {x lo hi : Int} (h1 : -9223372036854775808 ≤ x) (h2 : x ≤ 9223372036854775807) (hl : lo ≤ x) (hh : x ≤ hi) : lk (F ++ (encI x ++ R)) F.length 0 lo hi = (x, (encI x).length, 0) := by
  have hd : (F ++ (encI x ++ R)).drop F.length = enc (zig x) ++ R := List.drop_left
  obtain ⟨g1, g2, g3⟩ := g_put h1 h2 R
  rw [lk_ok (by rw [hd]; exact g3) (by rw [hd, g1]; omega), hd, g1, g2]
  rfl
/-- rd reads back what en puts. -/
def Back {α : Type} (rd : RdT α) (en : α → List UInt8) (x : α) : Prop := ∀ F R, rd (F ++ (en x ++ R)) F.length 0 = (x, F.length + (en x).length, 0)
theorem takeW_snoc {α : Type} {L : List α} {k : Nat} {x : α} (h : L[k]? = some x) : L.take k ++ [x] = L.take (k + 1) := by
  rw [List.take_add_one, h]; rfl
theorem sevN_back {α : Type} {rd : RdT α} {en : α → List UInt8} {L : List α} (h : ∀ x ∈ L, Back rd en x) (F R : List UInt8) : ∀ k, k ≤ L.length → sevN rd (F ++ (L.flatMap en ++ R)) F.length 0 k = (L.take k, F.length + ((L.take k).flatMap en).length, 0) := by
  intro k
  induction k with
  | zero => intro _; simp [sevN]
  | succ k ih =>
    intro hk
    have hx : L[k]? = some (L[k]'(by omega)) := List.getElem?_eq_getElem (by omega)
    generalize L[k]'(by omega) = x at hx
    have hB := h x (List.mem_of_getElem? hx)
    have e : F ++ (L.flatMap en ++ R) = (F ++ (L.take k).flatMap en) ++ (en x ++ ((L.drop (k + 1)).flatMap en ++ R)) := by
      have h1 : L.flatMap en = (L.take (k + 1)).flatMap en ++ (L.drop (k + 1)).flatMap en := by rw [← List.flatMap_append, List.take_append_drop]
      rw [h1, flat_snoc hx]
      simp only [List.append_assoc]
    have h2 := hB (F ++ (L.take k).flatMap en) ((L.drop (k + 1)).flatMap en ++ R)
    rw [← e, List.length_append] at h2
    rw [sevN_step (ih (by omega)) h2, takeW_snoc hx, flat_snoc hx, List.length_append]
    simp only [Prod.mk.injEq, true_and, and_true]
    omega
theorem sevA_back {α : Type} {rd : RdT α} {en : α → List UInt8} {L : List α} {most : Nat} (h : ∀ x ∈ L, Back rd en x) (hm : L.length ≤ most) (hm2 : most ≤ 100) (F R : List UInt8) :
    sevA rd most (F ++ (encI (L.length : Int) ++ (L.flatMap en ++ R))) F.length 0 = (L, F.length + (encI (L.length : Int) ++ L.flatMap en).length, 0) := by
  have h1 := lkP (F := F) (R := L.flatMap en ++ R) (x := (L.length : Int)) (lo := 0) (hi := (most : Int)) (by omega) (by omega) (by omega) (by omega)
  rw [sevA_is h1]
  have e : F ++ (encI (L.length : Int) ++ (L.flatMap en ++ R)) = (F ++ encI (L.length : Int)) ++ (L.flatMap en ++ R) := by rw [List.append_assoc]
  have h2 := sevN_back h (F ++ encI (L.length : Int)) R L.length (Nat.le_refl _)
  rw [List.take_of_length_le (Nat.le_refl _), List.length_append] at h2
  rw [e, h2, List.length_append]
  simp only [Prod.mk.injEq, true_and, and_true]
  omega
end Go.Proofs.Yteifhgcjmjihgaa
namespace Go.Proofs.Yteifhgcjmjihgaa
set_option maxRecDepth 100000

/-- One number, from lo to hi. -/
def rdI (lo hi : Int) : RdT Int := fun l p e => ((lk l p e lo hi).1, p + (lk l p e lo hi).2.1, (lk l p e lo hi).2.2)
theorem rdI_is {lo hi : Int} {l : List UInt8} {p e k e' : Nat} {x : Int} (h : lk l p e lo hi = (x, k, e')) : rdI lo hi l p e = (x, p + k, e') := by unfold rdI; rw [h]
theorem rdI_back {lo hi x : Int} (h1 : -9223372036854775808 ≤ x) (h2 : x ≤ 9223372036854775807) (hl : lo ≤ x) (hh : x ≤ hi) : Back (rdI lo hi) encI x := fun F R => rdI_is (lkP (F := F) (R := R) h1 h2 hl hh)
/-- One thing, and another one behind it. -/
def rdTwo {α β : Type} (a : RdT α) (b : RdT β) : RdT (α × β) := fun l p e => (((a l p e).1, (b l (a l p e).2.1 (a l p e).2.2).1), (b l (a l p e).2.1 (a l p e).2.2).2)
theorem rdTwo_is {α β : Type} {a : RdT α} {b : RdT β} {l : List UInt8} {p e p1 e1 p2 e2 : Nat} {x : α} {y : β} (h : a l p e = (x, p1, e1)) (h2 : b l p1 e1 = (y, p2, e2)) : rdTwo a b l p e = ((x, y), p2, e2) := by
  unfold rdTwo
  rw [h]
  simp only [h2]
theorem rdTwo_back {α β : Type} {a : RdT α} {b : RdT β} {ea : α → List UInt8} {eb : β → List UInt8} {x : α} {y : β} (ha : Back a ea x) (hb : Back b eb y) : Back (rdTwo a b) (fun z => ea z.1 ++ eb z.2) (x, y) := fun F R => by
  have h1 := ha F (eb y ++ R)
  have h2 := hb (F ++ ea x) R
  rw [List.append_assoc, List.length_append] at h2
  have e : F ++ ((fun z : α × β => ea z.1 ++ eb z.2) (x, y) ++ R) = F ++ (ea x ++ (eb y ++ R)) := by
    show F ++ ((ea x ++ eb y) ++ R) = _
    rw [List.append_assoc]
  rw [e, rdTwo_is h1 h2]
  show _ = ((x, y), F.length + (ea x ++ eb y).length, 0)
  rw [List.length_append, Nat.add_assoc]
/-- So many, one behind the other. -/
theorem sevN_just {α : Type} {rd : RdT α} {en : α → List UInt8} {L : List α} (h : ∀ x ∈ L, Back rd en x) (F R : List UInt8) : sevN rd (F ++ (L.flatMap en ++ R)) F.length 0 L.length = (L, F.length + (L.flatMap en).length, 0) := by
  have h1 := sevN_back h F R L.length (Nat.le_refl _)
  rwa [List.take_of_length_le (Nat.le_refl _)] at h1
def rdKey (w : Nat) : RdT (List Int) := fun l p e => sevN (rdI 0 40) l p e w
/-- A measure's three numbers. -/
def rdMeas : RdT (Int × Int × Int) := rdTwo (rdI (-4611686018427387904) 4611686018427387904) (rdTwo (rdI (-2305843009213693952) 2305843009213693952) (rdI (-2305843009213693952) 2305843009213693952))
def encMeas (t : Int × Int × Int) : List UInt8 := encI t.1 ++ (encI t.2.1 ++ encI t.2.2)
def toC (z : Int × List (Int × Int × Int)) : PC := (z.1, z.2.map (·.1), z.2.map (·.2.1), z.2.map (·.2.2))
def ofC (m : Nat) (x : PC) : Int × List (Int × Int × Int) := (x.1, (List.range m).map fun k => (x.2.1.getD k 0, x.2.2.1.getD k 0, x.2.2.2.getD k 0))
theorem toC_ofC {m : Nat} {x : PC} (h : Full m x) : toC (ofC m x) = x := by
  obtain ⟨_, _, h1, h2, h3⟩ := h
  unfold toC ofC
  simp only [List.map_map]
  refine Prod.ext rfl (Prod.ext ?_ (Prod.ext ?_ ?_))
  · exact list_eq_getD (m := m) (by simp) h1 fun k hk => by simp [List.getD_eq_getElem?_getD, hk]
  · exact list_eq_getD (m := m) (by simp) h2 fun k hk => by simp [List.getD_eq_getElem?_getD, hk]
  · exact list_eq_getD (m := m) (by simp) h3 fun k hk => by simp [List.getD_eq_getElem?_getD, hk]
def rdRaw (w m : Nat) : RdT (List Int × Int × List (Int × Int × Int)) := rdTwo (rdKey w) (rdTwo (rdI 1 1099511627776) fun l p e => sevN rdMeas l p e m)
def encRaw (z : List Int × Int × List (Int × Int × Int)) : List UInt8 := z.1.flatMap encI ++ (encI z.2.1 ++ z.2.2.flatMap encMeas)
/-- A key and its cell. -/
def rdOne (w m : Nat) : RdT (List Int × PC) := fun l p e => (((rdRaw w m l p e).1.1, toC (rdRaw w m l p e).1.2), (rdRaw w m l p e).2)
def encOne (m : Nat) (d : List Int × PC) : List UInt8 := encRaw (d.1, ofC m d.2)
theorem isCell_bounds {m : Nat} {x : PC} (h : isCell m x) : 1 ≤ x.1 ∧ x.1 ≤ 1099511627776 ∧ ∀ k, k < m → inS (x.2.1.getD k 0) ∧ inV (x.2.2.1.getD k 0) ∧ inV (x.2.2.2.getD k 0) := by
  obtain ⟨⟨_, _, _, h4⟩, h5, h6⟩ := h
  rcases h4 with h4 | h4
  · exact absurd (by rw [h4]; rfl) h5
  · obtain ⟨a1, a2, a3⟩ := h4
    exact ⟨a1, a2, fun k hk => by
      obtain ⟨_, b1, b2, b3, _⟩ := a3 k (by rw [h6]; exact hk)
      exact ⟨b3, b1, b2⟩⟩
theorem rdOne_back {w m : Nat} {k : List Int} {x : PC} (hk : isKey w k) (hx : isCell m x) : Back (rdOne w m) (encOne m) (k, x) := fun F R => by
  obtain ⟨b1, b2, b3⟩ := isCell_bounds hx
  have hkey : Back (rdKey w) (fun k => k.flatMap encI) k := fun F R => by
    have := sevN_just (rd := rdI 0 40) (en := encI) (L := k) (fun c hc => rdI_back (by have := hk.2 c hc; omega) (by have := hk.2 c hc; omega) (hk.2 c hc).1 (hk.2 c hc).2) F R
    rw [hk.1] at this
    exact this
  have hmeas : ∀ t ∈ (ofC m x).2, Back rdMeas encMeas t := fun t ht => by
    obtain ⟨i, hi, rfl⟩ := List.mem_map.1 ht
    obtain ⟨c1, c2, c3⟩ := b3 i (List.mem_range.1 hi)
    unfold inS at c1
    unfold inV at c2 c3
    exact rdTwo_back (ea := encI) (eb := fun z : Int × Int => encI z.1 ++ encI z.2) (rdI_back (by omega) (by omega) c1.1 c1.2) (rdTwo_back (ea := encI) (eb := encI) (rdI_back (by omega) (by omega) c2.1 c2.2) (rdI_back (by omega) (by omega) c3.1 c3.2))
  have hml : (ofC m x).2.length = m := by simp [ofC]
  have hms : Back (fun l p e => sevN rdMeas l p e m) (fun L => L.flatMap encMeas) (ofC m x).2 := fun F R => by
    have := sevN_just hmeas F R
    rw [hml] at this
    exact this
  have hraw : Back (rdRaw w m) encRaw (k, ofC m x) := rdTwo_back (ea := fun k : List Int => k.flatMap encI) (eb := fun z : Int × List (Int × Int × Int) => encI z.1 ++ z.2.flatMap encMeas) hkey (rdTwo_back (ea := encI) (eb := fun L : List (Int × Int × Int) => L.flatMap encMeas) (x := x.1) (rdI_back (by omega) (by omega) b1 b2) hms)
  have h1 := hraw F R
  unfold rdOne
  show ((((rdRaw w m (F ++ (encRaw (k, ofC m x) ++ R)) F.length 0).1.1, toC (rdRaw w m (F ++ (encRaw (k, ofC m x) ++ R)) F.length 0).1.2), (rdRaw w m (F ++ (encRaw (k, ofC m x) ++ R)) F.length 0).2)) = _
  rw [h1]
  simp only [toC_ofC hx.full]
  rfl
/-- A cuboid's bytes. -/
def encC (m : Nat) (C : Cub) : List UInt8 := encI (C.length : Int) ++ C.flatMap (encOne m)
/-- So many more are read behind those that are there. -/
def rdMore (w m : Nat) (l : List UInt8) : Nat → Cub → Nat → Nat → Option Cub × Nat × Nat
  | 0, C, p, e => (if e = 0 then some C else none, p, e)
  | n + 1, C, p, e =>
    if (rdOne w m l p e).2.2 ≠ 0 then (none, (rdOne w m l p e).2.1, (rdOne w m l p e).2.2)
    else if cMay (rdOne w m l p e).1.2 ∧ (C = [] ∨ lessK (C.getLastD ([], zeroC)).1 (rdOne w m l p e).1.1 = true) then rdMore w m l n (C ++ [(rdOne w m l p e).1]) (rdOne w m l p e).2.1 (rdOne w m l p e).2.2
    else (none, (rdOne w m l p e).2.1, 2)
/-- The whole. -/
def rdC (w m : Nat) (l : List UInt8) (p e : Nat) : Option Cub × Nat × Nat := rdMore w m l (lk l p e 0 64000).1.toNat [] (p + (lk l p e 0 64000).2.1) (lk l p e 0 64000).2.2
theorem rdMore_back {w m : Nat} (R : List UInt8) : ∀ (E A : Cub) (F : List UInt8), Cuboid w m (A ++ E) → rdMore w m (F ++ (E.flatMap (encOne m) ++ R)) E.length A F.length 0 = (some (A ++ E), F.length + (E.flatMap (encOne m)).length, 0) := by
  intro E
  induction E with
  | nil =>
    intro A F _
    simp [rdMore]
  | cons d E ih =>
    intro A F h
    have hd : d ∈ A ++ d :: E := by simp
    have hB := rdOne_back (h.key d hd) (h.cell d hd) F (E.flatMap (encOne m) ++ R)
    have e : F ++ ((d :: E).flatMap (encOne m) ++ R) = F ++ (encOne m d ++ (E.flatMap (encOne m) ++ R)) := by
      rw [List.flatMap_cons, List.append_assoc]
    have hlast : A = [] ∨ lessK (A.getLastD ([], zeroC)).1 d.1 = true := by
      rcases List.eq_nil_or_concat A with hA | ⟨A', a, hA⟩
      · exact .inl hA
      · right
        subst hA
        have h1 : (A'.concat a).getLastD ([], zeroC) = a := by simp
        rw [h1]
        have h2 := List.pairwise_append.1 h.ris
        exact h2.2.2 a (by simp) d (by simp)
    have h' : Cuboid w m ((A ++ [d]) ++ E) := by rw [List.append_assoc]; exact h
    have hr := ih (A ++ [d]) (F ++ encOne m d) h'
    rw [List.append_assoc, List.length_append] at hr
    show rdMore w m _ (E.length + 1) A F.length 0 = _
    rw [rdMore, e, hB]
    simp only
    rw [if_neg (by simp), if_pos ⟨(h.cell d hd).1, hlast⟩, hr, List.flatMap_cons, List.length_append, List.append_assoc]
    simp only [Prod.mk.injEq, and_true]
    exact ⟨rfl, by omega⟩
/-- What is put is read again. -/
theorem rdC_put {w m : Nat} {C : Cub} (h : Cuboid w m C) (hn : C.length ≤ 64000) (R : List UInt8) : rdC w m (encC m C ++ R) 0 0 = (some C, (encC m C).length, 0) := by
  have h1 := lkP (F := []) (R := C.flatMap (encOne m) ++ R) (x := (C.length : Int)) (lo := 0) (hi := 64000) (by omega) (by omega) (by omega) (by omega)
  have e : encC m C ++ R = [] ++ (encI (C.length : Int) ++ (C.flatMap (encOne m) ++ R)) := by
    unfold encC
    rw [List.append_assoc, List.nil_append]
  have h2 := rdMore_back (w := w) (m := m) R C [] (encI (C.length : Int)) (by simpa using h)
  unfold rdC
  have e3 : lk (encC m C ++ R) 0 0 0 64000 = ((C.length : Int), (encI (C.length : Int)).length, 0) := by
    rw [e]
    exact h1
  rw [e3]
  simp only [Int.toNat_natCast, Nat.zero_add]
  rw [e, List.nil_append, h2]
  simp [encC]
end Go.Proofs.Yteifhgcjmjihgaa
