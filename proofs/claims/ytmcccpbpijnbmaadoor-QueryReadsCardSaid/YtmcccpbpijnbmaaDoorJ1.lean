/- Base, NamesM, Put3, RowNe, SchemaM, WideM, CellM, CellN, WireM, Ints, Clone, IntsB, IntsA, Bel -/
import Derived.Below
import Derived.BigQuiet
import Derived.Deep.Draws
import Derived.Deep.QuietTactic
import Derived.Laws.AppendOwnNone
import Derived.Laws.BitsAllLaws
import Derived.Laws.OwnMore
import Derived.Lib.Hide
import Derived.Lib.SliceRun
import Derived.Maps.AppendAt
import Derived.OwnWalk
import Derived.Shelf.Bytes.SlSmallAll
import Derived.Test.YtmcccpbpijnbmaaDoorRows
import Derived.WalkKit
namespace Go.Proofs.YtmcccpbpijnbmaaDoor
set_option maxRecDepth 100000
open Go.RowKit

def Has (w : World) (B : Nat) (A : Option Addr) (xs : List Value) : Prop :=
 0 < xs.length → ∃ b o, A = some ⟨b, o, none⟩ ∧ b < B ∧ ∀ j u, xs[j]? = some u → w.cell? ⟨b, o + j, none⟩ = some u

section
variable {w w' : World} {B B' : Nat} {A : Option Addr} {xs : List Value}
theorem Has.nil_ : Has w B A [] := fun h => absurd h (by simp)
theorem Has.keep (h : Has w B A xs) (hk : ∀ b o, b < B → w'.cell? ⟨b, o, none⟩ = w.cell? ⟨b, o, none⟩) : Has w' B A xs := fun hn => by
 obtain ⟨b, o, e, hb, hc⟩ := h hn
 exact ⟨b, o, e, hb, fun j u hu => (hk b _ hb).trans (hc j u hu)⟩
theorem Has.more (h : Has w B A xs) (hB : B ≤ B') : Has w B' A xs := fun hn => by
 obtain ⟨b, o, e, hb, hc⟩ := h hn
 exact ⟨b, o, e, Nat.lt_of_lt_of_le hb hB, hc⟩
theorem Has.below {C : Nat} (h : Has w B A xs) (hb : Below C w w') (hC : B ≤ C) : Has w' B A xs :=
 h.keep fun b o hp => hb.cell (p := ⟨b, o, none⟩) (Nat.lt_of_lt_of_le hp hC)
theorem Has.grown {row : Option Nat} (h : Has w B A xs) (hg : w.grownBy w' row) (hB : B ≤ w.heap.size) (hr : ∀ g, row = some g → B ≤ g) : Has w' B A xs :=
 h.keep fun b o hp => World.cell?_of_block (hg.block b (by omega) (fun e => by have := hr _ e.symm; omega))
theorem Has.take_ (h : Has w B A xs) (k : Nat) : Has w B A (xs.take k) := fun hn => by
 obtain ⟨b, o, e, hb, hc⟩ := h (by have := List.length_take_le k xs; have : (xs.take k).length ≤ xs.length := List.length_take_le' k xs; omega)
 refine ⟨b, o, e, hb, fun j u hu => hc j u ?_⟩
 rw [List.getElem?_take] at hu
 split at hu
 ·exact hu
 ·cases hu
theorem add_flat (b o j : Nat) : (⟨b, o, none⟩ : Addr).add j = ⟨b, o + j, none⟩ := by
 unfold Addr.add
 split
 ·simp [*]
 ·rfl
theorem Has.drop_ (h : Has w B A xs) (k : Nat) (hk : k < xs.length) : Has w B (A.map (·.add k)) (xs.drop k) := fun hn => by
 obtain ⟨b, o, rfl, hb, hc⟩ := h (by omega)
 refine ⟨b, o + k, by simp [add_flat], hb, fun j u hu => ?_⟩
 rw [Nat.add_assoc]
 exact hc _ u (by rw [← hu, List.getElem?_drop])
end

theorem below_drewN {B : Nat} {a w : World} (h : Below B a w) (k : Nat) : Below B a (w.drewN k) := ⟨h.os, h.tape, h.output, h.size, h.block⟩

def byt (u : UInt8) : Value := .int .u8 (u.toNat : Int)
theorem byt_one (l : List UInt8) : ∀ u ∈ l.map byt, u.oneCell' = true := by
 intro u hu
 obtain ⟨x, _, rfl⟩ := List.mem_map.1 hu
 rfl

structure HasB (w : World) (B : Nat) (A : Option Addr) (n c : Nat) (l : List UInt8) : Prop where
 len : l.length = n
 cap : n ≤ c
 fit : c ≤ maxLen
 void : A = none → c = 0
 has : Has w B A (l.map byt)

section
variable {w w' : World} {B B' n c : Nat} {A : Option Addr} {l : List UInt8}
theorem HasB.keep (h : HasB w B A n c l) (hk : ∀ b o, b < B → w'.cell? ⟨b, o, none⟩ = w.cell? ⟨b, o, none⟩) : HasB w' B A n c l := ⟨h.len, h.cap, h.fit, h.void, h.has.keep hk⟩
theorem HasB.more (h : HasB w B A n c l) (hB : B ≤ B') : HasB w B' A n c l := ⟨h.len, h.cap, h.fit, h.void, h.has.more hB⟩
theorem HasB.below {C : Nat} (h : HasB w B A n c l) (hb : Below C w w') (hC : B ≤ C) : HasB w' B A n c l := ⟨h.len, h.cap, h.fit, h.void, h.has.below hb hC⟩
theorem HasB.grown {row : Option Nat} (h : HasB w B A n c l) (hg : w.grownBy w' row) (hB : B ≤ w.heap.size) (hr : ∀ g, row = some g → B ≤ g) : HasB w' B A n c l := ⟨h.len, h.cap, h.fit, h.void, h.has.grown hg hB hr⟩
theorem HasB.drewN (h : HasB w B A n c l) (k : Nat) : HasB (w.drewN k) B A n c l := ⟨h.len, h.cap, h.fit, h.void, h.has⟩
theorem HasB.alloc (h : HasB w B A n c l) (hB : B ≤ w.heap.size) (o : Obj) : HasB (w.alloc o) B A n c l :=
 h.keep fun b k hp => World.cell?_alloc_lt w o ⟨b, k, none⟩ (by show b < _; omega)
theorem HasB.belowS (h : HasB w w.heap.size A n c l) (hb : Below w.heap.size w w') : HasB w' w'.heap.size A n c l := (h.below hb (Nat.le_refl _)).more hb.size
theorem HasB.lenMax (h : HasB w B A n c l) : n ≤ 9223372036854775807 := by
 have h1 := h.cap; have h2 := h.fit
 unfold maxLen at h2; omega
theorem HasB.capMax (h : HasB w B A n c l) : c ≤ 9223372036854775807 := by
 have h2 := h.fit
 unfold maxLen at h2; omega
theorem HasB.at_ (h : HasB w B A n c l) {k : Nat} (hk : k < n) :
  ∃ b o q, A = some ⟨b, o, none⟩ ∧ b < B ∧ w.cell? ⟨b, o + k, none⟩ = some (.int .u8 (q : Nat)) ∧ q < 256 ∧ Hid (q = (l.getD k 0).toNat) := by
 obtain ⟨hl, _, _, _, hh⟩ := h
 obtain ⟨b, o, e, hb, hc⟩ := hh (by simp; omega)
 refine ⟨b, o, (l.getD k 0).toNat, e, hb, hc k _ ?_, (l.getD k 0).toNat_lt, Lib.hid rfl⟩
 simp [byt, List.getElem?_map, List.getD_eq_getElem?_getD, List.getElem?_eq_getElem (show k < l.length by omega)]
theorem HasB.take_ (h : HasB w B A n c l) (k : Nat) (hk : k ≤ n) : HasB w B A k c (l.take k) :=
 ⟨by have := h.len; rw [List.length_take]; omega, by have := h.cap; omega, h.fit, h.void, by rw [List.map_take]; exact h.has.take_ k⟩
theorem HasB.drop_ (h : HasB w B A n c l) (k : Nat) (hk : k ≤ n) : HasB w B (if c = k then A else A.map (·.add (k * 1))) (n - k) (c - k) (l.drop k) := by
 have hl := h.len; have hc := h.cap; have hf := h.fit
 refine ⟨by rw [List.length_drop]; omega, by omega, by omega, fun hA => ?_, ?_⟩
 ·split at hA
  ·omega
  ·rcases A with _ | a
   ·have := h.void rfl; omega
   ·cases hA
 rw [List.map_drop]
 by_cases hkn : k = n
 ·intro hn
  simp at hn
  omega
 ·rw [if_neg (by omega), Nat.mul_one]
  exact h.has.drop_ k (by simp; omega)
end

theorem u8_of_wf {x : Int} (h : (Lit.int .u8 x).wf = true) : 0 ≤ x ∧ x < 256 := by
 have h1 : IntKind.u8.min = 0 := rfl
 have h2 : IntKind.u8.max = 255 := rfl
 simp only [Lit.wf, Bool.and_eq_true, decide_eq_true_eq] at h
 omega
theorem i64_of_wf {x : Int} (h : (Lit.int .i64 x).wf = true) : -9223372036854775808 ≤ x ∧ x ≤ 9223372036854775807 := by
 have h1 : IntKind.i64.min = -9223372036854775808 := rfl
 have h2 : IntKind.i64.max = 9223372036854775807 := rfl
 simp only [Lit.wf, Bool.and_eq_true, decide_eq_true_eq] at h
 omega
theorem HasB.of_row {w : World} {a : Option Addr} {n c : Nat} {zs : List Int}
  (h : (a = none ∧ n = 0 ∧ c = 0 ∧ zs = []) ∨ ∃ x, a = some x ∧ n ≤ c ∧ c ≤ maxLen ∧ zs.length = c ∧ (∀ i, i < zs.length → w.cell? (x.add i) = some (.int .u8 (zs.getD i 0))) ∧ ∀ k ∈ zs, (Lit.int .u8 k).wf = true) :
  ∃ l, HasB w w.heap.size a n c l := by
 rcases h with ⟨rfl, rfl, rfl, rfl⟩ | ⟨x, rfl, hl, hm, hz, hcell, hwz⟩
 ·exact ⟨[], rfl, Nat.le_refl _, Nat.zero_le _, fun _ => rfl, Has.nil_⟩
 ·refine ⟨(zs.take n).map fun k => UInt8.ofNat k.toNat, by simp; omega, hl, hm, (fun h => by cases h), fun hn => ?_⟩
  simp only [List.length_map, List.length_take] at hn
  obtain ⟨b, o, spot⟩ := x
  have h0 := hcell 0 (by omega)
  have hs : spot = none := by simpa [Addr.add] using World.cell?_spot h0
  subst hs
  refine ⟨b, o, rfl, World.block_lt_of_cell? w _ h0, fun j u hu => ?_⟩
  rw [List.map_map, List.getElem?_map, List.getElem?_take] at hu
  split at hu
  ·rename_i hj
   have hjz : j < zs.length := by omega
   rw [List.getElem?_eq_getElem hjz] at hu
   have hc := hcell j hjz
   rw [add_flat] at hc
   rw [hc, ← hu]
   have hw := hwz zs[j] (List.getElem_mem hjz)
   have hb : 0 ≤ zs[j] ∧ zs[j] < 256 := u8_of_wf hw
   simp only [List.getD_eq_getElem?_getD, List.getElem?_eq_getElem hjz, Option.getD_some, Option.map_some, Function.comp, byt, Option.some.injEq]
   congr 1
   rw [UInt8.toNat_ofNat']
   omega
  ·cases hu

theorem cell_new (w : World) (C : Array Value) (e : TypeId) (fr : Nat × Nat) (j : Nat) : (w.alloc (.cells C e fr)).cell? ⟨w.heap.size, j, none⟩ = C[j]? := by
 have h : (w.alloc (.cells C e fr)).heap[w.heap.size]? = some (.cells C e fr) := heap_alloc_new w _
 unfold World.cell?
 rw [h]
 rfl
theorem HasB.litAt (w : World) (l : List UInt8) (C : Array Value) (hC : C = (l.map byt).toArray) (e : TypeId) (fr : Nat × Nat) (n : Nat) (hn : n = l.length) (hl : n ≤ 9223372036854775807) (g : Nat) (hg : g = w.heap.size) :
  HasB (w.alloc (.cells C e fr)) (g + 1) (some ⟨g, 0, none⟩) n n l := by
 subst hC hn hg
 exact ⟨rfl, Nat.le_refl _, by unfold maxLen; omega, (fun h => by cases h), fun _ => ⟨w.heap.size, 0, rfl, by omega, fun j u hu => by
  rw [Nat.zero_add, cell_new]
  simpa using hu⟩⟩
def Block (w : World) (g : Nat) (e : TypeId) (cs : Array Value) : Prop := w.heap[g]? = some (.cells cs e (0, 0))
section
variable {w w' : World} {g : Nat} {e : TypeId} {cs : Array Value}
theorem Block.lt (h : Block w g e cs) : g < w.heap.size := (Array.getElem?_eq_some_iff.1 h).1
theorem Block.cell (h : Block w g e cs) (i : Nat) : w.cell? ⟨g, i, none⟩ = cs[i]? := cell_of_row w g i cs e (0, 0) h
theorem Block.free (h : Block w g e cs) (i : Nat) : w.frozen? ⟨g, i, none⟩ = false := by
 have h' : w.heap[g]? = some (.cells cs e (0, 0)) := h
 simp [World.frozen?, h']
theorem Block.new (w : World) (e : TypeId) (cs : Array Value) : Block (w.alloc (.cells cs e)) w.heap.size e cs := heap_alloc_new w _
theorem Block.set_ (h : Block w g e cs) (i : Nat) (u : Value) : Block (w.setCell ⟨g, i, none⟩ u) g e (cs.setIfInBounds i u) := by
 have h' : w.heap[g]? = some (.cells cs e (0, 0)) := h
 unfold Block
 simp [World.setCell, Array.getElem?_modify, h']
theorem Block.drewN (h : Block w g e cs) (k : Nat) : Block (w.drewN k) g e cs := h
theorem Block.alloc (h : Block w g e cs) (o : Obj) : Block (w.alloc o) g e cs := (Below.heap_alloc w o g h.lt).trans h
theorem Block.below {B : Nat} (h : Block w g e cs) (hb : Below B w w') (hg : g < B) : Block w' g e cs := (hb.block g hg).trans h
theorem Block.grown {row : Option Nat} (h : Block w g e cs) (hb : w.grownBy w' row) (hg : row ≠ some g) : Block w' g e cs := (hb.block g h.lt (fun e => hg e.symm)).trans h
end

def OwnB (w : World) (base : Nat) (e : TypeId) (v : Value) (l : List UInt8) : Prop := w.ownsRow base e 1 v l.length (l.map byt)

section
variable {w w' : World} {base : Nat} {e : TypeId} {v : Value} {l : List UInt8}
theorem OwnB.nil_ (w : World) (base : Nat) (e : TypeId) : OwnB w base e (.slice none 0 0) [] := World.ownsRow_nil w base e 1
theorem OwnB.form (h : OwnB w base e v l) : ∃ A c, v = .slice A l.length c ∧ HasB w w.heap.size A l.length c l ∧ (∀ a, A = some a → base ≤ a.block) := by
 rcases h.2 with ⟨rfl, h0⟩ | ⟨g, cap, cur, rfl, hb, hg, hnc, hcm, hcs, ht⟩
 ·have hl : l = [] := List.eq_nil_of_length_eq_zero h0
  subst hl
  exact ⟨none, 0, rfl, ⟨rfl, Nat.le_refl _, Nat.zero_le _, fun _ => rfl, Has.nil_⟩, fun _ h => by cases h⟩
 ·have hlt : g < w.heap.size := (Array.getElem?_eq_some_iff.1 hg).1
  refine ⟨_, cap, rfl, ⟨rfl, hnc, hcm, (fun h => by cases h), fun _ => ⟨g, 0, rfl, hlt, fun j u hu => ?_⟩⟩, fun a ha => by injection ha with ha; subst ha; exact hb⟩
  have := World.ownsRow.cells h (g := g) rfl j u hu
  rwa [add_flat] at this
theorem OwnB.alloc (h : OwnB w base e v l) (o : Obj) : OwnB (w.alloc o) base e v l := World.ownsRow.alloc h o
theorem OwnB.lt (h : OwnB w base e v l) : ∀ k, v.ownBlock = some k → base ≤ k ∧ k < w.heap.size := World.ownsRow.lt h
theorem OwnB.below {C : Nat} (h : OwnB w base e v l) (hb : Below C w w') (hC : w.heap.size ≤ C) : OwnB w' base e v l :=
 World.ownsRow.kept (row := none) h ⟨hb.os, hb.tape, hb.output, hb.size, fun k hk _ => hb.block k (by omega)⟩ (by cases v.ownBlock <;> simp)
end

theorem row_low {w : World} {base base' : Nat} {e : TypeId} {size : Nat} {v : Value} {n : Nat} {xs : List Value} (h : w.ownsRow base e size v n xs) (hb : base' ≤ base) : w.ownsRow base' e size v n xs :=
 ⟨h.1, h.2.imp id (fun ⟨g, cap, cur, a, b, c⟩ => ⟨g, cap, cur, a, Nat.le_trans hb b, c⟩)⟩
theorem OwnB.low {w : World} {base base' : Nat} {e : TypeId} {v : Value} {l : List UInt8} (h : OwnB w base e v l) (hb : base' ≤ base) : OwnB w base' e v l := row_low h hb
theorem run_app {P : Program} (w : World) (t ty : TypeId)
  (base : Nat) (e : TypeId) (i : TypeInfo) (z : Value) (ht : P.underlying t = some (.slice e)) (hi : P.info? e = some i) (hz : i.zero = some z)
  (hsize : i.size = 1) (hby : i.bytes = 1) (hzs : z.cells.size = 1)
  (v : Value) (l : List UInt8) (hown : OwnB w base e v l)
  (B : Nat) (A : Option Addr) (m c : Nat) (news : List UInt8) (hr : HasB w B A m c news)
  (hbytes : l.length + m ≤ 140737488355328) (hbase : base ≤ w.heap.size) :
  ∃ v' w', (Builtin.append_ #[t, t] ty #[v, .slice A m c]).run P w = .ok v' w' ∧ OwnB w' base e v' (l ++ news) ∧ w.grownBy w' v.ownBlock := by
 have hml := hr.len
 have hsum : (l ++ news).length = l.length + m := by rw [List.length_append, hml]
 have hmap : (l ++ news).map byt = l.map byt ++ news.map byt := List.map_append
 have hone : l.length + m ≤ maxLen := by unfold maxLen; omega
 rcases A with _ | ad
 ·obtain rfl := hr.void rfl
  have hc := hr.cap
  obtain rfl : m = 0 := by omega
  obtain rfl : news = [] := List.eq_nil_of_length_eq_zero hml
  exact ⟨v, w, run_append_owned_none (P := P) (w := w) base t ty e i 1 ht hi v l.length (l.map byt) hown, by rw [List.append_nil]; exact hown, World.grownBy.refl w _⟩
 ·have hcells : ∀ j u, (news.map byt)[j]? = some u → w.cell? (ad.add j) = some u := by
   intro j u hu
   have hj : j < (news.map byt).length := by
    rcases Nat.lt_or_ge j (news.map byt).length with h1 | h1
    ·exact h1
    ·rw [List.getElem?_eq_none h1] at hu; cases hu
   obtain ⟨b, o', e', _, hc⟩ := hr.has (by omega)
   injection e' with e'
   subst e'
   rw [add_flat]
   exact hc j u hu
  obtain ⟨v', w', hrun, hown', hg, _⟩ := run_append_own (P := P) w base t ty e i z 1 1 ht hi hz hsize hby hzs (by decide) v l.length (l.map byt) hown ad m c (news.map byt) (by simp [hml]) hcells (byt_one news) hone (by omega) hbase
  exact ⟨v', w', hrun, by unfold OwnB; rw [hsum, hmap]; exact hown', hg⟩

section
variable {P : Program} (w : World) {ops : Array Oper} {rest : List Oper} {o : Oper} {a : Act} {Q : Exit → Act → World → Prop}
end

/-! ### What grew, and where the row went -/
def Grew (w : World) (v : Value) (w' : World) (v' : Value) : Prop := w.grownBy w' v.ownBlock ∧ ∀ k, v'.ownBlock = some k → v.ownBlock = some k ∨ w.heap.size ≤ k
theorem grownBy_trans {a b c : World} {r r' : Option Nat} (h : a.grownBy b r) (h' : b.grownBy c r') (hr : ∀ k, r' = some k → r = some k ∨ a.heap.size ≤ k) : a.grownBy c r :=
 ⟨h'.os.trans h.os, h'.tape.trans h.tape, h'.output.trans h.output, Nat.le_trans h.size h'.size, fun k hk hne => (h'.block k (Nat.lt_of_lt_of_le hk h.size) (fun e => by
  rcases hr k e.symm with h1 | h1
  ·exact hne h1.symm
  ·omega)).trans (h.block k hk hne)⟩
theorem Grew.refl (w : World) (v : Value) : Grew w v w v := ⟨World.grownBy.refl w _, fun _ h => .inl h⟩
theorem Grew.trans {a b c : World} {u v x : Value} (h : Grew a u b v) (h' : Grew b v c x) : Grew a u c x :=
 ⟨grownBy_trans h.1 h'.1 h.2, fun k hk => by
  rcases h'.2 k hk with h1 | h1
  ·exact h.2 k h1
  ·exact .inr (Nat.le_trans h.1.size h1)⟩
theorem Grew.alloc {a b : World} {u v : Value} (h : Grew a u b v) (o : Obj) : Grew a u (b.alloc o) v :=
 h.trans ⟨World.grownBy_alloc b o _, fun _ h => .inl h⟩
theorem Grew.below_ {a b : World} {u v : Value} (h : Grew a u b v) {base : Nat} (hs : base ≤ a.heap.size) (hu : ∀ k, u.ownBlock = some k → base ≤ k) : Below base a b :=
 ⟨h.1.os, h.1.tape, h.1.output, h.1.size, fun k hk => h.1.block k (by omega) (fun e => by have := hu k e.symm; omega)⟩

theorem run_app4 {P : Program} (w : World) (t ty : TypeId)
  (base : Nat) (e : TypeId) (i : TypeInfo) (z : Value) (ht : P.underlying t = some (.slice e)) (hi : P.info? e = some i) (hz : i.zero = some z)
  (hsize : i.size = 1) (hby : i.bytes = 1) (hzs : z.cells.size = 1)
  (v : Value) (l : List UInt8) (hown : OwnB w base e v l)
  (B : Nat) (A : Option Addr) (m c : Nat) (news : List UInt8) (hr : HasB w B A m c news)
  (hbytes : l.length + m ≤ 140737488355328) (hbase : base ≤ w.heap.size) :
  ∃ v' w', (Builtin.append_ #[t, t] ty #[v, .slice A m c]).run P w = .ok v' w' ∧ OwnB w' base e v' (l ++ news) ∧ Grew w v w' v' := by
 obtain ⟨v', w', hrun, ho, hg⟩ := run_app (P := P) w t ty base e i z ht hi hz hsize hby hzs v l hown B A m c news hr hbytes hbase
 refine ⟨v', w', hrun, ho, hg, ?_⟩
 have hml := hr.len
 rcases A with _ | ad
 ·obtain rfl := hr.void rfl
  have hc := hr.cap
  obtain rfl : m = 0 := by omega
  have h1 := run_append_owned_none (P := P) (w := w) base t ty e i 1 ht hi v l.length (l.map byt) hown
  rw [h1] at hrun
  injection hrun with hrun _
  subst hrun
  exact fun k hk => .inl hk
 ·rcases hown.2 with ⟨rfl, h0⟩ | ⟨g, cap, cur, rfl, hbg, hgg, hnc, hcm, hcs, htake⟩
  ·have hl0 : l = [] := List.eq_nil_of_length_eq_zero h0
   subst hl0
   obtain ⟨v2, w2, hrun2, ho2, _⟩ := run_app (P := P) w t ty w.heap.size e i z ht hi hz hsize hby hzs (.slice none 0 0) [] (OwnB.nil_ w _ e) B (some ad) m c news hr hbytes (Nat.le_refl _)
   have h1 := hrun2
   rw [hrun] at h1
   injection h1 with h1 _
   subst h1
   exact fun k hk => .inr (ho2.lt k hk).1
  ·have hone : l.length + m ≤ maxLen := by unfold maxLen; omega
   have hcells : ∀ j u, (news.map byt)[j]? = some u → w.cell? (ad.add j) = some u := by
    intro j u hu
    have hj : j < (news.map byt).length := by
     rcases Nat.lt_or_ge j (news.map byt).length with h1 | h1
     ·exact h1
     ·rw [List.getElem?_eq_none h1] at hu; cases hu
    obtain ⟨b, o', e', _, hc⟩ := hr.has (by omega)
    injection e' with e'
    subst e'
    rw [add_flat]
    exact hc j u hu
   by_cases hroom : l.length + m ≤ cap
   ·have h1 := run_append_room (P := P) w t ty e i ht hi g l.length cap cur hgg ad m c (news.map byt) (by rw [hsize, Nat.mul_one]; simpa using hml) hcells (byt_one news) hroom (by rw [hsize, Nat.mul_one, hcs, List.length_map, hml]; omega)
    rw [hrun] at h1
    injection h1 with h1 _
    subst h1
    exact fun k hk => .inl hk
   ·have hmap := hown.1
    have h1 := run_append_grow (P := P) w t ty e i z ht hi hz ⟨g, 0, none⟩ l.length cap (l.map byt) (by rw [hsize]; simp) (hown.cells (g := g) rfl) ad m c (news.map byt) (by rw [hsize, Nat.mul_one]; simpa using hml) hcells (by omega) (by omega) (growslice_fits (by omega) (by rw [hby]; omega))
    rw [hrun] at h1
    injection h1 with h1 _
    subst h1
    exact fun k hk => .inr (by injection hk with hk; subst hk; exact Nat.le_refl _)

section
variable {P : Program} (w : World) {ops : Array Oper} {rest : List Oper} {o : Oper} {a : Act} {Q : Exit → Act → World → Prop}
theorem wp_app4 {K : Act → World → Prop} (s x : Operand) (t : TypeId)
  (ho : o.op = .call { callee := .builtin .append, args := #[s, x], argTypes := #[t, t] })
  (base : Nat) (e : TypeId) (i : TypeInfo) (z : Value) (ht : P.underlying t = some (.slice e)) (hi : P.info? e = some i) (hz : i.zero = some z)
  (hsize : i.size = 1) (hby : i.bytes = 1) (hzs : z.cells.size = 1)
  (v : Value) (l : List UInt8) (hs : a.eval s = v) (hown : OwnB w base e v l)
  (B : Nat) (A : Option Addr) (m c : Nat) (news : List UInt8) (hx : a.eval x = .slice A m c) (hr : HasB w B A m c news)
  (hbytes : l.length + m ≤ 140737488355328) (hbase : base ≤ w.heap.size)
  (h : ∀ v' w', OwnB w' base e v' (l ++ news) → Grew w v w' v' → K (a.put o.dst v') w') : o.wp P a w K Q := by
 obtain ⟨v', w', hrun, h2, h3⟩ := run_app4 (P := P) w t o.type base e i z ht hi hz hsize hby hzs v l hown B A m c news hr hbytes hbase
 unfold Oper.wp execOp
 simp only [ho, resolve, invoke, builtin, Sem.run_bind, Sem.run_pure, Result.andThen_ok, List.map_toArray, List.map_cons, List.map_nil, hs, hx, hrun]
 exact h v' w' h2 h3
theorem wpList_app4 (hgd : o.guard = none) (s x : Operand) (t : TypeId)
  (ho : o.op = .call { callee := .builtin .append, args := #[s, x], argTypes := #[t, t] })
  (base : Nat) (e : TypeId) (i : TypeInfo) (z : Value) (ht : P.underlying t = some (.slice e)) (hi : P.info? e = some i) (hz : i.zero = some z)
  (hsize : i.size = 1) (hby : i.bytes = 1) (hzs : z.cells.size = 1)
  (v : Value) (l : List UInt8) (hs : a.eval s = v) (hown : OwnB w base e v l)
  (B : Nat) (A : Option Addr) (m c : Nat) (news : List UInt8) (hx : a.eval x = .slice A m c) (hr : HasB w B A m c news)
  (hbytes : l.length + m ≤ 140737488355328) (hbase : base ≤ w.heap.size)
  (h : ∀ v' w', OwnB w' base e v' (l ++ news) → Grew w v w' v' → wpList P ops Q rest (a.put o.dst v') w') : wpList P ops Q (o :: rest) a w :=
 wpList_plain hgd fun _ hK => wp_app4 w s x t ho base e i z ht hi hz hsize hby hzs v l hs hown B A m c news hx hr hbytes hbase fun v' w' h2 h3 => hK _ _ (h v' w' h2 h3)
end

theorem HasB.string {P : Program} {w : World} {B n c : Nat} {A : Option Addr} {l : List UInt8} (h : HasB w B A n c l) (src e dst : TypeId)
  (hs : P.underlying src = some (.slice e)) (he : P.underlying e = some (.int .u8)) (hd : P.underlying dst = some .string) :
  (convert src dst (.slice A n c)).run P w = .ok (.string ⟨l.toArray⟩) w := by
 have hl := h.len
 have key : strOfNums (l.map fun u => (u.toNat : Int)) = ⟨l.toArray⟩ := by
  unfold strOfNums
  congr 2
  rw [List.map_map]
  exact (List.map_congr_left (fun u _ => by simp)).trans (List.map_id l)
 rcases Nat.eq_zero_or_pos n with hn | hn
 ·subst hn
  obtain rfl : l = [] := List.eq_nil_of_length_eq_zero hl
  exact run_convert_bytes_zero w src e hs he A c dst hd
 ·obtain ⟨b, o, rfl, _, hc⟩ := h.has (by simp; omega)
  rw [← key]
  refine run_convert_bytes_arg (P := P) w src e hs he b o n c _ (by simpa using hl) (fun i hi => hc i _ ?_) dst hd
  simp [byt, List.getElem?_map, List.getD_eq_getElem?_getD, List.getElem?_eq_getElem (show i < l.length by omega)]

theorem bool_of {a b : Bool} (h : a = b) : Ending.returned (.bool a) = .returned (.bool b) := by rw [h]
theorem i64_of {a b : Int} (h : a = b) : Ending.returned (.int .i64 a) = .returned (.int .i64 b) := by rw [h]
theorem cut_is {w : World} {B n c p : Nat} {A : Option Addr} {l : List UInt8} (h : HasB w B A n c l) (hp : p ≤ n) (hc : ¬ c = p) : HasB w B (A.map (·.add p)) (n - p) (c - p) (l.drop p) := by
 have := h.drop_ p hp
 rwa [if_neg hc, Nat.mul_one] at this
theorem cut_all {w : World} {B c : Nat} {A : Option Addr} {l : List UInt8} (h : HasB w B A c c l) : HasB w B A 0 0 (l.drop c) := by
 have := h.drop_ c (Nat.le_refl _)
 rwa [if_pos rfl, Nat.sub_self] at this
theorem quietS {P : Program} {f : FuncId} {args : Array Value} {w : World} {n : Nat} {v : Value}
  (h : Calls P f args (w.drewN n) fun e w' => e = .returned v ∧ w.drewN n = w') : Calls P f args (w.drewN n) fun e w'' => e = .returned v ∧ ∃ m, w'' = w.drewN m :=
 h.mono fun _ _ ⟨he, hm⟩ => ⟨he, n, hm.symm⟩
end Go.Proofs.YtmcccpbpijnbmaaDoor
namespace Go.Proofs.YtmcccpbpijnbmaaDoor
set_option maxRecDepth 100000

abbrev Txt := List UInt8
def isLet (b : UInt8) : Bool := (97 ≤ b && b ≤ 122) || (48 ≤ b && b ≤ 57) || b == 45 || b == 95
def nameP (s : Txt) : Prop := 1 ≤ s.length ∧ s.length ≤ 12 ∧ ∀ b ∈ s, isLet b = true
instance (s : Txt) : Decidable (nameP s) := by unfold nameP; exact inferInstance
def mayP (p : List Txt) : Prop := p.length ≤ 3 ∧ ∀ s ∈ p, nameP s
instance (p : List Txt) : Decidable (mayP p) := by unfold mayP; exact inferInstance
def joinT : List Txt → Txt
 | [] => []
 | [a] => a
 | a :: b :: p => a ++ 47 :: joinT (b :: p)
def textP (p : List Txt) : Txt := if p = [] then [42] else joinT p
def splitT : Txt → List Txt
 | [] => [[]]
 | b :: s => if b = 47 then [] :: splitT s else match splitT s with | [] => [[b]] | a :: r => (b :: a) :: r
def pathP (s : Txt) : Option (List Txt) := if s = [42] then some [] else if mayP (splitT s) then some (splitT s) else none
theorem splitT_ne (s : Txt) : splitT s ≠ [] := by
 cases s with
 | nil => simp [splitT]
 | cons b s =>
  unfold splitT
  split
  ·simp
  ·split <;> simp
theorem splitT_cons {b : UInt8} {s a : Txt} {r : List Txt} (hb : b ≠ 47) (h : splitT s = a :: r) : splitT (b :: s) = (b :: a) :: r := by
 rw [splitT, if_neg hb, h]
theorem joinT_cons (a : Txt) {p : List Txt} (h : p ≠ []) : joinT (a :: p) = a ++ 47 :: joinT p := by
 cases p with
 | nil => exact absurd rfl h
 | cons b p => rfl
theorem splitT_name {a : Txt} (h : (47 : UInt8) ∉ a) : splitT a = [a] := by
 induction a with
 | nil => rfl
 | cons b a ih =>
  have h1 : b ≠ 47 := fun e => h (by simp [e])
  exact splitT_cons h1 (ih fun hm => h (List.mem_cons_of_mem _ hm))
theorem splitT_app {a s : Txt} (h : (47 : UInt8) ∉ a) : splitT (a ++ 47 :: s) = a :: splitT s := by
 induction a with
 | nil => simp [splitT]
 | cons b a ih =>
  have h1 : b ≠ 47 := fun e => h (by simp [e])
  exact splitT_cons h1 (ih fun hm => h (List.mem_cons_of_mem _ hm))
theorem splitT_join : ∀ {p : List Txt}, p ≠ [] → (∀ a ∈ p, (47 : UInt8) ∉ a) → splitT (joinT p) = p := by
 intro p
 induction p with
 | nil => intro h; exact absurd rfl h
 | cons a p ih =>
  intro _ h
  by_cases hp : p = []
  ·subst hp
   exact splitT_name (h a (by simp))
  ·rw [joinT_cons a hp, splitT_app (h a (by simp)), ih hp fun b hb => h b (List.mem_cons_of_mem _ hb)]
theorem nameP_no {a : Txt} (h : nameP a) : (47 : UInt8) ∉ a ∧ (42 : UInt8) ∉ a := by
 refine ⟨fun hm => ?_, fun hm => ?_⟩
 ·have := h.2.2 47 hm; revert this; decide
 ·have := h.2.2 42 hm; revert this; decide
theorem pathP_text {p : List Txt} (h : mayP p) : pathP (textP p) = some p := by
 unfold textP pathP
 by_cases hp : p = []
 ·rw [if_pos hp, if_pos rfl, hp]
 ·rw [if_neg hp]
  have hs : splitT (joinT p) = p := splitT_join hp fun a ha => (nameP_no (h.2 a ha)).1
  rw [if_neg, hs, if_pos h]
  intro he
  rw [he] at hs
  have : p = [[42]] := by rw [← hs]; rfl
  rw [this] at h
  exact (nameP_no (h.2 [42] (by simp))).2 (by simp)
/-! ### The order -/
def underP (p q : List Txt) : Prop := q.length ≤ p.length ∧ p.take q.length = q
instance (p q : List Txt) : Decidable (underP p q) := by unfold underP; exact inferInstance
def upP (p : List Txt) (n : Int) : List Txt := p.take n.toNat
end Go.Proofs.YtmcccpbpijnbmaaDoor
namespace Go.Proofs.YtmcccpbpijnbmaaDoor
set_option maxRecDepth 100000
open Go.RowKit

def put3 (w : World) (g : Nat) (a b c : Value) : World := ((w.setCell ⟨g, 0, none⟩ a).setCell ⟨g, 1, none⟩ b).setCell ⟨g, 2, none⟩ c
theorem Block.put3_ {w : World} {g : Nat} {e : TypeId} {x y z : Value} (h : Block w g e #[x, y, z]) (a b c : Value) : Block (put3 w g a b c) g e #[a, b, c] := by
 exact ((h.set_ 0 a).set_ 1 b).set_ 2 c
theorem below_put3 {B : Nat} {w0 w : World} (h : Below B w0 w) {g : Nat} (hg : B ≤ g) (a b c : Value) : Below B w0 (put3 w g a b c) :=
 ((h.setCell (p := ⟨g, 0, none⟩) hg a).setCell (p := ⟨g, 1, none⟩) hg b).setCell (p := ⟨g, 2, none⟩) hg c
end Go.Proofs.YtmcccpbpijnbmaaDoor
namespace Go.Proofs.YtmcccpbpijnbmaaDoor
set_option maxRecDepth 100000
open Go.RowKit
section
variable {w w' : World} {B : Nat} {v : Value}
theorem row_below {base : Nat} {e : TypeId} {size n : Nat} {xs : List Value} (h : w.ownsRow base e size v n xs) (hb : Below w.heap.size w w') : w'.ownsRow base e size v n xs :=
 h.kept (row := none) ⟨hb.os, hb.tape, hb.output, hb.size, fun k hk _ => hb.block k hk⟩ (by cases v.ownBlock <;> simp)
end
end Go.Proofs.YtmcccpbpijnbmaaDoor
namespace Go.Proofs.YtmcccpbpijnbmaaDoor
set_option maxRecDepth 100000

abbrev PDim := Txt × List Txt
def zeroD : PDim := ([], [])
def apartP (l : List Txt) (m : Nat) : Prop := 1 ≤ l.length ∧ l.length ≤ m ∧ (∀ s ∈ l, nameP s) ∧ l.Nodup
instance (l : List Txt) (m : Nat) : Decidable (apartP l m) := by unfold apartP; exact inferInstance
def baseP (D : List PDim) : List Int := D.map fun d => (d.2.length : Int)
def cornerP (D : List PDim) (v : List Int) : Prop := v.length = D.length ∧ ∀ i, i < v.length → 0 ≤ v.getD i 0 ∧ v.getD i 0 ≤ (((D.getD i zeroD).2.length : Nat) : Int)
instance (D : List PDim) (v : List Int) : Decidable (cornerP D v) := by unfold cornerP; exact inferInstance
def coversP (v w : List Int) : Prop := v.length = w.length ∧ ∀ i, i < v.length → w.getD i 0 ≤ v.getD i 0
instance (v w : List Int) : Decidable (coversP v w) := by unfold coversP; exact inferInstance
def viewsP (D : List PDim) (V : List (List Int)) : List (List Int) := baseP D :: V
def mayDP (D : List PDim) : Prop := (∀ d ∈ D, apartP d.2 3) ∧ apartP (D.map (·.1)) 3
instance (D : List PDim) : Decidable (mayDP D) := by unfold mayDP; exact inferInstance
def mayVP (D : List PDim) (V : List (List Int)) : Prop := V.length ≤ 6 ∧ (∀ v ∈ V, cornerP D v) ∧ (viewsP D V).Nodup
instance (D : List PDim) (V : List (List Int)) : Decidable (mayVP D V) := by unfold mayVP; exact inferInstance
def mayS (D : List PDim) (M : List Txt) (V : List (List Int)) : Prop := mayDP D ∧ apartP M 2 ∧ mayVP D V
instance (D : List PDim) (M : List Txt) (V : List (List Int)) : Decidable (mayS D M V) := by unfold mayS; exact inferInstance
theorem ext_getD {v w : List Int} (h : v.length = w.length) (he : ∀ i, i < v.length → v.getD i 0 = w.getD i 0) : v = w := by
 apply List.ext_getElem h
 intro i h1 h2
 have := he i h1
 simpa [List.getD_eq_getElem?_getD, List.getElem?_eq_getElem h1, List.getElem?_eq_getElem h2] using this
/-! ### The base covers each corner; each of all is one -/
theorem baseP_len (D : List PDim) : (baseP D).length = D.length := by simp [baseP]
theorem baseP_get {D : List PDim} {i : Nat} (h : i < D.length) : (baseP D).getD i 0 = ((D.getD i zeroD).2.length : Int) := by
 simp [baseP, List.getD_eq_getElem?_getD, List.getElem?_eq_getElem h]
theorem base_corner (D : List PDim) : cornerP D (baseP D) :=
 ⟨baseP_len D, fun i hi => by
  rw [baseP_len] at hi
  rw [baseP_get hi]
  omega⟩
/-! ### The number of a view -/
end Go.Proofs.YtmcccpbpijnbmaaDoor
namespace Go.Proofs.YtmcccpbpijnbmaaDoor
set_option maxRecDepth 100000

def wMay (hi lo : Int) : Prop := 0 ≤ lo ∧ lo < 4294967296 ∧ -1099511627776 ≤ hi ∧ hi ≤ 1099511627776
instance (hi lo : Int) : Decidable (wMay hi lo) := by unfold wMay; exact inferInstance
def sumI : List Int → Int
 | [] => 0
 | x :: l => x + sumI l
end Go.Proofs.YtmcccpbpijnbmaaDoor
namespace Go.Proofs.YtmcccpbpijnbmaaDoor
set_option maxRecDepth 100000

abbrev PC := Int × List Int × List Int × List Int
def zeroC : PC := (0, [], [], [])
def inV (x : Int) : Prop := -2305843009213693952 ≤ x ∧ x ≤ 2305843009213693952
def inS (x : Int) : Prop := -4611686018427387904 ≤ x ∧ x ≤ 4611686018427387904
instance (x : Int) : Decidable (inV x) := by unfold inV; exact inferInstance
instance (x : Int) : Decidable (inS x) := by unfold inS; exact inferInstance
def cEmpty (m : Nat) : PC := (0, List.replicate m 0, List.replicate m 0, List.replicate m 0)
def mMay (n s lo hi : Int) : Prop := lo ≤ hi ∧ inV lo ∧ inV hi ∧ inS s ∧ (n = 1 → s = lo ∧ s = hi)
instance (n s lo hi : Int) : Decidable (mMay n s lo hi) := by unfold mMay; exact inferInstance
def fullMay (c : PC) : Prop := 1 ≤ c.1 ∧ c.1 ≤ 1099511627776 ∧ ∀ i, i < c.2.1.length → mMay c.1 (c.2.1.getD i 0) (c.2.2.1.getD i 0) (c.2.2.2.getD i 0)
instance (c : PC) : Decidable (fullMay c) := by unfold fullMay; exact inferInstance
def cMay (c : PC) : Prop := c.2.1.length ≤ 2 ∧ c.2.2.1.length = c.2.1.length ∧ c.2.2.2.length = c.2.1.length ∧ (c = cEmpty c.2.1.length ∨ fullMay c)
instance (c : PC) : Decidable (cMay c) := by unfold cMay; exact inferInstance

def cellMayP (n s lo hi : Int) : Prop := (n = 0 ∧ s = 0 ∧ lo = 0 ∧ hi = 0) ∨ (n ≠ 0 ∧ mMay n s lo hi)
instance (n s lo hi : Int) : Decidable (cellMayP n s lo hi) := by unfold cellMayP; exact inferInstance
theorem zeros_iff {l : List Int} {m : Nat} (hl : l.length = m) : l = List.replicate m 0 ↔ ∀ i, i < m → l.getD i 0 = 0 := by
 constructor
 ·rintro rfl i hi
  simp [List.getD_eq_getElem?_getD, hi]
 ·intro h
  apply List.ext_getElem (by simp [hl])
  intro k h1 h2
  have := h k (by omega)
  rw [List.getD_eq_getElem?_getD, List.getElem?_eq_getElem h1] at this
  simpa using this
theorem cMay_iff (n : Int) (S M X : List Int) : cMay (n, S, M, X) ↔ S.length ≤ 2 ∧ M.length = S.length ∧ X.length = S.length ∧ 0 ≤ n ∧ n ≤ 1099511627776 ∧ ∀ i, i < S.length → cellMayP n (S.getD i 0) (M.getD i 0) (X.getD i 0) := by
 unfold cMay
 show (S.length ≤ 2 ∧ M.length = S.length ∧ X.length = S.length ∧ ((n, S, M, X) = cEmpty S.length ∨ fullMay (n, S, M, X))) ↔ _
 constructor
 ·rintro ⟨h1, h2, h3, h4⟩
  refine ⟨h1, h2, h3, ?_⟩
  rcases h4 with h4 | ⟨h5, h6, h7⟩
  ·simp only [cEmpty, Prod.mk.injEq] at h4
   obtain ⟨rfl, e1, e2, e3⟩ := h4
   have a1 := (zeros_iff (l := S) (m := S.length) rfl).1 e1
   have a2 := (zeros_iff h2).1 e2
   have a3 := (zeros_iff h3).1 e3
   exact ⟨by decide, by decide, fun i hi => .inl ⟨rfl, a1 i hi, a2 i hi, a3 i hi⟩⟩
  ·have h5 : 1 ≤ n := h5
   have h6 : n ≤ 1099511627776 := h6
   exact ⟨by omega, h6, fun i hi => .inr ⟨by omega, h7 i hi⟩⟩
 ·rintro ⟨h1, h2, h3, h4, h5, h6⟩
  refine ⟨h1, h2, h3, ?_⟩
  by_cases hn : n = 0
  ·subst hn
   left
   have key : ∀ i, i < S.length → S.getD i 0 = 0 ∧ M.getD i 0 = 0 ∧ X.getD i 0 = 0 := fun i hi => by
    rcases h6 i hi with ⟨_, a, b, c⟩ | ⟨h, _⟩
    ·exact ⟨a, b, c⟩
    ·exact absurd rfl h
   simp only [cEmpty, Prod.mk.injEq]
   exact ⟨trivial, (zeros_iff (l := S) (m := S.length) rfl).2 fun i hi => (key i hi).1, (zeros_iff h2).2 fun i hi => (key i hi).2.1, (zeros_iff h3).2 fun i hi => (key i hi).2.2⟩
  ·right
   refine ⟨by show 1 ≤ n; omega, h5, fun i hi => ?_⟩
   rcases h6 i hi with ⟨h, _⟩ | ⟨_, h⟩
   ·exact absurd h hn
   ·exact h
/-! ### The least and the greatest -/
/-! ### Folds -/
def isVal (m : Int) (v : List Int) : Prop := (v.length : Int) = m ∧ ∀ x ∈ v, inV x
instance (m : Int) (v : List Int) : Decidable (isVal m v) := by unfold isVal; exact inferInstance
/-! ### Two together -/
/-! ### Many together -/
end Go.Proofs.YtmcccpbpijnbmaaDoor
namespace Go.Proofs.YtmcccpbpijnbmaaDoor
set_option maxRecDepth 100000

end Go.Proofs.YtmcccpbpijnbmaaDoor
namespace Go.Proofs.YtmcccpbpijnbmaaDoor
set_option maxRecDepth 100000

def zig (n : Int) : Nat := if 0 ≤ n then (2 * n).toNat else (-2 * n - 1).toNat
def zag (u : Nat) : Int := if u % 2 = 0 then ((u / 2 : Nat) : Int) else -((u / 2 : Nat) : Int) - 1
theorem zag_zig (n : Int) : zag (zig n) = n := by
 unfold zag zig; split <;> split <;> omega
theorem zig_zag (u : Nat) : zig (zag u) = u := by
 unfold zag zig; split <;> split <;> omega
theorem zig_lt {n : Int} (h : -9223372036854775808 ≤ n) (h' : n ≤ 9223372036854775807) : zig n < 18446744073709551616 := by
 unfold zig; split <;> omega
theorem zag_bd {u : Nat} (h : u < 18446744073709551616) : -9223372036854775808 ≤ zag u ∧ zag u ≤ 9223372036854775807 := by
 unfold zag; split <;> omega
def enc (u : Nat) : List UInt8 := if u < 128 then [UInt8.ofNat u] else UInt8.ofNat (u % 128 + 128) :: enc (u / 128)
termination_by u
decreasing_by omega
theorem enc_small {u : Nat} (h : u < 128) : enc u = [UInt8.ofNat u] := by rw [enc, if_pos h]
theorem enc_big {u : Nat} (h : ¬ u < 128) : enc u = UInt8.ofNat (u % 128 + 128) :: enc (u / 128) := by rw [enc, if_neg h]
theorem enc_pos (u : Nat) : 1 ≤ (enc u).length := by
 by_cases h : u < 128
 ·rw [enc_small h]; simp
 ·rw [enc_big h]; simp
theorem enc_le (k : Nat) : ∀ u, u < 2 ^ (7 * k + 7) → (enc u).length ≤ k + 1 := by
 induction k with
 | zero => intro u h; rw [enc_small (by simpa using h)]; simp
 | succ k ih =>
  intro u h
  by_cases hs : u < 128
  ·rw [enc_small hs]; simp
  ·rw [enc_big hs]
   have h1 : u / 128 < 2 ^ (7 * k + 7) := by
    rw [show 7 * (k + 1) + 7 = (7 * k + 7) + 7 from by omega, Nat.pow_add] at h
    exact Nat.div_lt_of_lt_mul (by omega)
   have := ih _ h1
   simp; omega
theorem enc_ten {u : Nat} (h : u < 18446744073709551616) : (enc u).length ≤ 10 := enc_le 9 u (Nat.lt_trans h (by decide))
def badAt (c i : Nat) : Bool := (i == 9 && decide (1 < c)) || (decide (0 < i) && c == 0)
def got : List UInt8 → Nat → Nat → Nat × Nat × Nat
 | [], _, _ => (0, 0, 3)
 | c :: r, i, u => if badAt c.toNat i then (0, 0, 2) else if 128 ≤ c.toNat then got r (i + 1) (u + c.toNat % 128 * 2 ^ (7 * i)) else (u + c.toNat * 2 ^ (7 * i), i + 1, 0)
def gN (l : List UInt8) : Int := zag (got l 0 0).1
def gK (l : List UInt8) : Nat := (got l 0 0).2.1
def gE (l : List UInt8) : Nat := (got l 0 0).2.2

theorem got_err (l : List UInt8) : ∀ i u, (got l i u).2.2 = 0 ∨ ((got l i u).1 = 0 ∧ (got l i u).2.1 = 0 ∧ ((got l i u).2.2 = 2 ∨ (got l i u).2.2 = 3)) := by
 induction l with
 | nil => intro i u; right; simp [got]
 | cons c r ih =>
  intro i u
  rw [got]
  split
  ·right; simp
  ·split
   ·exact ih _ _
   ·left; rfl
theorem got_tells (l : List UInt8) : ∀ i u, i ≤ 9 → (got l i u).2.2 = 0 →
  ∃ v, (got l i u).1 = u + v * 2 ^ (7 * i) ∧ (got l i u).2.1 = i + (enc v).length ∧ l.take (enc v).length = enc v ∧ (0 < i → 0 < v) ∧ v < 2 ^ (64 - 7 * i) := by
 induction l with
 | nil => intro i u _ h; simp [got] at h
 | cons c r ih =>
  intro i u hi h
  have hc := c.toNat_lt
  rw [got] at h ⊢
  by_cases hb : badAt c.toNat i = true
  ·rw [if_pos hb] at h; simp at h
  ·rw [if_neg hb] at h ⊢
   simp [badAt] at hb
   by_cases hg : 128 ≤ c.toNat
   ·rw [if_pos hg] at h ⊢
    have hi9 : i ≠ 9 := fun e => by have := hb.1 e; omega
    obtain ⟨v, h1, h2, h3, h4, h5⟩ := ih (i + 1) _ (by omega) h
    have hv := h4 (by omega)
    have hbig : ¬ c.toNat % 128 + v * 128 < 128 := by omega
    have e1 : (c.toNat % 128 + v * 128) / 128 = v := by omega
    have e2 : (c.toNat % 128 + v * 128) % 128 + 128 = c.toNat := by omega
    refine ⟨c.toNat % 128 + v * 128, ?_, ?_, ?_, fun _ => by omega, ?_⟩
    ·rw [h1, show 7 * (i + 1) = 7 + 7 * i from by omega, Nat.pow_add, Nat.add_mul, Nat.mul_assoc, Nat.add_assoc]
    ·rw [h2, enc_big hbig, e1]; simp; omega
    ·rw [enc_big hbig, e1, e2, List.length_cons, List.take_succ_cons, h3]; simp
    ·have h6 : 64 - 7 * i = 7 + (64 - 7 * (i + 1)) := by omega
     rw [h6, Nat.pow_add]
     have : c.toNat % 128 < 2 ^ 7 := by omega
     have : v + 1 ≤ 2 ^ (64 - 7 * (i + 1)) := h5
     have := Nat.mul_le_mul_left 128 this
     omega
   ·rw [if_neg hg]
    refine ⟨c.toNat, rfl, by rw [enc_small (by omega)]; rfl, ?_, fun h0 => ?_, ?_⟩
    ·rw [enc_small (by omega)]; simp
    ·have := hb.2 h0
     exact Nat.pos_of_ne_zero this
    ·by_cases h9 : i = 9
     ·subst h9; have := hb.1 rfl; simpa using Nat.lt_of_le_of_lt this (by decide)
     ·have : (2 : Nat) ^ 7 ≤ 2 ^ (64 - 7 * i) := Nat.pow_le_pow_right (by omega) (by omega)
      omega
theorem got_put (v : Nat) : ∀ (r : List UInt8) (i u : Nat), i ≤ 9 → (0 < i → 0 < v) → v < 2 ^ (64 - 7 * i) → got (enc v ++ r) i u = (u + v * 2 ^ (7 * i), i + (enc v).length, 0) := by
 induction v using Nat.strongRecOn with
 | _ v ih =>
  intro r i u hi h0 hv
  by_cases hs : v < 128
  ·have hn : (UInt8.ofNat v).toNat = v := by rw [UInt8.toNat_ofNat']; omega
   rw [enc_small hs, List.singleton_append, got, hn, if_neg, if_neg (by omega)]
   ·rfl
   ·simp only [badAt, Bool.or_eq_true, Bool.and_eq_true, beq_iff_eq, decide_eq_true_eq, not_or, not_and]
    refine ⟨fun h9 => ?_, fun hp => by have := h0 hp; omega⟩
    subst h9
    have : v < 2 := by simpa using hv
    omega
  ·have hn : (UInt8.ofNat (v % 128 + 128)).toNat = v % 128 + 128 := by rw [UInt8.toNat_ofNat']; omega
   have hi9 : i < 9 := by
    apply Nat.lt_of_le_of_ne hi
    rintro rfl
    have : v < 2 := by simpa using hv
    omega
   have hv' : v / 128 < 2 ^ (64 - 7 * (i + 1)) := by
    rw [show 64 - 7 * i = (64 - 7 * (i + 1)) + 7 from by omega, Nat.pow_add] at hv
    exact Nat.div_lt_of_lt_mul (by omega)
   rw [enc_big hs, List.cons_append, got, hn, if_neg, if_pos (by omega), ih (v / 128) (by omega) r (i + 1) _ (by omega) (fun _ => by omega) hv']
   ·refine Prod.ext ?_ (Prod.ext ?_ rfl)
    ·show u + (v % 128 + 128) % 128 * 2 ^ (7 * i) + v / 128 * 2 ^ (7 * (i + 1)) = u + v * 2 ^ (7 * i)
     rw [show 7 * (i + 1) = 7 + 7 * i from by omega, Nat.pow_add, ← Nat.mul_assoc, Nat.add_assoc, ← Nat.add_mul]
     congr 2
     omega
    ·show i + 1 + (enc (v / 128)).length = i + (enc (v / 128)).length.succ
     omega
   ·simp only [badAt, Bool.or_eq_true, Bool.and_eq_true, beq_iff_eq, decide_eq_true_eq, not_or, not_and]
    exact ⟨fun h9 => by omega, fun _ => by omega⟩
theorem gE_or (l : List UInt8) : gE l = 0 ∨ (gN l = 0 ∧ gK l = 0 ∧ (gE l = 2 ∨ gE l = 3)) := by
 rcases got_err l 0 0 with h | ⟨h1, h2, h3⟩
 ·exact .inl h
 ·exact .inr ⟨by unfold gN; rw [h1]; rfl, h2, h3⟩
theorem gE_le (l : List UInt8) : gE l ≤ 3 := by rcases gE_or l with h | ⟨_, _, h | h⟩ <;> omega
theorem g_tells {l : List UInt8} (h : gE l = 0) : gK l = (enc (zig (gN l))).length ∧ l.take (gK l) = enc (zig (gN l)) ∧ 1 ≤ gK l ∧ gK l ≤ l.length ∧ gK l ≤ 10 := by
 obtain ⟨v, h1, h2, h3, _, h5⟩ := got_tells l 0 0 (by omega) h
 have e1 : (got l 0 0).1 = v := by rw [h1]; simp
 have e2 : zig (gN l) = v := by unfold gN; rw [e1, zig_zag]
 have e3 : gK l = (enc v).length := by unfold gK; rw [h2, Nat.zero_add]
 rw [e2, e3]
 refine ⟨rfl, h3, enc_pos v, ?_, enc_ten (by simpa using h5)⟩
 have := congrArg List.length h3
 rw [List.length_take] at this
 omega
theorem got_lt {l : List UInt8} : (got l 0 0).1 < 18446744073709551616 := by
 rcases got_err l 0 0 with h | ⟨h, _⟩
 ·obtain ⟨v, h1, _, _, _, h5⟩ := got_tells l 0 0 (by omega) h
  rw [h1]; simpa using h5
 ·rw [h]; decide
theorem gN_bd (l : List UInt8) : -9223372036854775808 ≤ gN l ∧ gN l ≤ 9223372036854775807 := zag_bd got_lt
theorem gK_le (l : List UInt8) : gK l ≤ l.length ∧ gK l ≤ 10 := by
 rcases gE_or l with h | ⟨_, h, _⟩
 ·have := g_tells h; omega
 ·omega
theorem g_put {n : Int} (h : -9223372036854775808 ≤ n) (h' : n ≤ 9223372036854775807) (r : List UInt8) : gN (enc (zig n) ++ r) = n ∧ gK (enc (zig n) ++ r) = (enc (zig n)).length ∧ gE (enc (zig n) ++ r) = 0 := by
 have e := got_put (zig n) r 0 0 (by omega) (by omega) (by simpa using zig_lt h h')
 simp only [Nat.mul_zero, Nat.pow_zero, Nat.mul_one, Nat.zero_add] at e
 unfold gN gK gE
 rw [e]
 exact ⟨zag_zig n, rfl, rfl⟩
end Go.Proofs.YtmcccpbpijnbmaaDoor
namespace Go.Proofs.YtmcccpbpijnbmaaDoor
set_option maxRecDepth 100000
open Go.RowKit

def i64v (x : Int) : Value := .int .i64 x
theorem i64v_one (l : List Int) : ∀ u ∈ l.map i64v, u.oneCell' = true := by
 intro u hu
 obtain ⟨x, _, rfl⟩ := List.mem_map.1 hu
 rfl

structure HasI (w : World) (B : Nat) (A : Option Addr) (n c : Nat) (l : List Int) : Prop where
 len : l.length = n
 cap : n ≤ c
 fit : c ≤ maxLen
 void : A = none → c = 0
 has : Has w B A (l.map i64v)

section
variable {w w' : World} {B B' n c : Nat} {A : Option Addr} {l : List Int}
theorem HasI.keep (h : HasI w B A n c l) (hk : ∀ b o, b < B → w'.cell? ⟨b, o, none⟩ = w.cell? ⟨b, o, none⟩) : HasI w' B A n c l := ⟨h.len, h.cap, h.fit, h.void, h.has.keep hk⟩
theorem HasI.more (h : HasI w B A n c l) (hB : B ≤ B') : HasI w B' A n c l := ⟨h.len, h.cap, h.fit, h.void, h.has.more hB⟩
theorem HasI.below {C : Nat} (h : HasI w B A n c l) (hb : Below C w w') (hC : B ≤ C) : HasI w' B A n c l := ⟨h.len, h.cap, h.fit, h.void, h.has.below hb hC⟩
theorem HasI.alloc (h : HasI w B A n c l) (hB : B ≤ w.heap.size) (o : Obj) : HasI (w.alloc o) B A n c l :=
 h.keep fun b k hp => World.cell?_alloc_lt w o ⟨b, k, none⟩ (by show b < _; omega)
theorem HasI.belowS (h : HasI w w.heap.size A n c l) (hb : Below w.heap.size w w') : HasI w' w'.heap.size A n c l := (h.below hb (Nat.le_refl _)).more hb.size
theorem HasI.lenMax (h : HasI w B A n c l) : n ≤ 9223372036854775807 := by
 have h1 := h.cap; have h2 := h.fit
 unfold maxLen at h2; omega
theorem HasI.at_ (h : HasI w B A n c l) {k : Nat} (hk : k < n) :
  ∃ b o x, A = some ⟨b, o, none⟩ ∧ b < B ∧ w.cell? ⟨b, o + k, none⟩ = some (.int .i64 x) ∧ Hid (x = l.getD k 0) := by
 obtain ⟨hl, _, _, _, hh⟩ := h
 obtain ⟨b, o, e, hb, hc⟩ := hh (by simp; omega)
 refine ⟨b, o, l.getD k 0, e, hb, hc k _ ?_, Lib.hid rfl⟩
 simp [i64v, List.getElem?_map, List.getD_eq_getElem?_getD, List.getElem?_eq_getElem (show k < l.length by omega)]
end

theorem HasI.of_row {w : World} {a : Option Addr} {n c : Nat} {zs : List Int}
  (h : (a = none ∧ n = 0 ∧ c = 0 ∧ zs = []) ∨ ∃ x, a = some x ∧ n ≤ c ∧ c ≤ maxLen ∧ zs.length = c ∧ (∀ i, i < zs.length → w.cell? (x.add i) = some (.int .i64 (zs.getD i 0))) ∧ ∀ k ∈ zs, (Lit.int .i64 k).wf = true) :
  ∃ l, HasI w w.heap.size a n c l ∧ ∀ x ∈ l, -9223372036854775808 ≤ x ∧ x ≤ 9223372036854775807 := by
 rcases h with ⟨rfl, rfl, rfl, rfl⟩ | ⟨x, rfl, hl, hm, hz, hcell, hwz⟩
 ·exact ⟨[], ⟨rfl, Nat.le_refl _, Nat.zero_le _, fun _ => rfl, Has.nil_⟩, fun x hx => by simp at hx⟩
 ·refine ⟨zs.take n, ⟨by simp; omega, hl, hm, (fun h => by cases h), fun hn => ?_⟩, fun x hx => i64_of_wf (hwz x (List.mem_of_mem_take hx))⟩
  simp only [List.length_map, List.length_take] at hn
  obtain ⟨b, o, spot⟩ := x
  have h0 := hcell 0 (by omega)
  have hs : spot = none := by simpa [Addr.add] using World.cell?_spot h0
  subst hs
  refine ⟨b, o, rfl, World.block_lt_of_cell? w _ h0, fun j u hu => ?_⟩
  rw [List.getElem?_map, List.getElem?_take] at hu
  split at hu
  ·rename_i hj
   have hjz : j < zs.length := by omega
   rw [List.getElem?_eq_getElem hjz] at hu
   have hc := hcell j hjz
   rw [add_flat] at hc
   rw [hc, ← hu]
   simp [List.getD_eq_getElem?_getD, List.getElem?_eq_getElem hjz, i64v]
  ·cases hu
def OwnI (w : World) (base : Nat) (v : Value) (l : List Int) : Prop := w.ownsRow base 3 1 v l.length (l.map i64v)

section
variable {w w' : World} {base : Nat} {v : Value} {l : List Int}
theorem OwnI.nil_ (w : World) (base : Nat) : OwnI w base (.slice none 0 0) [] := World.ownsRow_nil w base _ 1
theorem OwnI.form (h : OwnI w base v l) : ∃ A c, v = .slice A l.length c ∧ HasI w w.heap.size A l.length c l ∧ (∀ a, A = some a → base ≤ a.block) := by
 rcases h.2 with ⟨rfl, h0⟩ | ⟨g, cap, cur, rfl, hb, hg, hnc, hcm, hcs, ht⟩
 ·have hl : l = [] := List.eq_nil_of_length_eq_zero h0
  subst hl
  exact ⟨none, 0, rfl, ⟨rfl, Nat.le_refl _, Nat.zero_le _, fun _ => rfl, Has.nil_⟩, fun _ h => by cases h⟩
 ·have hlt : g < w.heap.size := (Array.getElem?_eq_some_iff.1 hg).1
  refine ⟨_, cap, rfl, ⟨rfl, hnc, hcm, (fun h => by cases h), fun _ => ⟨g, 0, rfl, hlt, fun j u hu => ?_⟩⟩, fun a ha => by injection ha with ha; subst ha; exact hb⟩
  have := World.ownsRow.cells h (g := g) rfl j u hu
  rwa [add_flat] at this
theorem OwnI.formN (h : OwnI w base v l) : ∃ A n c, v = .slice A n c ∧ HasI w w.heap.size A n c l ∧ (∀ a, A = some a → base ≤ a.block) := by
 obtain ⟨A, c, h1, h2, h3⟩ := h.form
 exact ⟨A, _, c, h1, h2, h3⟩
theorem OwnI.kept {row : Option Nat} (h : OwnI w base v l) (hg : w.grownBy w' row) (hne : v.ownBlock = none ∨ v.ownBlock ≠ row) : OwnI w' base v l := World.ownsRow.kept h hg hne
theorem OwnI.alloc (h : OwnI w base v l) (o : Obj) : OwnI (w.alloc o) base v l := World.ownsRow.alloc h o
theorem OwnI.drewN (h : OwnI w base v l) (k : Nat) : OwnI (w.drewN k) base v l := h
theorem OwnI.lt (h : OwnI w base v l) : ∀ k, v.ownBlock = some k → base ≤ k ∧ k < w.heap.size := World.ownsRow.lt h
theorem OwnI.below {C : Nat} (h : OwnI w base v l) (hb : Below C w w') (hC : w.heap.size ≤ C) : OwnI w' base v l :=
 World.ownsRow.kept (row := none) h ⟨hb.os, hb.tape, hb.output, hb.size, fun k hk _ => hb.block k (by omega)⟩ (by cases v.ownBlock <;> simp)
theorem OwnI.low {base' : Nat} (h : OwnI w base v l) (hb : base' ≤ base) : OwnI w base' v l := row_low h hb
end

/-! ### What only makes new memory, step by step; a new variable that holds a struct -/
theorem below_then {a b c : World} (h : Below a.heap.size a b) (h' : Below b.heap.size b c) : Below a.heap.size a c := h.trans (h'.mono h.size)
theorem below_a1 (w : World) (o : Obj) : Below w.heap.size w (w.alloc o) := (Below.refl _ _).alloc (Nat.le_refl _) o
theorem below_a2 (w : World) (o p : Obj) : Below w.heap.size w ((w.alloc o).alloc p) := below_then (below_a1 w o) (below_a1 _ p)
theorem Block.elsewhere {w : World} {g : Nat} {e : TypeId} {cs : Array Value} (h : Block w g e cs) (b i : Nat) (u : Value) (hne : b ≠ g) : Block (w.setCell ⟨b, i, none⟩ u) g e cs := by
 have h' : w.heap[g]? = some (.cells cs e (0, 0)) := h
 unfold Block
 simp [World.setCell, Array.getElem?_modify, h', hne]

theorem results_block1 {P : Program} {fn : Func} {p : Tmp} {ty : TypeId} (h : fn.results = #[.cell p ty]) (tmps : Array Value) (w : World) (g : Nat) (cs : Array Value) (d : TypeDesc)
  (hp : tmps.getD p undef = .pointer (some ⟨g, 0, none⟩)) (hb : Block w g ty cs)
  (hu : P.underlying ty = some d) (hd : (match d with | .struct _ | .array _ _ => true | _ => false) = true) (hi : (P.info? ty).map (·.size) = some cs.size) :
  (results fn tmps).run P w = .ok (.agg cs) w := by
 have hp' : tmps[p]?.getD undef = .pointer (some ⟨g, 0, none⟩) := by simpa using hp
 simp [results, h, hp', asAddr, run_loadVar_row w g ty ty cs (0, 0) d hb hu hd hi]
theorem info_int : (Tryd.prog.info? 3).map (fun i => (i.zero, i.size, i.bytes)) = some (some (.int .i64 0), 1, 8) := by kernel_rfl
end Go.Proofs.YtmcccpbpijnbmaaDoor
namespace Go.Proofs.YtmcccpbpijnbmaaDoor
set_option maxRecDepth 100000
open Go.RowKit

theorem info_u8 : (Tryd.prog.info? 5).map (fun i => (i.zero, i.size, i.bytes)) = some (some (.int .u8 0), 1, 1) := by kernel_rfl

theorem OwnB.empty (w : World) (e : TypeId) : OwnB (w.alloc (.cells #[] e)) w.heap.size e (.slice (some ⟨w.heap.size, 0, none⟩) 0 0) [] :=
 ⟨rfl, .inr ⟨w.heap.size, 0, #[], rfl, Nat.le_refl _, heap_alloc_new w _, Nat.le_refl _, Nat.zero_le _, rfl, rfl⟩⟩
theorem clone_any (A : Option Addr) (n c : Nat) (l : List UInt8) (w : World) (hr : HasB w w.heap.size A n c l) (hn : n ≤ 140737488355328) :
  Calls Tryd.prog 17 #[.slice A n c] w fun x w' => (∃ v', x = .returned v' ∧ OwnB w' w.heap.size 5 v' l) ∧ Below w.heap.size w w' := by
 obtain ⟨i0, hi, hz0, hz1, hz2⟩ := info_parts info_u8
 rcases A with _ | ad
 ·obtain rfl := hr.void rfl
  obtain rfl : n = 0 := by have := hr.cap; omega
  obtain rfl : l = [] := List.eq_nil_of_length_eq_zero hr.len
  have q : ∀ W, (binOp .eql 22 (.slice none 0 0) (.slice none 0 0)).run Tryd.prog W = .ok (.bool true) W := fun W => Lib.run_eql_slice_nil W _ _ none 0 0 0 0 Tryd.underlying22
  go_enter Tryd.func17, Tryd.ntmps17
  go_wp2
  go_ret
  exact ⟨⟨_, rfl, OwnB.nil_ _ _ _⟩, Below.refl _ _⟩
 ·have q : ∀ W, (binOp .eql 22 (.slice (some ad) n c) (.slice none 0 0)).run Tryd.prog W = .ok (.bool false) W := fun W => Lib.run_eql_slice_nil W _ _ (some ad) n c 0 0 Tryd.underlying22
  have hr1 := hr.alloc (Nat.le_refl _) (.cells #[] 5)
  have Hn := Lib.hid hn
  clear hn
  go_enter Tryd.func17, Tryd.ntmps17
  go_wp2_with (at_builtin; refine wpList_app4 _ rfl _ _ 22 rfl w.heap.size 5 i0 (.int .u8 0) Tryd.underlying22 hi hz0 hz1 hz2 rfl _ [] rfl (OwnB.empty w 5) w.heap.size _ n _ l rfl hr1 (by simpa using Hn.out) (by simp) ?_)
  intro v2 w2 ho2 hg2
  have hb2 : Below w.heap.size w w2 := ((Below.refl _ _).alloc (Nat.le_refl _) (.cells #[] 5)).trans (hg2.below_ (by simp) (fun k hk => by injection hk with hk; subst hk; exact Nat.le_refl _))
  have H := Lib.hid ho2
  clear ho2 hg2
  go_wp2
  go_ret
  exact ⟨⟨v2, rfl, H.out⟩, hb2⟩
end Go.Proofs.YtmcccpbpijnbmaaDoor
namespace Go.Proofs.YtmcccpbpijnbmaaDoor
set_option maxRecDepth 100000
open Go.RowKit

theorem wpList_appI {w : World} {ops : Array Oper} {rest : List Oper} {o : Oper} {a : Act} {Q : Exit → Act → World → Prop} (hgd : o.guard = none) (s x : Operand)
  (ho : o.op = .call { callee := .builtin .append, args := #[s, x], argTypes := #[29, 29] })
  (base : Nat) (v : Value) (l : List Int) (hs : a.eval s = v) (hown : OwnI w base v l) (g : Nat) (hx : a.eval x = .slice (some ⟨g, 0, none⟩) 1 1) (y : Int) (hy : w.cell? ⟨g, 0, none⟩ = some (.int .i64 y)) (hl : l.length ≤ 1000000) (hbase : base ≤ w.heap.size)
  (h : ∀ v' w', OwnI w' base v' (l ++ [y]) → Grew w v w' v' → wpList Tryd.prog ops Q rest (a.put o.dst v') w') : wpList Tryd.prog ops Q (o :: rest) a w := by
 obtain ⟨i, hi, hz0, hz1, hz2⟩ := info_parts info_int
 refine wpList_append_own_at w hgd s x 29 ho base 3 i _ 1 8 Tryd.underlying29 hi hz0 hz1 hz2 rfl (by decide) v l.length (l.map i64v) hs hown ⟨g, 0, none⟩ 1 1 [.int .i64 y] hx rfl (fun j u hj => ?_) (fun u hu => ?_) (by unfold maxLen; omega) (by omega) hbase ?_
 ·match j, hj with
  | 0, hj => simp at hj; subst hj; rw [add_flat]; exact hy
  | (j + 1), hj => simp at hj
 ·simp at hu; subst hu; rfl
 ·intro v' w' h1 h2 _ h4
  refine h v' w' (by unfold OwnI; simpa [i64v] using h1) ⟨h2, fun k hk => ?_⟩
  rcases h4 with h4 | h4
  ·exact .inl (h4 ▸ hk)
  ·rw [h4] at hk
   injection hk with hk
   exact .inr (Nat.le_of_eq hk)
theorem step_appI {w : World} {ops : Array Oper} {o : Oper} {a : Act} {Q : Exit → Act → World → Prop} {K : Act → World → Prop} {F : Prop} (hgd : o.guard = none) (s x : Operand)
  (ho : o.op = .call { callee := .builtin .append, args := #[s, x], argTypes := #[29, 29] })
  (base : Nat) (v : Value) (l : List Int) (hs : a.eval s = v) (hown : OwnI w base v l) (g : Nat) (hx : a.eval x = .slice (some ⟨g, 0, none⟩) 1 1) (y : Int) (hy : w.cell? ⟨g, 0, none⟩ = some (.int .i64 y)) (hl : l.length ≤ 1000000) (hbase : base ≤ w.heap.size)
  (h : ∀ v' w', OwnI w' base v' (l ++ [y]) → Grew w v w' v' → K (a.put o.dst v') w') :
  if Region.wanted o (yielded ops a.tmps) = true then Oper.wp Tryd.prog o a w K Q else F := by
 have hw : Region.wanted o (yielded ops a.tmps) = true := by simp [Region.wanted, hgd]
 rw [if_pos hw]
 obtain ⟨i, hi, hz0, hz1, hz2⟩ := info_parts info_int
 obtain ⟨v', w', hrun, h2, h3, _, h5⟩ := run_append_own_at (P := Tryd.prog) w base 29 o.type 3 i _ 1 8 Tryd.underlying29 hi hz0 hz1 hz2 rfl (by decide) v l.length (l.map i64v) hown ⟨g, 0, none⟩ 1 1 [.int .i64 y] rfl (fun j u hj => by
  match j, hj with
  | 0, hj => simp at hj; subst hj; rw [add_flat]; exact hy
  | (j + 1), hj => simp at hj) (fun u hu => by simp at hu; subst hu; rfl) (by unfold maxLen; omega) (by omega) hbase
 unfold Oper.wp execOp
 simp only [ho, resolve, invoke, builtin, Sem.run_bind, Sem.run_pure, Result.andThen_ok, List.map_toArray, List.map_cons, List.map_nil, hs, hx, hrun]
 refine h v' w' (by unfold OwnI; simpa [i64v] using h2) ⟨h3, fun q hq => ?_⟩
 rcases h5 with h5 | h5
 ·exact .inl (h5 ▸ hq)
 ·rw [h5] at hq
  injection hq with hq
  exact .inr (Nat.le_of_eq hq)
theorem cell_lit (w : World) (y : Int) (t : TypeId) (g : Nat) (hg : g = w.heap.size) : (w.alloc (.cells #[.int .i64 y] t)).cell? ⟨g, 0, none⟩ = some (.int .i64 y) := by
 subst hg
 rw [cell_new]; rfl
section
variable {w w' : World} {base : Nat} {v : Value} {l : List Int}
theorem OwnI.len_ {A : Option Addr} {n cap : Nat} (h : OwnI w base (.slice A n cap) l) : l.length = n := by
 obtain ⟨A', c', e', _⟩ := h.form
 injection e' with _ e2 _
 exact e2.symm
theorem OwnI.cell_ {g n cap : Nat} (h : OwnI w base (.slice (some ⟨g, 0, none⟩) n cap) l) (j : Nat) (hj : j < l.length) : w.cell? ⟨g, j, none⟩ = some (.int .i64 (l.getD j 0)) := by
 have hc := World.ownsRow.cells h (g := g) rfl j (i64v (l.getD j 0)) (by simp [List.getElem?_map, List.getD_eq_getElem?_getD, List.getElem?_eq_getElem hj])
 rwa [add_flat, Nat.zero_add] at hc
theorem OwnI.free {g n cap : Nat} (h : OwnI w base (.slice (some ⟨g, 0, none⟩) n cap) l) (j : Nat) : w.frozen? ⟨g, j, none⟩ = false := by
 have hn := h.len_
 unfold OwnI at h
 rw [hn] at h
 exact World.ownsRow.frozenAt h j
theorem OwnI.set_ {g n cap : Nat} (h : OwnI w base (.slice (some ⟨g, 0, none⟩) n cap) l) (j : Nat) (u : Int) : OwnI (w.setCell ⟨g, j, none⟩ (.int .i64 u)) base (.slice (some ⟨g, 0, none⟩) n cap) (l.set j u) := by
 have hn := h.len_
 unfold OwnI at h ⊢
 rw [List.length_set, List.map_set, hn]
 rw [hn] at h
 exact (World.ownsRow.stored h j (i64v u)).1
theorem OwnI.other (h : OwnI w base v l) {g j : Nat} (hg : v.ownBlock ≠ some g) (u : Value) : OwnI (w.setCell ⟨g, j, none⟩ u) base v l := ownsRow_setCell_other h (a := ⟨g, j, none⟩) hg u
theorem OwnI.has {A : Option Addr} {n c : Nat} (h : OwnI w base (.slice A n c) l) : HasI w w.heap.size A n c l := by
 obtain ⟨A', n', c', e', h', _⟩ := h.formN
 injection e' with e1 e2 e3
 subst e1 e2 e3
 exact h'
end

theorem OwnI.formP {w : World} {base : Nat} {v : Value} {l : List Int} (h : OwnI w base v l) (hl : 0 < l.length) :
  ∃ g c, v = .slice (some ⟨g, 0, none⟩) l.length c ∧ base ≤ g ∧ g < w.heap.size ∧ l.length ≤ c ∧ c ≤ 9223372036854775807 ∧ ∀ j, j < l.length → w.cell? ⟨g, j, none⟩ = some (.int .i64 (l.getD j 0)) := by
 rcases h.2 with ⟨_, h0⟩ | ⟨g, cap, cur, rfl, hb, hg, hnc, hcm, _⟩
 ·omega
 ·exact ⟨g, cap, rfl, hb, (Array.getElem?_eq_some_iff.1 hg).1, hnc, by unfold maxLen at hcm; omega, fun j hj => h.cell_ j hj⟩
theorem wpList_appIs {w : World} {ops : Array Oper} {rest : List Oper} {o : Oper} {a : Act} {Q : Exit → Act → World → Prop} (hgd : o.guard = none) (s x : Operand)
  (ho : o.op = .call { callee := .builtin .append, args := #[s, x], argTypes := #[29, 29] })
  (base : Nat) (v : Value) (l : List Int) (hs : a.eval s = v) (hown : OwnI w base v l) (B : Nat) (A : Option Addr) (m c : Nat) (news : List Int) (hx : a.eval x = .slice A m c) (hr : HasI w B A m c news) (hbytes : (l.length + m) * 8 ≤ 140737488355328) (hbase : base ≤ w.heap.size)
  (h : ∀ v' w', OwnI w' base v' (l ++ news) → Grew w v w' v' → wpList Tryd.prog ops Q rest (a.put o.dst v') w') : wpList Tryd.prog ops Q (o :: rest) a w := by
 obtain ⟨i, hi, hz0, hz1, hz2⟩ := info_parts info_int
 have hml := hr.len
 have hmap : (l ++ news).map i64v = l.map i64v ++ news.map i64v := List.map_append
 have key : ∃ v' w', (Builtin.append_ #[29, 29] o.type #[v, .slice A m c]).run Tryd.prog w = .ok v' w' ∧ OwnI w' base v' (l ++ news) ∧ Grew w v w' v' := by
  rcases A with _ | ad
  ·obtain rfl := hr.void rfl
   have hc := hr.cap
   obtain rfl : m = 0 := by omega
   obtain rfl : news = [] := List.eq_nil_of_length_eq_zero hml
   exact ⟨v, w, run_append_owned_none (P := Tryd.prog) (w := w) base 29 o.type 3 i 1 Tryd.underlying29 hi v l.length (l.map i64v) hown, by rw [List.append_nil]; exact hown, Grew.refl w v⟩
  ·have hcells : ∀ j u, (news.map i64v)[j]? = some u → w.cell? (ad.add j) = some u := by
    intro j u hu
    have hj : j < (news.map i64v).length := by
     rcases Nat.lt_or_ge j (news.map i64v).length with h1 | h1
     ·exact h1
     ·rw [List.getElem?_eq_none h1] at hu; cases hu
    obtain ⟨b, o', e', _, hc⟩ := hr.has (by omega)
    injection e' with e'
    subst e'
    rw [add_flat]
    exact hc j u hu
   obtain ⟨v', w', h1, h2, h3, _, h5⟩ := run_append_own_at (P := Tryd.prog) w base 29 o.type 3 i _ 1 8 Tryd.underlying29 hi hz0 hz1 hz2 rfl (by decide) v l.length (l.map i64v) hown ad m c (news.map i64v) (by simp [hml]) hcells (i64v_one news) (by unfold maxLen; omega) (by omega) hbase
   refine ⟨v', w', h1, by unfold OwnI; rw [hmap, List.length_append, hml]; exact h2, h3, fun k hk => ?_⟩
   rcases h5 with h5 | h5
   ·exact .inl (h5 ▸ hk)
   ·rw [h5] at hk
    injection hk with hk
    exact .inr (Nat.le_of_eq hk)
 obtain ⟨v', w', hrun, h2, h3⟩ := key
 refine wpList_plain hgd fun K hK => ?_
 unfold Oper.wp execOp
 simp only [ho, resolve, invoke, builtin, Sem.run_bind, Sem.run_pure, Result.andThen_ok, List.map_toArray, List.map_cons, List.map_nil, hs, hx, hrun]
 exact hK _ _ (h v' w' h2 h3)

end Go.Proofs.YtmcccpbpijnbmaaDoor
namespace Go.Proofs.YtmcccpbpijnbmaaDoor
set_option maxRecDepth 100000
open Go.RowKit

end Go.Proofs.YtmcccpbpijnbmaaDoor
namespace Go.Proofs.YtmcccpbpijnbmaaDoor
set_option maxRecDepth 100000
open Go.RowKit

/-! ### A region that draws its order, reads, and calls what only makes memory: one walk -/
structure Bel (W : World) where
 w : World
 b : Below W.heap.size W w
instance (W : World) : Nonempty (Bel W) := ⟨⟨W, Below.refl _ _⟩⟩
theorem wp_region_below {P : Program} {id : Nat} {Q : Exit → Act → World → Prop} {a : Act} {W : World} {l : List Oper} (hm : P.follows .mixedOrders = true) (hB : Region.lexB .any l.toArray = true)
  (h : wpQuiet P l.toArray (fun w' => ∃ y : Bel W, w' = y.w) (fun a' => ∀ w', (∃ y : Bel W, w' = y.w) → Q .normal a' w') l a) : (Code.region id l.toArray true).wp P Q a W :=
 wp_region_quiet (C := fun w' => ∃ y : Bel W, w' = y.w) hm hB ⟨⟨_, Below.drew (Below.refl _ _)⟩, rfl⟩ (by simpa using h)
theorem Bel.cell {W : World} (y : Bel W) {b o : Nat} {v : Value} (h : W.cell? ⟨b, o, none⟩ = some v) : y.w.cell? ⟨b, o, none⟩ = some v :=
 (y.b.cell (p := ⟨b, o, none⟩) (World.block_lt_of_cell? W _ h)).trans h
theorem Bel.calls {P : Program} {f : FuncId} {args : Array Value} {v : Value} {W : World} (y : Bel W) (h : ∀ w, Below W.heap.size W w → Calls P f args w fun e w' => e = .returned v ∧ Below w.heap.size w w') :
  Calls P f args y.w fun e w'' => e = .returned v ∧ ∃ z : Bel W, w'' = z.w :=
 (h y.w y.b).mono fun _ w' ⟨he, hb⟩ => ⟨he, ⟨w', below_then y.b hb⟩, rfl⟩

end Go.Proofs.YtmcccpbpijnbmaaDoor
