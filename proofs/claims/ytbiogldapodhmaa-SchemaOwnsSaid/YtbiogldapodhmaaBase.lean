/- Words on memory that all texts of this seat use: what a slice holds, rows of the call's own, bytes. -/
import Derived.WalkKit
import Derived.Below
import Derived.Lib.Hide
import Derived.Laws.OwnMore
import Derived.Laws.AppendOwnNone
import Derived.Laws.BitsAllLaws
import Derived.OwnWalk
import Derived.Deep.Draws
import Derived.Shelf.Bytes.SlSmallAll
namespace Go.Proofs.Ytbiogldapodhmaa
open Go.RowKit

/-- The address A leads to the cells xs, in a block below B (if there is one). -/
def Has (w : World) (B : Nat) (A : Option Addr) (xs : List Value) : Prop :=
  0 < xs.length → ∃ b o, A = some ⟨b, o, none⟩ ∧ b < B ∧ ∀ j u, xs[j]? = some u → w.cell? ⟨b, o + j, none⟩ = some u

section
variable {w w' : World} {B B' : Nat} {A : Option Addr} {xs : List Value}
theorem Has.nil_ : Has w B A [] := fun h => absurd h (by simp)
theorem Has.keep (h : Has w B A xs) (hk : ∀ b o, b < B → w'.cell? ⟨b, o, none⟩ = w.cell? ⟨b, o, none⟩) : Has w' B A xs := fun hn => by
  obtain ⟨b, o, e, hb, hc⟩ := h hn
  exact ⟨b, o, e, hb, fun j u hu => (hk b _ hb).trans (hc j u hu)⟩
theorem Has.more (h : Has w B A xs) (hB : B ≤ B') : Has w B' A xs := fun hn => by
  obtain ⟨b, o, e, hb, hc⟩ := h hn
  exact ⟨b, o, e, Nat.lt_of_lt_of_le hb hB, hc⟩
theorem Has.below {C : Nat} (h : Has w B A xs) (hb : Below C w w') (hC : B ≤ C) : Has w' B A xs :=
  h.keep fun b o hp => hb.cell (p := ⟨b, o, none⟩) (Nat.lt_of_lt_of_le hp hC)
theorem Has.grown {row : Option Nat} (h : Has w B A xs) (hg : w.grownBy w' row) (hB : B ≤ w.heap.size) (hr : ∀ g, row = some g → B ≤ g) : Has w' B A xs :=
  h.keep fun b o hp => World.cell?_of_block (hg.block b (by omega) (fun e => by have := hr _ e.symm; omega))
theorem Has.take_ (h : Has w B A xs) (k : Nat) : Has w B A (xs.take k) := fun hn => by
  obtain ⟨b, o, e, hb, hc⟩ := h (by have := List.length_take_le k xs; have : (xs.take k).length ≤ xs.length := List.length_take_le' k xs; omega)
  refine ⟨b, o, e, hb, fun j u hu => hc j u ?_⟩
  rw [List.getElem?_take] at hu
  split at hu
  · exact hu
  · cases hu
theorem add_flat (b o j : Nat) : (⟨b, o, none⟩ : Addr).add j = ⟨b, o + j, none⟩ := by
  unfold Addr.add
  split
  · simp [*]
  · rfl
theorem Has.drop_ (h : Has w B A xs) (k : Nat) (hk : k < xs.length) : Has w B (A.map (·.add k)) (xs.drop k) := fun hn => by
  obtain ⟨b, o, rfl, hb, hc⟩ := h (by omega)
  refine ⟨b, o + k, by simp [add_flat], hb, fun j u hu => ?_⟩
  rw [Nat.add_assoc]
  exact hc _ u (by rw [← hu, List.getElem?_drop])
end

theorem below_drewN {B : Nat} {a w : World} (h : Below B a w) (k : Nat) : Below B a (w.drewN k) := ⟨h.os, h.tape, h.output, h.size, h.block⟩

/-- A byte as the model has it. -/
def byt (u : UInt8) : Value := .int .u8 (u.toNat : Int)
theorem byt_one (l : List UInt8) : ∀ u ∈ l.map byt, u.oneCell' = true := by
  intro u hu
  obtain ⟨x, _, rfl⟩ := List.mem_map.1 hu
  rfl

/-- The slice value '.slice A n c' reads as the bytes l. -/
structure HasB (w : World) (B : Nat) (A : Option Addr) (n c : Nat) (l : List UInt8) : Prop where
  len : l.length = n
  cap : n ≤ c
  fit : c ≤ maxLen
  void : A = none → c = 0
  has : Has w B A (l.map byt)

section
variable {w w' : World} {B B' n c : Nat} {A : Option Addr} {l : List UInt8}
theorem HasB.keep (h : HasB w B A n c l) (hk : ∀ b o, b < B → w'.cell? ⟨b, o, none⟩ = w.cell? ⟨b, o, none⟩) : HasB w' B A n c l := ⟨h.len, h.cap, h.fit, h.void, h.has.keep hk⟩
theorem HasB.more (h : HasB w B A n c l) (hB : B ≤ B') : HasB w B' A n c l := ⟨h.len, h.cap, h.fit, h.void, h.has.more hB⟩
theorem HasB.below {C : Nat} (h : HasB w B A n c l) (hb : Below C w w') (hC : B ≤ C) : HasB w' B A n c l := ⟨h.len, h.cap, h.fit, h.void, h.has.below hb hC⟩
theorem HasB.grown {row : Option Nat} (h : HasB w B A n c l) (hg : w.grownBy w' row) (hB : B ≤ w.heap.size) (hr : ∀ g, row = some g → B ≤ g) : HasB w' B A n c l := ⟨h.len, h.cap, h.fit, h.void, h.has.grown hg hB hr⟩
theorem HasB.drew (h : HasB w B A n c l) : HasB w.drew B A n c l := ⟨h.len, h.cap, h.fit, h.void, h.has⟩
theorem HasB.drewN (h : HasB w B A n c l) (k : Nat) : HasB (w.drewN k) B A n c l := ⟨h.len, h.cap, h.fit, h.void, h.has⟩
theorem HasB.alloc (h : HasB w B A n c l) (hB : B ≤ w.heap.size) (o : Obj) : HasB (w.alloc o) B A n c l :=
  h.keep fun b k hp => World.cell?_alloc_lt w o ⟨b, k, none⟩ (by show b < _; omega)
theorem HasB.allocS (h : HasB w w.heap.size A n c l) (o : Obj) : HasB (w.alloc o) (w.alloc o).heap.size A n c l := (h.alloc (Nat.le_refl _) o).more (by simp)
theorem HasB.belowS (h : HasB w w.heap.size A n c l) (hb : Below w.heap.size w w') : HasB w' w'.heap.size A n c l := (h.below hb (Nat.le_refl _)).more hb.size
theorem HasB.lenMax (h : HasB w B A n c l) : n ≤ 9223372036854775807 := by
  have h1 := h.cap; have h2 := h.fit
  unfold maxLen at h2; omega
theorem HasB.capMax (h : HasB w B A n c l) : c ≤ 9223372036854775807 := by
  have h2 := h.fit
  unfold maxLen at h2; omega
theorem HasB.at_ (h : HasB w B A n c l) {k : Nat} (hk : k < n) :
    ∃ b o q, A = some ⟨b, o, none⟩ ∧ b < B ∧ w.cell? ⟨b, o + k, none⟩ = some (.int .u8 (q : Nat)) ∧ q < 256 ∧ Hid (q = (l.getD k 0).toNat) := by
  obtain ⟨hl, _, _, _, hh⟩ := h
  obtain ⟨b, o, e, hb, hc⟩ := hh (by simp; omega)
  refine ⟨b, o, (l.getD k 0).toNat, e, hb, hc k _ ?_, (l.getD k 0).toNat_lt, Lib.hid rfl⟩
  simp [byt, List.getElem?_map, List.getD_eq_getElem?_getD, List.getElem?_eq_getElem (show k < l.length by omega)]
theorem HasB.take_ (h : HasB w B A n c l) (k : Nat) (hk : k ≤ n) : HasB w B A k c (l.take k) :=
  ⟨by have := h.len; rw [List.length_take]; omega, by have := h.cap; omega, h.fit, h.void, by rw [List.map_take]; exact h.has.take_ k⟩
/-- What a cut leaves: its address is the model's. -/
theorem HasB.drop_ (h : HasB w B A n c l) (k : Nat) (hk : k ≤ n) : HasB w B (if c = k then A else A.map (·.add (k * 1))) (n - k) (c - k) (l.drop k) := by
  have hl := h.len; have hc := h.cap; have hf := h.fit
  refine ⟨by rw [List.length_drop]; omega, by omega, by omega, fun hA => ?_, ?_⟩
  · split at hA
    · omega
    · rcases A with _ | a
      · have := h.void rfl; omega
      · cases hA
  rw [List.map_drop]
  by_cases hkn : k = n
  · intro hn
    simp at hn
    omega
  · rw [if_neg (by omega), Nat.mul_one]
    exact h.has.drop_ k (by simp; omega)
end

theorem u8_of_wf {x : Int} (h : (Lit.int .u8 x).wf = true) : 0 ≤ x ∧ x < 256 := by
  have h1 : IntKind.u8.min = 0 := rfl
  have h2 : IntKind.u8.max = 255 := rfl
  simp only [Lit.wf, Bool.and_eq_true, decide_eq_true_eq] at h
  omega
theorem u32_of_wf {x : Int} (h : (Lit.int .u32 x).wf = true) : 0 ≤ x ∧ x < 4294967296 := by
  have h1 : IntKind.u32.min = 0 := rfl
  have h2 : IntKind.u32.max = 4294967295 := rfl
  simp only [Lit.wf, Bool.and_eq_true, decide_eq_true_eq] at h
  omega
theorem i64_of_wf {x : Int} (h : (Lit.int .i64 x).wf = true) : -9223372036854775808 ≤ x ∧ x ≤ 9223372036854775807 := by
  have h1 : IntKind.i64.min = -9223372036854775808 := rfl
  have h2 : IntKind.i64.max = 9223372036854775807 := rfl
  simp only [Lit.wf, Bool.and_eq_true, decide_eq_true_eq] at h
  omega
/-- What came in as a slice of bytes. -/
theorem HasB.of_row {w : World} {a : Option Addr} {n c : Nat} {zs : List Int}
    (h : (a = none ∧ n = 0 ∧ c = 0 ∧ zs = []) ∨ ∃ x, a = some x ∧ n ≤ c ∧ c ≤ maxLen ∧ zs.length = c ∧ (∀ i, i < zs.length → w.cell? (x.add i) = some (.int .u8 (zs.getD i 0))) ∧ ∀ k ∈ zs, (Lit.int .u8 k).wf = true) :
    ∃ l, HasB w w.heap.size a n c l := by
  rcases h with ⟨rfl, rfl, rfl, rfl⟩ | ⟨x, rfl, hl, hm, hz, hcell, hwz⟩
  · exact ⟨[], rfl, Nat.le_refl _, Nat.zero_le _, fun _ => rfl, Has.nil_⟩
  · refine ⟨(zs.take n).map fun k => UInt8.ofNat k.toNat, by simp; omega, hl, hm, (fun h => by cases h), fun hn => ?_⟩
    simp only [List.length_map, List.length_take] at hn
    obtain ⟨b, o, spot⟩ := x
    have h0 := hcell 0 (by omega)
    have hs : spot = none := by simpa [Addr.add] using World.cell?_spot h0
    subst hs
    refine ⟨b, o, rfl, World.block_lt_of_cell? w _ h0, fun j u hu => ?_⟩
    rw [List.map_map, List.getElem?_map, List.getElem?_take] at hu
    split at hu
    · rename_i hj
      have hjz : j < zs.length := by omega
      rw [List.getElem?_eq_getElem hjz] at hu
      have hc := hcell j hjz
      rw [add_flat] at hc
      rw [hc, ← hu]
      have hw := hwz zs[j] (List.getElem_mem hjz)
      have hb : 0 ≤ zs[j] ∧ zs[j] < 256 := u8_of_wf hw
      simp only [List.getD_eq_getElem?_getD, List.getElem?_eq_getElem hjz, Option.getD_some, Option.map_some, Function.comp, byt, Option.some.injEq]
      congr 1
      rw [UInt8.toNat_ofNat']
      omega
    · cases hu

/-- A new block that is just these bytes. -/
theorem cell_new (w : World) (C : Array Value) (e : TypeId) (fr : Nat × Nat) (j : Nat) : (w.alloc (.cells C e fr)).cell? ⟨w.heap.size, j, none⟩ = C[j]? := by
  have h : (w.alloc (.cells C e fr)).heap[w.heap.size]? = some (.cells C e fr) := heap_alloc_new w _
  unfold World.cell?
  rw [h]
  rfl
theorem HasB.litAt (w : World) (l : List UInt8) (C : Array Value) (hC : C = (l.map byt).toArray) (e : TypeId) (fr : Nat × Nat) (n : Nat) (hn : n = l.length) (hl : n ≤ 9223372036854775807) (g : Nat) (hg : g = w.heap.size) :
    HasB (w.alloc (.cells C e fr)) (g + 1) (some ⟨g, 0, none⟩) n n l := by
  subst hC hn hg
  exact ⟨rfl, Nat.le_refl _, by unfold maxLen; omega, (fun h => by cases h), fun _ => ⟨w.heap.size, 0, rfl, by omega, fun j u hu => by
    rw [Nat.zero_add, cell_new]
    simpa using hu⟩⟩
theorem HasB.lit (w : World) (l : List UInt8) (e : TypeId) (hl : l.length ≤ 9223372036854775807) : HasB (w.alloc (.cells (l.map byt).toArray e)) (w.heap.size + 1) (some ⟨w.heap.size, 0, none⟩) l.length l.length l :=
  HasB.litAt w l _ rfl e (0, 0) _ rfl hl _ rfl

/-- Block g is just the cells cs, none of them frozen. -/
def Block (w : World) (g : Nat) (e : TypeId) (cs : Array Value) : Prop := w.heap[g]? = some (.cells cs e (0, 0))
section
variable {w w' : World} {g : Nat} {e : TypeId} {cs : Array Value}
theorem Block.lt (h : Block w g e cs) : g < w.heap.size := (Array.getElem?_eq_some_iff.1 h).1
theorem Block.cell (h : Block w g e cs) (i : Nat) : w.cell? ⟨g, i, none⟩ = cs[i]? := cell_of_row w g i cs e (0, 0) h
theorem Block.free (h : Block w g e cs) (i : Nat) : w.frozen? ⟨g, i, none⟩ = false := by
  have h' : w.heap[g]? = some (.cells cs e (0, 0)) := h
  simp [World.frozen?, h']
theorem Block.new (w : World) (e : TypeId) (cs : Array Value) : Block (w.alloc (.cells cs e)) w.heap.size e cs := heap_alloc_new w _
theorem Block.set_ (h : Block w g e cs) (i : Nat) (u : Value) : Block (w.setCell ⟨g, i, none⟩ u) g e (cs.setIfInBounds i u) := by
  have h' : w.heap[g]? = some (.cells cs e (0, 0)) := h
  unfold Block
  simp [World.setCell, Array.getElem?_modify, h']
theorem Block.drewN (h : Block w g e cs) (k : Nat) : Block (w.drewN k) g e cs := h
theorem Block.alloc (h : Block w g e cs) (o : Obj) : Block (w.alloc o) g e cs := (Below.heap_alloc w o g h.lt).trans h
theorem Block.below {B : Nat} (h : Block w g e cs) (hb : Below B w w') (hg : g < B) : Block w' g e cs := (hb.block g hg).trans h
theorem Block.grown {row : Option Nat} (h : Block w g e cs) (hb : w.grownBy w' row) (hg : row ≠ some g) : Block w' g e cs := (hb.block g h.lt (fun e => hg e.symm)).trans h
end

/-- A row of the call's own holds the bytes l. -/
def OwnB (w : World) (base : Nat) (e : TypeId) (v : Value) (l : List UInt8) : Prop := w.ownsRow base e 1 v l.length (l.map byt)

section
variable {w w' : World} {base : Nat} {e : TypeId} {v : Value} {l : List UInt8}
theorem OwnB.nil_ (w : World) (base : Nat) (e : TypeId) : OwnB w base e (.slice none 0 0) [] := World.ownsRow_nil w base e 1
theorem OwnB.form (h : OwnB w base e v l) : ∃ A c, v = .slice A l.length c ∧ HasB w w.heap.size A l.length c l ∧ (∀ a, A = some a → base ≤ a.block) := by
  rcases h.2 with ⟨rfl, h0⟩ | ⟨g, cap, cur, rfl, hb, hg, hnc, hcm, hcs, ht⟩
  · have hl : l = [] := List.eq_nil_of_length_eq_zero h0
    subst hl
    exact ⟨none, 0, rfl, ⟨rfl, Nat.le_refl _, Nat.zero_le _, fun _ => rfl, Has.nil_⟩, fun _ h => by cases h⟩
  · have hlt : g < w.heap.size := (Array.getElem?_eq_some_iff.1 hg).1
    refine ⟨_, cap, rfl, ⟨rfl, hnc, hcm, (fun h => by cases h), fun _ => ⟨g, 0, rfl, hlt, fun j u hu => ?_⟩⟩, fun a ha => by injection ha with ha; subst ha; exact hb⟩
    have := World.ownsRow.cells h (g := g) rfl j u hu
    rwa [add_flat] at this
theorem OwnB.formN (h : OwnB w base e v l) : ∃ A n c, v = .slice A n c ∧ HasB w w.heap.size A n c l ∧ (∀ a, A = some a → base ≤ a.block) := by
  obtain ⟨A, c, h1, h2, h3⟩ := h.form
  exact ⟨A, _, c, h1, h2, h3⟩
theorem OwnB.formG (h : OwnB w base e v l) (hl : 0 < l.length) : ∃ g cap, v = .slice (some ⟨g, 0, none⟩) l.length cap ∧ base ≤ g ∧ g < w.heap.size := by
  rcases h.2 with ⟨rfl, h0⟩ | ⟨g, cap, cur, rfl, hb, hg, hnc, hcm, hcs, ht⟩
  · omega
  · exact ⟨g, cap, rfl, hb, (Array.getElem?_eq_some_iff.1 hg).1⟩
theorem OwnB.cell_ {g n cap : Nat} (h : OwnB w base e (.slice (some ⟨g, 0, none⟩) n cap) l) (j : Nat) (hj : j < l.length) : w.cell? ⟨g, j, none⟩ = some (.int .u8 ((l.getD j 0).toNat : Int)) := by
  have hc := World.ownsRow.cells h (g := g) rfl j (byt (l.getD j 0)) (by simp [List.getElem?_map, List.getD_eq_getElem?_getD, List.getElem?_eq_getElem hj])
  rwa [add_flat, Nat.zero_add] at hc
theorem OwnB.len_ {A : Option Addr} {n cap : Nat} (h : OwnB w base e (.slice A n cap) l) : l.length = n := by
  obtain ⟨A', c', e', _⟩ := h.form
  injection e' with _ e2 _
  exact e2.symm
theorem OwnB.free {g n cap : Nat} (h : OwnB w base e (.slice (some ⟨g, 0, none⟩) n cap) l) (j : Nat) : w.frozen? ⟨g, j, none⟩ = false := by
  have hn := h.len_
  unfold OwnB at h
  rw [hn] at h
  exact World.ownsRow.frozenAt h j
theorem OwnB.set_ {g n cap : Nat} (h : OwnB w base e (.slice (some ⟨g, 0, none⟩) n cap) l) (j : Nat) (u : UInt8) : OwnB (w.setCell ⟨g, j, none⟩ (byt u)) base e (.slice (some ⟨g, 0, none⟩) n cap) (l.set j u) := by
  have hn := h.len_
  unfold OwnB at h ⊢
  rw [List.length_set, List.map_set, hn]
  rw [hn] at h
  exact (World.ownsRow.stored h j (byt u)).1
theorem OwnB.kept {row : Option Nat} (h : OwnB w base e v l) (hg : w.grownBy w' row) (hne : v.ownBlock = none ∨ v.ownBlock ≠ row) : OwnB w' base e v l := World.ownsRow.kept h hg hne
theorem OwnB.alloc (h : OwnB w base e v l) (o : Obj) : OwnB (w.alloc o) base e v l := World.ownsRow.alloc h o
theorem OwnB.drewN (h : OwnB w base e v l) (k : Nat) : OwnB (w.drewN k) base e v l := h
theorem OwnB.lt (h : OwnB w base e v l) : ∀ k, v.ownBlock = some k → base ≤ k ∧ k < w.heap.size := World.ownsRow.lt h
theorem OwnB.below {C : Nat} (h : OwnB w base e v l) (hb : Below C w w') (hC : w.heap.size ≤ C) : OwnB w' base e v l :=
  World.ownsRow.kept (row := none) h ⟨hb.os, hb.tape, hb.output, hb.size, fun k hk _ => hb.block k (by omega)⟩ (by cases v.ownBlock <;> simp)
end

theorem row_low {w : World} {base base' : Nat} {e : TypeId} {size : Nat} {v : Value} {n : Nat} {xs : List Value} (h : w.ownsRow base e size v n xs) (hb : base' ≤ base) : w.ownsRow base' e size v n xs :=
  ⟨h.1, h.2.imp id (fun ⟨g, cap, cur, a, b, c⟩ => ⟨g, cap, cur, a, Nat.le_trans hb b, c⟩)⟩
theorem OwnB.low {w : World} {base base' : Nat} {e : TypeId} {v : Value} {l : List UInt8} (h : OwnB w base e v l) (hb : base' ≤ base) : OwnB w base' e v l := row_low h hb
/-- A fresh literal is a row of the call's own. -/
theorem OwnB.lit_ (w : World) (base : Nat) (e : TypeId) (l : List UInt8) (C : Array Value) (hC : C = (l.map byt).toArray) (n : Nat) (hn : n = l.length) (hl : n ≤ 9223372036854775807) (hb : base ≤ w.heap.size) (g : Nat) (hg : g = w.heap.size) :
    OwnB (w.alloc (.cells C e)) base e (.slice (some ⟨g, 0, none⟩) n n) l := by
  subst hC hn hg
  have h := World.ownsRow_lit (base := base) (e := e) (size := 1) w (l.map byt).toArray l.length hb (by unfold maxLen; omega) (by simp)
  simpa [OwnB] using h

/-- append of bytes, wherever they lie, onto a row of the call's own. -/
theorem run_app {P : Program} (w : World) (t ty : TypeId)
    (base : Nat) (e : TypeId) (i : TypeInfo) (z : Value) (ht : P.underlying t = some (.slice e)) (hi : P.info? e = some i) (hz : i.zero = some z)
    (hsize : i.size = 1) (hby : i.bytes = 1) (hzs : z.cells.size = 1)
    (v : Value) (l : List UInt8) (hown : OwnB w base e v l)
    (B : Nat) (A : Option Addr) (m c : Nat) (news : List UInt8) (hr : HasB w B A m c news)
    (hbytes : l.length + m ≤ 140737488355328) (hbase : base ≤ w.heap.size) :
    ∃ v' w', (Builtin.append_ #[t, t] ty #[v, .slice A m c]).run P w = .ok v' w' ∧ OwnB w' base e v' (l ++ news) ∧ w.grownBy w' v.ownBlock := by
  have hml := hr.len
  have hsum : (l ++ news).length = l.length + m := by rw [List.length_append, hml]
  have hmap : (l ++ news).map byt = l.map byt ++ news.map byt := List.map_append
  have hone : l.length + m ≤ maxLen := by unfold maxLen; omega
  rcases A with _ | ad
  · obtain rfl := hr.void rfl
    have hc := hr.cap
    obtain rfl : m = 0 := by omega
    obtain rfl : news = [] := List.eq_nil_of_length_eq_zero hml
    exact ⟨v, w, run_append_owned_none (P := P) (w := w) base t ty e i 1 ht hi v l.length (l.map byt) hown, by rw [List.append_nil]; exact hown, World.grownBy.refl w _⟩
  · have hcells : ∀ j u, (news.map byt)[j]? = some u → w.cell? (ad.add j) = some u := by
      intro j u hu
      have hj : j < (news.map byt).length := by
        rcases Nat.lt_or_ge j (news.map byt).length with h1 | h1
        · exact h1
        · rw [List.getElem?_eq_none h1] at hu; cases hu
      obtain ⟨b, o', e', _, hc⟩ := hr.has (by omega)
      injection e' with e'
      subst e'
      rw [add_flat]
      exact hc j u hu
    obtain ⟨v', w', hrun, hown', hg, _⟩ := run_append_own (P := P) w base t ty e i z 1 1 ht hi hz hsize hby hzs (by decide) v l.length (l.map byt) hown ad m c (news.map byt) (by simp [hml]) hcells (byt_one news) hone (by omega) hbase
    exact ⟨v', w', hrun, by unfold OwnB; rw [hsum, hmap]; exact hown', hg⟩

section
variable {P : Program} (w : World) {ops : Array Oper} {rest : List Oper} {o : Oper} {a : Act} {Q : Exit → Act → World → Prop}
theorem wp_app {K : Act → World → Prop} (s x : Operand) (t : TypeId)
    (ho : o.op = .call { callee := .builtin .append, args := #[s, x], argTypes := #[t, t] })
    (base : Nat) (e : TypeId) (i : TypeInfo) (z : Value) (ht : P.underlying t = some (.slice e)) (hi : P.info? e = some i) (hz : i.zero = some z)
    (hsize : i.size = 1) (hby : i.bytes = 1) (hzs : z.cells.size = 1)
    (v : Value) (l : List UInt8) (hs : a.eval s = v) (hown : OwnB w base e v l)
    (B : Nat) (A : Option Addr) (m c : Nat) (news : List UInt8) (hx : a.eval x = .slice A m c) (hr : HasB w B A m c news)
    (hbytes : l.length + m ≤ 140737488355328) (hbase : base ≤ w.heap.size)
    (h : ∀ v' w', OwnB w' base e v' (l ++ news) → w.grownBy w' v.ownBlock → K (a.put o.dst v') w') : o.wp P a w K Q := by
  obtain ⟨v', w', hrun, h2, h3⟩ := run_app (P := P) w t o.type base e i z ht hi hz hsize hby hzs v l hown B A m c news hr hbytes hbase
  unfold Oper.wp execOp
  simp only [ho, resolve, invoke, builtin, Sem.run_bind, Sem.run_pure, Result.andThen_ok, List.map_toArray, List.map_cons, List.map_nil, hs, hx, hrun]
  exact h v' w' h2 h3
theorem wpList_app (hgd : o.guard = none) (s x : Operand) (t : TypeId)
    (ho : o.op = .call { callee := .builtin .append, args := #[s, x], argTypes := #[t, t] })
    (base : Nat) (e : TypeId) (i : TypeInfo) (z : Value) (ht : P.underlying t = some (.slice e)) (hi : P.info? e = some i) (hz : i.zero = some z)
    (hsize : i.size = 1) (hby : i.bytes = 1) (hzs : z.cells.size = 1)
    (v : Value) (l : List UInt8) (hs : a.eval s = v) (hown : OwnB w base e v l)
    (B : Nat) (A : Option Addr) (m c : Nat) (news : List UInt8) (hx : a.eval x = .slice A m c) (hr : HasB w B A m c news)
    (hbytes : l.length + m ≤ 140737488355328) (hbase : base ≤ w.heap.size)
    (h : ∀ v' w', OwnB w' base e v' (l ++ news) → w.grownBy w' v.ownBlock → wpList P ops Q rest (a.put o.dst v') w') : wpList P ops Q (o :: rest) a w :=
  wpList_plain hgd fun _ hK => wp_app w s x t ho base e i z ht hi hz hsize hby hzs v l hs hown B A m c news hx hr hbytes hbase fun v' w' h2 h3 => hK _ _ (h v' w' h2 h3)
/-- The same, inside a region that draws its order. -/
theorem step_app {K : Act → World → Prop} {E : Prop} (hgd : o.guard = none) (s x : Operand) (t : TypeId)
    (ho : o.op = .call { callee := .builtin .append, args := #[s, x], argTypes := #[t, t] })
    (base : Nat) (e : TypeId) (i : TypeInfo) (z : Value) (ht : P.underlying t = some (.slice e)) (hi : P.info? e = some i) (hz : i.zero = some z)
    (hsize : i.size = 1) (hby : i.bytes = 1) (hzs : z.cells.size = 1)
    (v : Value) (l : List UInt8) (hs : a.eval s = v) (hown : OwnB w base e v l)
    (B : Nat) (A : Option Addr) (m c : Nat) (news : List UInt8) (hx : a.eval x = .slice A m c) (hr : HasB w B A m c news)
    (hbytes : l.length + m ≤ 140737488355328) (hbase : base ≤ w.heap.size)
    (h : ∀ v' w', OwnB w' base e v' (l ++ news) → w.grownBy w' v.ownBlock → K (a.put o.dst v') w') :
    if Region.wanted o (yielded ops a.tmps) = true then Oper.wp P o a w K Q else E := by
  have hw : Region.wanted o (yielded ops a.tmps) = true := by simp [Region.wanted, hgd]
  rw [if_pos hw]
  exact wp_app w s x t ho base e i z ht hi hz hsize hby hzs v l hs hown B A m c news hx hr hbytes hbase h
end

/-! ### What grew, and where the row went -/
/-- From w, v to w', v': only v's own block was written, and v' lies there or in a new one. -/
def Grew (w : World) (v : Value) (w' : World) (v' : Value) : Prop := w.grownBy w' v.ownBlock ∧ ∀ k, v'.ownBlock = some k → v.ownBlock = some k ∨ w.heap.size ≤ k
theorem grownBy_trans {a b c : World} {r r' : Option Nat} (h : a.grownBy b r) (h' : b.grownBy c r') (hr : ∀ k, r' = some k → r = some k ∨ a.heap.size ≤ k) : a.grownBy c r :=
  ⟨h'.os.trans h.os, h'.tape.trans h.tape, h'.output.trans h.output, Nat.le_trans h.size h'.size, fun k hk hne => (h'.block k (Nat.lt_of_lt_of_le hk h.size) (fun e => by
    rcases hr k e.symm with h1 | h1
    · exact hne h1.symm
    · omega)).trans (h.block k hk hne)⟩
theorem Grew.refl (w : World) (v : Value) : Grew w v w v := ⟨World.grownBy.refl w _, fun _ h => .inl h⟩
theorem Grew.trans {a b c : World} {u v x : Value} (h : Grew a u b v) (h' : Grew b v c x) : Grew a u c x :=
  ⟨grownBy_trans h.1 h'.1 h.2, fun k hk => by
    rcases h'.2 k hk with h1 | h1
    · exact h.2 k h1
    · exact .inr (Nat.le_trans h.1.size h1)⟩
theorem Grew.alloc {a b : World} {u v : Value} (h : Grew a u b v) (o : Obj) : Grew a u (b.alloc o) v :=
  h.trans ⟨World.grownBy_alloc b o _, fun _ h => .inl h⟩
theorem Grew.drewN {a b : World} {u v : Value} (h : Grew a u b v) (k : Nat) : Grew a u (b.drewN k) v := ⟨⟨h.1.os, h.1.tape, h.1.output, h.1.size, h.1.block⟩, h.2⟩
/-- Rows from base on do not touch what lies below. -/
theorem Grew.below_ {a b : World} {u v : Value} (h : Grew a u b v) {base : Nat} (hs : base ≤ a.heap.size) (hu : ∀ k, u.ownBlock = some k → base ≤ k) : Below base a b :=
  ⟨h.1.os, h.1.tape, h.1.output, h.1.size, fun k hk => h.1.block k (by omega) (fun e => by have := hu k e.symm; omega)⟩

/-- append of bytes, as run_app, and where the row lies behind it. -/
theorem run_app4 {P : Program} (w : World) (t ty : TypeId)
    (base : Nat) (e : TypeId) (i : TypeInfo) (z : Value) (ht : P.underlying t = some (.slice e)) (hi : P.info? e = some i) (hz : i.zero = some z)
    (hsize : i.size = 1) (hby : i.bytes = 1) (hzs : z.cells.size = 1)
    (v : Value) (l : List UInt8) (hown : OwnB w base e v l)
    (B : Nat) (A : Option Addr) (m c : Nat) (news : List UInt8) (hr : HasB w B A m c news)
    (hbytes : l.length + m ≤ 140737488355328) (hbase : base ≤ w.heap.size) :
    ∃ v' w', (Builtin.append_ #[t, t] ty #[v, .slice A m c]).run P w = .ok v' w' ∧ OwnB w' base e v' (l ++ news) ∧ Grew w v w' v' := by
  obtain ⟨v', w', hrun, ho, hg⟩ := run_app (P := P) w t ty base e i z ht hi hz hsize hby hzs v l hown B A m c news hr hbytes hbase
  refine ⟨v', w', hrun, ho, hg, ?_⟩
  have hml := hr.len
  rcases A with _ | ad
  · obtain rfl := hr.void rfl
    have hc := hr.cap
    obtain rfl : m = 0 := by omega
    have h1 := run_append_owned_none (P := P) (w := w) base t ty e i 1 ht hi v l.length (l.map byt) hown
    rw [h1] at hrun
    injection hrun with hrun _
    subst hrun
    exact fun k hk => .inl hk
  · rcases hown.2 with ⟨rfl, h0⟩ | ⟨g, cap, cur, rfl, hbg, hgg, hnc, hcm, hcs, htake⟩
    · have hl0 : l = [] := List.eq_nil_of_length_eq_zero h0
      subst hl0
      obtain ⟨v2, w2, hrun2, ho2, _⟩ := run_app (P := P) w t ty w.heap.size e i z ht hi hz hsize hby hzs (.slice none 0 0) [] (OwnB.nil_ w _ e) B (some ad) m c news hr hbytes (Nat.le_refl _)
      have h1 := hrun2
      rw [hrun] at h1
      injection h1 with h1 _
      subst h1
      exact fun k hk => .inr (ho2.lt k hk).1
    · have hone : l.length + m ≤ maxLen := by unfold maxLen; omega
      have hcells : ∀ j u, (news.map byt)[j]? = some u → w.cell? (ad.add j) = some u := by
        intro j u hu
        have hj : j < (news.map byt).length := by
          rcases Nat.lt_or_ge j (news.map byt).length with h1 | h1
          · exact h1
          · rw [List.getElem?_eq_none h1] at hu; cases hu
        obtain ⟨b, o', e', _, hc⟩ := hr.has (by omega)
        injection e' with e'
        subst e'
        rw [add_flat]
        exact hc j u hu
      by_cases hroom : l.length + m ≤ cap
      · have h1 := run_append_room (P := P) w t ty e i ht hi g l.length cap cur hgg ad m c (news.map byt) (by rw [hsize, Nat.mul_one]; simpa using hml) hcells (byt_one news) hroom (by rw [hsize, Nat.mul_one, hcs, List.length_map, hml]; omega)
        rw [hrun] at h1
        injection h1 with h1 _
        subst h1
        exact fun k hk => .inl hk
      · have hmap := hown.1
        have h1 := run_append_grow (P := P) w t ty e i z ht hi hz ⟨g, 0, none⟩ l.length cap (l.map byt) (by rw [hsize]; simp) (hown.cells (g := g) rfl) ad m c (news.map byt) (by rw [hsize, Nat.mul_one]; simpa using hml) hcells (by omega) (by omega) (growslice_fits (by omega) (by rw [hby]; omega))
        rw [hrun] at h1
        injection h1 with h1 _
        subst h1
        exact fun k hk => .inr (by injection hk with hk; subst hk; exact Nat.le_refl _)

section
variable {P : Program} (w : World) {ops : Array Oper} {rest : List Oper} {o : Oper} {a : Act} {Q : Exit → Act → World → Prop}
theorem wp_app4 {K : Act → World → Prop} (s x : Operand) (t : TypeId)
    (ho : o.op = .call { callee := .builtin .append, args := #[s, x], argTypes := #[t, t] })
    (base : Nat) (e : TypeId) (i : TypeInfo) (z : Value) (ht : P.underlying t = some (.slice e)) (hi : P.info? e = some i) (hz : i.zero = some z)
    (hsize : i.size = 1) (hby : i.bytes = 1) (hzs : z.cells.size = 1)
    (v : Value) (l : List UInt8) (hs : a.eval s = v) (hown : OwnB w base e v l)
    (B : Nat) (A : Option Addr) (m c : Nat) (news : List UInt8) (hx : a.eval x = .slice A m c) (hr : HasB w B A m c news)
    (hbytes : l.length + m ≤ 140737488355328) (hbase : base ≤ w.heap.size)
    (h : ∀ v' w', OwnB w' base e v' (l ++ news) → Grew w v w' v' → K (a.put o.dst v') w') : o.wp P a w K Q := by
  obtain ⟨v', w', hrun, h2, h3⟩ := run_app4 (P := P) w t o.type base e i z ht hi hz hsize hby hzs v l hown B A m c news hr hbytes hbase
  unfold Oper.wp execOp
  simp only [ho, resolve, invoke, builtin, Sem.run_bind, Sem.run_pure, Result.andThen_ok, List.map_toArray, List.map_cons, List.map_nil, hs, hx, hrun]
  exact h v' w' h2 h3
theorem wpList_app4 (hgd : o.guard = none) (s x : Operand) (t : TypeId)
    (ho : o.op = .call { callee := .builtin .append, args := #[s, x], argTypes := #[t, t] })
    (base : Nat) (e : TypeId) (i : TypeInfo) (z : Value) (ht : P.underlying t = some (.slice e)) (hi : P.info? e = some i) (hz : i.zero = some z)
    (hsize : i.size = 1) (hby : i.bytes = 1) (hzs : z.cells.size = 1)
    (v : Value) (l : List UInt8) (hs : a.eval s = v) (hown : OwnB w base e v l)
    (B : Nat) (A : Option Addr) (m c : Nat) (news : List UInt8) (hx : a.eval x = .slice A m c) (hr : HasB w B A m c news)
    (hbytes : l.length + m ≤ 140737488355328) (hbase : base ≤ w.heap.size)
    (h : ∀ v' w', OwnB w' base e v' (l ++ news) → Grew w v w' v' → wpList P ops Q rest (a.put o.dst v') w') : wpList P ops Q (o :: rest) a w :=
  wpList_plain hgd fun _ hK => wp_app4 w s x t ho base e i z ht hi hz hsize hby hzs v l hs hown B A m c news hx hr hbytes hbase fun v' w' h2 h3 => hK _ _ (h v' w' h2 h3)
end

/-- 'string(b)' of bytes, wherever they lie. -/
theorem HasB.string {P : Program} {w : World} {B n c : Nat} {A : Option Addr} {l : List UInt8} (h : HasB w B A n c l) (src e dst : TypeId)
    (hs : P.underlying src = some (.slice e)) (he : P.underlying e = some (.int .u8)) (hd : P.underlying dst = some .string) :
    (convert src dst (.slice A n c)).run P w = .ok (.string ⟨l.toArray⟩) w := by
  have hl := h.len
  have key : strOfNums (l.map fun u => (u.toNat : Int)) = ⟨l.toArray⟩ := by
    unfold strOfNums
    congr 2
    rw [List.map_map]
    exact (List.map_congr_left (fun u _ => by simp)).trans (List.map_id l)
  rcases Nat.eq_zero_or_pos n with hn | hn
  · subst hn
    obtain rfl : l = [] := List.eq_nil_of_length_eq_zero hl
    exact run_convert_bytes_zero w src e hs he A c dst hd
  · obtain ⟨b, o, rfl, _, hc⟩ := h.has (by simp; omega)
    rw [← key]
    refine run_convert_bytes_arg (P := P) w src e hs he b o n c _ (by simpa using hl) (fun i hi => hc i _ ?_) dst hd
    simp [byt, List.getElem?_map, List.getD_eq_getElem?_getD, List.getElem?_eq_getElem (show i < l.length by omega)]

theorem u32_of {a b : Nat} (h : a = b) : Ending.returned (.int .u32 (a : Int)) = .returned (.int .u32 (b : Int)) := by rw [h]
theorem bool_of {a b : Bool} (h : a = b) : Ending.returned (.bool a) = .returned (.bool b) := by rw [h]
theorem i64_of {a b : Int} (h : a = b) : Ending.returned (.int .i64 a) = .returned (.int .i64 b) := by rw [h]
theorem unsigned32 : IntKind.u32.signed = false := rfl
/-- What a cut leaves, in the two spellings. -/
theorem cut_is {w : World} {B n c p : Nat} {A : Option Addr} {l : List UInt8} (h : HasB w B A n c l) (hp : p ≤ n) (hc : ¬ c = p) : HasB w B (A.map (·.add p)) (n - p) (c - p) (l.drop p) := by
  have := h.drop_ p hp
  rwa [if_neg hc, Nat.mul_one] at this
theorem cut_all {w : World} {B c : Nat} {A : Option Addr} {l : List UInt8} (h : HasB w B A c c l) : HasB w B A 0 0 (l.drop c) := by
  have := h.drop_ c (Nat.le_refl _)
  rwa [if_pos rfl, Nat.sub_self] at this
end Go.Proofs.Ytbiogldapodhmaa
