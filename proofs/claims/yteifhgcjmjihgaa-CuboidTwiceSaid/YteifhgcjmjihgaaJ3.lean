/- Ints -/
import Derived.Test.YteifhgcjmjihgaaJ2
import Derived.Test.YteifhgcjmjihgaaRows
namespace Go.Proofs.Yteifhgcjmjihgaa
set_option maxRecDepth 100000
open Go.RowKit

/-- An int as the model has it. -/
def i64v (x : Int) : Value := .int .i64 x
theorem i64v_one (l : List Int) : ∀ u ∈ l.map i64v, u.oneCell' = true := by
  intro u hu
  obtain ⟨x, _, rfl⟩ := List.mem_map.1 hu
  rfl

/-- The slice value '.slice A n c' reads as the ints l. -/
structure HasI (w : World) (B : Nat) (A : Option Addr) (n c : Nat) (l : List Int) : Prop where
  len : l.length = n
  cap : n ≤ c
  fit : c ≤ maxLen
  void : A = none → c = 0
  has : Has w B A (l.map i64v)

section
variable {w w' : World} {B B' n c : Nat} {A : Option Addr} {l : List Int}
theorem HasI.keep (h : HasI w B A n c l) (hk : ∀ b o, b < B → w'.cell? ⟨b, o, none⟩ = w.cell? ⟨b, o, none⟩) : HasI w' B A n c l := ⟨h.len, h.cap, h.fit, h.void, h.has.keep hk⟩
theorem HasI.more (h : HasI w B A n c l) (hB : B ≤ B') : HasI w B' A n c l := ⟨h.len, h.cap, h.fit, h.void, h.has.more hB⟩
theorem HasI.below {C : Nat} (h : HasI w B A n c l) (hb : Below C w w') (hC : B ≤ C) : HasI w' B A n c l := ⟨h.len, h.cap, h.fit, h.void, h.has.below hb hC⟩
theorem HasI.grown {row : Option Nat} (h : HasI w B A n c l) (hg : w.grownBy w' row) (hB : B ≤ w.heap.size) (hr : ∀ g, row = some g → B ≤ g) : HasI w' B A n c l := ⟨h.len, h.cap, h.fit, h.void, h.has.grown hg hB hr⟩
theorem HasI.drewN (h : HasI w B A n c l) (k : Nat) : HasI (w.drewN k) B A n c l := ⟨h.len, h.cap, h.fit, h.void, h.has⟩
theorem HasI.drew (h : HasI w B A n c l) : HasI w.drew B A n c l := ⟨h.len, h.cap, h.fit, h.void, h.has⟩
theorem HasI.alloc (h : HasI w B A n c l) (hB : B ≤ w.heap.size) (o : Obj) : HasI (w.alloc o) B A n c l :=
  h.keep fun b k hp => World.cell?_alloc_lt w o ⟨b, k, none⟩ (by show b < _; omega)
theorem HasI.allocS (h : HasI w w.heap.size A n c l) (o : Obj) : HasI (w.alloc o) (w.alloc o).heap.size A n c l := (h.alloc (Nat.le_refl _) o).more (by simp)
theorem HasI.belowS (h : HasI w w.heap.size A n c l) (hb : Below w.heap.size w w') : HasI w' w'.heap.size A n c l := (h.below hb (Nat.le_refl _)).more hb.size
theorem HasI.lenMax (h : HasI w B A n c l) : n ≤ 9223372036854775807 := by
  have h1 := h.cap; have h2 := h.fit
  unfold maxLen at h2; omega
theorem HasI.capMax (h : HasI w B A n c l) : c ≤ 9223372036854775807 := by
  have h2 := h.fit
  unfold maxLen at h2; omega
theorem HasI.at_ (h : HasI w B A n c l) {k : Nat} (hk : k < n) :
    ∃ b o x, A = some ⟨b, o, none⟩ ∧ b < B ∧ w.cell? ⟨b, o + k, none⟩ = some (.int .i64 x) ∧ Hid (x = l.getD k 0) := by
  obtain ⟨hl, _, _, _, hh⟩ := h
  obtain ⟨b, o, e, hb, hc⟩ := hh (by simp; omega)
  refine ⟨b, o, l.getD k 0, e, hb, hc k _ ?_, Lib.hid rfl⟩
  simp [i64v, List.getElem?_map, List.getD_eq_getElem?_getD, List.getElem?_eq_getElem (show k < l.length by omega)]
theorem HasI.take_ (h : HasI w B A n c l) (k : Nat) (hk : k ≤ n) : HasI w B A k c (l.take k) :=
  ⟨by have := h.len; rw [List.length_take]; omega, by have := h.cap; omega, h.fit, h.void, by rw [List.map_take]; exact h.has.take_ k⟩
/-- What a cut leaves: its address is the model's. -/
theorem HasI.drop_ (h : HasI w B A n c l) (k : Nat) (hk : k ≤ n) : HasI w B (if c = k then A else A.map (·.add (k * 1))) (n - k) (c - k) (l.drop k) := by
  have hl := h.len; have hc := h.cap; have hf := h.fit
  refine ⟨by rw [List.length_drop]; omega, by omega, by omega, fun hA => ?_, ?_⟩
  · split at hA
    · omega
    · rcases A with _ | a
      · have := h.void rfl; omega
      · cases hA
  rw [List.map_drop]
  by_cases hkn : k = n
  · intro hn
    simp at hn
    omega
  · rw [if_neg (by omega), Nat.mul_one]
    exact h.has.drop_ k (by simp; omega)
theorem HasI.cut (h : HasI w B A n c l) {p : Nat} (hp : p ≤ n) (hc : ¬ c = p) : HasI w B (A.map (·.add p)) (n - p) (c - p) (l.drop p) := by
  have := h.drop_ p hp
  rwa [if_neg hc, Nat.mul_one] at this
end

/-- What came in as a slice of ints. -/
theorem HasI.of_row {w : World} {a : Option Addr} {n c : Nat} {zs : List Int}
    (h : (a = none ∧ n = 0 ∧ c = 0 ∧ zs = []) ∨ ∃ x, a = some x ∧ n ≤ c ∧ c ≤ maxLen ∧ zs.length = c ∧ (∀ i, i < zs.length → w.cell? (x.add i) = some (.int .i64 (zs.getD i 0))) ∧ ∀ k ∈ zs, (Lit.int .i64 k).wf = true) :
    ∃ l, HasI w w.heap.size a n c l ∧ ∀ x ∈ l, -9223372036854775808 ≤ x ∧ x ≤ 9223372036854775807 := by
  rcases h with ⟨rfl, rfl, rfl, rfl⟩ | ⟨x, rfl, hl, hm, hz, hcell, hwz⟩
  · exact ⟨[], ⟨rfl, Nat.le_refl _, Nat.zero_le _, fun _ => rfl, Has.nil_⟩, fun x hx => by simp at hx⟩
  · refine ⟨zs.take n, ⟨by simp; omega, hl, hm, (fun h => by cases h), fun hn => ?_⟩, fun x hx => i64_of_wf (hwz x (List.mem_of_mem_take hx))⟩
    simp only [List.length_map, List.length_take] at hn
    obtain ⟨b, o, spot⟩ := x
    have h0 := hcell 0 (by omega)
    have hs : spot = none := by simpa [Addr.add] using World.cell?_spot h0
    subst hs
    refine ⟨b, o, rfl, World.block_lt_of_cell? w _ h0, fun j u hu => ?_⟩
    rw [List.getElem?_map, List.getElem?_take] at hu
    split at hu
    · rename_i hj
      have hjz : j < zs.length := by omega
      rw [List.getElem?_eq_getElem hjz] at hu
      have hc := hcell j hjz
      rw [add_flat] at hc
      rw [hc, ← hu]
      simp [List.getD_eq_getElem?_getD, List.getElem?_eq_getElem hjz, i64v]
    · cases hu
/-- A fresh literal of ints. -/
theorem HasI.litAt (w : World) (l : List Int) (C : Array Value) (hC : C = (l.map i64v).toArray) (e : TypeId) (fr : Nat × Nat) (n : Nat) (hn : n = l.length) (hl : n ≤ 9223372036854775807) (g : Nat) (hg : g = w.heap.size) :
    HasI (w.alloc (.cells C e fr)) (g + 1) (some ⟨g, 0, none⟩) n n l := by
  subst hC hn hg
  exact ⟨rfl, Nat.le_refl _, by unfold maxLen; omega, (fun h => by cases h), fun _ => ⟨w.heap.size, 0, rfl, by omega, fun j u hu => by
    rw [Nat.zero_add, cell_new]
    simpa using hu⟩⟩

/-- A row of the call's own holds the ints l. -/
def OwnI (w : World) (base : Nat) (v : Value) (l : List Int) : Prop := w.ownsRow base 3 1 v l.length (l.map i64v)

section
variable {w w' : World} {base : Nat} {v : Value} {l : List Int}
theorem OwnI.nil_ (w : World) (base : Nat) : OwnI w base (.slice none 0 0) [] := World.ownsRow_nil w base _ 1
theorem OwnI.form (h : OwnI w base v l) : ∃ A c, v = .slice A l.length c ∧ HasI w w.heap.size A l.length c l ∧ (∀ a, A = some a → base ≤ a.block) := by
  rcases h.2 with ⟨rfl, h0⟩ | ⟨g, cap, cur, rfl, hb, hg, hnc, hcm, hcs, ht⟩
  · have hl : l = [] := List.eq_nil_of_length_eq_zero h0
    subst hl
    exact ⟨none, 0, rfl, ⟨rfl, Nat.le_refl _, Nat.zero_le _, fun _ => rfl, Has.nil_⟩, fun _ h => by cases h⟩
  · have hlt : g < w.heap.size := (Array.getElem?_eq_some_iff.1 hg).1
    refine ⟨_, cap, rfl, ⟨rfl, hnc, hcm, (fun h => by cases h), fun _ => ⟨g, 0, rfl, hlt, fun j u hu => ?_⟩⟩, fun a ha => by injection ha with ha; subst ha; exact hb⟩
    have := World.ownsRow.cells h (g := g) rfl j u hu
    rwa [add_flat] at this
theorem OwnI.formN (h : OwnI w base v l) : ∃ A n c, v = .slice A n c ∧ HasI w w.heap.size A n c l ∧ (∀ a, A = some a → base ≤ a.block) := by
  obtain ⟨A, c, h1, h2, h3⟩ := h.form
  exact ⟨A, _, c, h1, h2, h3⟩
theorem OwnI.kept {row : Option Nat} (h : OwnI w base v l) (hg : w.grownBy w' row) (hne : v.ownBlock = none ∨ v.ownBlock ≠ row) : OwnI w' base v l := World.ownsRow.kept h hg hne
theorem OwnI.alloc (h : OwnI w base v l) (o : Obj) : OwnI (w.alloc o) base v l := World.ownsRow.alloc h o
theorem OwnI.drewN (h : OwnI w base v l) (k : Nat) : OwnI (w.drewN k) base v l := h
theorem OwnI.lt (h : OwnI w base v l) : ∀ k, v.ownBlock = some k → base ≤ k ∧ k < w.heap.size := World.ownsRow.lt h
theorem OwnI.below {C : Nat} (h : OwnI w base v l) (hb : Below C w w') (hC : w.heap.size ≤ C) : OwnI w' base v l :=
  World.ownsRow.kept (row := none) h ⟨hb.os, hb.tape, hb.output, hb.size, fun k hk _ => hb.block k (by omega)⟩ (by cases v.ownBlock <;> simp)
theorem OwnI.low {base' : Nat} (h : OwnI w base v l) (hb : base' ≤ base) : OwnI w base' v l := row_low h hb
end

/-! ### What only makes new memory, step by step; a new variable that holds a struct -/
theorem below_then {a b c : World} (h : Below a.heap.size a b) (h' : Below b.heap.size b c) : Below a.heap.size a c := h.trans (h'.mono h.size)
theorem below_a1 (w : World) (o : Obj) : Below w.heap.size w (w.alloc o) := (Below.refl _ _).alloc (Nat.le_refl _) o
theorem below_a2 (w : World) (o p : Obj) : Below w.heap.size w ((w.alloc o).alloc p) := below_then (below_a1 w o) (below_a1 _ p)
theorem below_a3 (w : World) (o p q : Obj) : Below w.heap.size w (((w.alloc o).alloc p).alloc q) := below_then (below_a2 w o p) (below_a1 _ q)
/-- A new block, at the address that the walk spells. -/
theorem block_new {w w1 : World} {T : TypeId} {cs : Array Value} (hb : Below (w.alloc (.cells cs T)).heap.size (w.alloc (.cells cs T)) w1) {g : Nat} (hg : g = w.heap.size) : Block w1 g T cs := by
  subst hg
  exact (Block.new w T cs).below hb (by simp)

theorem Block.elsewhere {w : World} {g : Nat} {e : TypeId} {cs : Array Value} (h : Block w g e cs) (b i : Nat) (u : Value) (hne : b ≠ g) : Block (w.setCell ⟨b, i, none⟩ u) g e cs := by
  have h' : w.heap[g]? = some (.cells cs e (0, 0)) := h
  unfold Block
  simp [World.setCell, Array.getElem?_modify, h', hne]

/-- One result, out of its block. -/
theorem results_block1 {P : Program} {fn : Func} {p : Tmp} {ty : TypeId} (h : fn.results = #[.cell p ty]) (tmps : Array Value) (w : World) (g : Nat) (cs : Array Value) (d : TypeDesc)
    (hp : tmps.getD p undef = .pointer (some ⟨g, 0, none⟩)) (hb : Block w g ty cs)
    (hu : P.underlying ty = some d) (hd : (match d with | .struct _ | .array _ _ => true | _ => false) = true) (hi : (P.info? ty).map (·.size) = some cs.size) :
    (results fn tmps).run P w = .ok (.agg cs) w := by
  have hp' : tmps[p]?.getD undef = .pointer (some ⟨g, 0, none⟩) := by simpa using hp
  simp [results, h, hp', asAddr, run_loadVar_row w g ty ty cs (0, 0) d hb hu hd hi]
/-- Two results, the first one out of its block. -/
theorem results_block2 {P : Program} {fn : Func} {p t : Tmp} {ty : TypeId} (h : fn.results = #[.cell p ty, .tmp t]) (tmps : Array Value) (w : World) (g : Nat) (cs : Array Value) (d : TypeDesc)
    (hp : tmps.getD p undef = .pointer (some ⟨g, 0, none⟩)) (hb : Block w g ty cs)
    (hu : P.underlying ty = some d) (hd : (match d with | .struct _ | .array _ _ => true | _ => false) = true) (hi : (P.info? ty).map (·.size) = some cs.size) :
    (results fn tmps).run P w = .ok (.tuple #[.agg cs, tmps.getD t undef]) w := by
  have hp' : tmps[p]?.getD undef = .pointer (some ⟨g, 0, none⟩) := by simpa using hp
  simp [results, h, hp', asAddr, run_loadVar_row w g ty ty cs (0, 0) d hb hu hd hi]
theorem info_int : (Try.prog.info? 3).map (fun i => (i.zero, i.size, i.bytes)) = some (some (.int .i64 0), 1, 8) := by kernel_rfl
theorem cell_one_i (w : World) (x : Value) (t : TypeId) (g : Nat) (hg : g = w.heap.size) : ∀ j u, [x][j]? = some u → (w.alloc (.cells #[x] t)).cell? ((⟨g, 0, none⟩ : Addr).add j) = some u := by
  intro j u hj
  subst hg
  match j, hj with
  | 0, hj => simp at hj; subst hj; simp [Addr.add]
  | (j + 1), hj => simp at hj
end Go.Proofs.Yteifhgcjmjihgaa
