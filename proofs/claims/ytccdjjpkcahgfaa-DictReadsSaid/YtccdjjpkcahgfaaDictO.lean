/- Layer 7: a dictionary in memory: its block, its row of paths, its map; what a call may have changed. -/
import Derived.Test.YtccdjjpkcahgfaaRows
import Derived.Test.YtccdjjpkcahgfaaDictN
import Derived.Test.YtccdjjpkcahgfaaDictK
import Derived.Test.YtccdjjpkcahgfaaRowNe
import Derived.Test.YtccdjjpkcahgfaaInts
namespace Go.Proofs.Ytccdjjpkcahgfaa
open Go.RowKit

/-! ### What may have changed -/
/-- From w to w' only blocks of S were written, and new ones made. -/
structure Chg (S : Nat → Prop) (w w' : World) : Prop where
  os : w'.os = w.os
  tape : w'.tape = w.tape
  output : w'.output = w.output
  size : w.heap.size ≤ w'.heap.size
  block : ∀ k, k < w.heap.size → ¬ S k → w'.heap[k]? = w.heap[k]?
section
variable {S S' : Nat → Prop} {a b c w w' : World}
theorem Chg.refl (S : Nat → Prop) (w : World) : Chg S w w := ⟨rfl, rfl, rfl, Nat.le_refl _, fun _ _ _ => rfl⟩
theorem Chg.of_below {B : Nat} (h : Below B w w') (hB : w.heap.size ≤ B) : Chg S w w' := ⟨h.os, h.tape, h.output, h.size, fun k hk _ => h.block k (by omega)⟩
theorem Chg.of_grown {row : Option Nat} (h : w.grownBy w' row) (hS : ∀ k, row = some k → k < w.heap.size → S k) : Chg S w w' :=
  ⟨h.os, h.tape, h.output, h.size, fun k hk hn => h.block k hk fun e => hn (hS k e.symm hk)⟩
theorem Chg.trans (h : Chg S a b) (h' : Chg S' b c) (hS : ∀ k, k < a.heap.size → S' k → S k) : Chg S a c :=
  ⟨h'.os.trans h.os, h'.tape.trans h.tape, h'.output.trans h.output, Nat.le_trans h.size h'.size, fun k hk hn => (h'.block k (Nat.lt_of_lt_of_le hk h.size) fun hs => hn (hS k hk hs)).trans (h.block k hk hn)⟩
theorem Chg.mono (h : Chg S w w') (hS : ∀ k, k < w.heap.size → S k → S' k) : Chg S' w w' := ⟨h.os, h.tape, h.output, h.size, fun k hk hn => h.block k hk fun hs => hn (hS k hk hs)⟩
theorem Chg.below (h : Chg S w w') {B : Nat} (hB : B ≤ w.heap.size) (hS : ∀ k, S k → B ≤ k) : Below B w w' := ⟨h.os, h.tape, h.output, h.size, fun k hk => h.block k (by omega) fun hs => by have := hS k hs; omega⟩
theorem Chg.drewN (h : Chg S a b) (k : Nat) : Chg S a (b.drewN k) := ⟨h.os, h.tape, h.output, h.size, h.block⟩
theorem Chg.alloc (h : Chg S a b) (o : Obj) : Chg S a (b.alloc o) := h.trans (Chg.of_below (S := S) ((Below.refl _ b).alloc (Nat.le_refl _) o) (Nat.le_refl _)) fun _ _ hs => hs
theorem Chg.set_ (h : Chg S a b) (g i : Nat) (u : Value) (hS : g < a.heap.size → S g) : Chg S a (b.setCell ⟨g, i, none⟩ u) :=
  ⟨h.os, h.tape, h.output, by simpa [World.setCell] using h.size, fun k hk hn => by
    have hne : g ≠ k := fun e => hn (e ▸ hS (e ▸ hk))
    rw [← h.block k hk hn]
    simp [World.setCell, Array.getElem?_modify, hne]⟩
theorem Chg.row {base : Nat} {e : TypeId} {size n : Nat} {v : Value} {xs : List Value} (h : Chg S w w') (hr : w.ownsRow base e size v n xs) (hn : ∀ k, v.ownBlock = some k → ¬ S k) : w'.ownsRow base e size v n xs := by
  refine ⟨hr.1, hr.2.imp id ?_⟩
  rintro ⟨g, cap, cur, rfl, hb, hg, r⟩
  exact ⟨g, cap, cur, rfl, hb, (h.block g (Array.getElem?_eq_some_iff.1 hg).1 (hn g rfl)).trans hg, r⟩
end

/-! ### The row of paths -/
def pcs (e : Nat × Txt) : List Value := [.int .i64 (e.1 : Int), strV e.2]
theorem pcs_len (E : List (Nat × Txt)) : (E.flatMap pcs).length = E.length * 2 := by
  induction E with
  | nil => rfl
  | cons e r ih => simp [List.flatMap_cons, ih, pcs]; omega
theorem pcs_get {E : List (Nat × Txt)} {i : Nat} {a : Nat} {s : Txt} (h : E[i]? = some (a, s)) : (E.flatMap pcs)[i * 2]? = some (.int .i64 (a : Int)) ∧ (E.flatMap pcs)[i * 2 + 1]? = some (strV s) := by
  induction E generalizing i with
  | nil => simp at h
  | cons e r ih =>
    cases i with
    | zero =>
      simp at h
      subst h
      simp [List.flatMap_cons, pcs]
    | succ i =>
      have := ih (i := i) (by simpa using h)
      rw [show (i + 1) * 2 = i * 2 + 1 + 1 by omega]
      simpa [List.flatMap_cons, pcs] using this
theorem pcs_one (E : List (Nat × Txt)) : ∀ u ∈ E.flatMap pcs, u.oneCell' = true := by
  intro u hu
  obtain ⟨e, _, he⟩ := List.mem_flatMap.1 hu
  simp [pcs] at he
  rcases he with rfl | rfl <;> rfl
/-- A row of the call's own holds the pairs E. -/
def OwnE (w : World) (base : Nat) (v : Value) (E : List (Nat × Txt)) : Prop := w.ownsRow base 77 2 v E.length (E.flatMap pcs)
/-- The slice value '.slice A n c' reads as the pairs E. -/
structure HasE (w : World) (A : Option Addr) (n c : Nat) (E : List (Nat × Txt)) : Prop where
  len : E.length = n
  cap : n ≤ c
  fit : c ≤ maxLen
  void : A = none → c = 0
  has : ∀ (i a : Nat) (s : Txt), E[i]? = some (a, s) → ∃ b o, A = some ⟨b, o, none⟩ ∧ b < w.heap.size ∧ w.cell? ⟨b, o + i * 2, none⟩ = some (.int .i64 (a : Int)) ∧ w.cell? ⟨b, o + i * 2 + 1, none⟩ = some (strV s)
section
variable {w w' : World} {base : Nat} {v : Value} {E : List (Nat × Txt)}
theorem OwnE.nil_ (w : World) (base : Nat) : OwnE w base (.slice none 0 0) [] := World.ownsRow_nil w base _ 2
theorem OwnE.form (h : OwnE w base v E) : ∃ A c, v = .slice A E.length c ∧ HasE w A E.length c E := by
  rcases h.2 with ⟨rfl, h0⟩ | ⟨g, cap, cur, rfl, hb, hg, hnc, hcm, hcs, ht⟩
  · have hl : E = [] := List.eq_nil_of_length_eq_zero h0
    subst hl
    exact ⟨none, 0, rfl, rfl, Nat.le_refl _, Nat.zero_le _, fun _ => rfl, fun i a s h => by simp at h⟩
  · refine ⟨_, cap, rfl, rfl, hnc, hcm, (fun h => by cases h), fun i a s hi => ?_⟩
    have hc := World.ownsRow.cells h (g := g) rfl
    obtain ⟨h1, h2⟩ := pcs_get hi
    have e1 := hc _ _ h1
    have e2 := hc _ _ h2
    rw [add_flat] at e1 e2
    rw [← Nat.add_assoc] at e2
    exact ⟨g, 0, rfl, (Array.getElem?_eq_some_iff.1 hg).1, e1, e2⟩
theorem OwnE.low {base' : Nat} (h : OwnE w base v E) (hb : base' ≤ base) : OwnE w base' v E := row_low h hb
theorem OwnE.drewN (h : OwnE w base v E) (k : Nat) : OwnE (w.drewN k) base v E := h
theorem OwnE.below (h : OwnE w base v E) (hb : Below w.heap.size w w') : OwnE w' base v E := row_below h hb
theorem HasE.below {A : Option Addr} {n c : Nat} (h : HasE w A n c E) (hb : Below w.heap.size w w') : HasE w' A n c E :=
  ⟨h.len, h.cap, h.fit, h.void, fun i a s hi => by
    obtain ⟨b, o, h1, h2, h3, h4⟩ := h.has i a s hi
    exact ⟨b, o, h1, Nat.lt_of_lt_of_le h2 hb.size, (hb.cell (p := ⟨b, o + i * 2, none⟩) h2).trans h3, (hb.cell (p := ⟨b, o + i * 2 + 1, none⟩) h2).trans h4⟩⟩
end

/-! ### A dictionary -/
structure Dc (w : World) (base g : Nat) (pv : Value) (bm n : Nat) (Q : List Pth) : Prop where
  block : Block w g 69 #[.int .i64 (n : Int), pv, .map (some bm)]
  row : OwnE w base pv (ents Q)
  map : HasM w bm (ents Q)
  gb : base ≤ g
  mb : base ≤ bm
  good : Good n Q
/-- Its blocks. -/
def foot (g : Nat) (pv : Value) (bm : Nat) (k : Nat) : Prop := k = g ∨ pv.ownBlock = some k ∨ k = bm
section
variable {w w' : World} {base g : Nat} {pv : Value} {bm n : Nat} {Q : List Pth}
theorem Dc.drewN (h : Dc w base g pv bm n Q) (k : Nat) : Dc (w.drewN k) base g pv bm n Q := ⟨h.block.drewN k, h.row.drewN k, h.map.drewN k, h.gb, h.mb, h.good⟩
theorem Dc.chg {S : Nat → Prop} (h : Dc w base g pv bm n Q) (hc : Chg S w w') (hS : ∀ k, foot g pv bm k → ¬ S k) : Dc w' base g pv bm n Q :=
  ⟨(hc.block g h.block.lt (hS g (.inl rfl))).trans h.block, hc.row h.row fun k hk => hS k (.inr (.inl hk)), h.map.same (hc.block bm h.map.lt (hS bm (.inr (.inr rfl)))), h.gb, h.mb, h.good⟩
theorem Dc.below (h : Dc w base g pv bm n Q) (hb : Below w.heap.size w w') : Dc w' base g pv bm n Q := h.chg (S := fun _ => False) (Chg.of_below hb (Nat.le_refl _)) (fun _ _ h => h)
theorem Dc.low {base' : Nat} (h : Dc w base g pv bm n Q) (hb : base' ≤ base) : Dc w base' g pv bm n Q := ⟨h.block, h.row.low hb, h.map, Nat.le_trans hb h.gb, Nat.le_trans hb h.mb, h.good⟩
theorem Dc.foot_base (h : Dc w base g pv bm n Q) {k : Nat} (hk : foot g pv bm k) : base ≤ k ∧ k < w.heap.size := by
  rcases hk with rfl | hk | rfl
  · exact ⟨h.gb, h.block.lt⟩
  · exact World.ownsRow.lt h.row k hk
  · exact ⟨h.mb, h.map.lt⟩
/-- The block's, the row's and the map's blocks are three. -/
theorem Dc.g_bm (h : Dc w base g pv bm n Q) : g ≠ bm := by
  rintro rfl
  obtain ⟨es, clock, he⟩ := h.map.is_map
  have hb : w.heap[g]? = some (.cells _ _ _) := h.block
  rw [hb] at he
  cases he
theorem Dc.row_bm (h : Dc w base g pv bm n Q) : pv.ownBlock ≠ some bm := by
  intro hk
  obtain ⟨es, clock, he⟩ := h.map.is_map
  rcases h.row.2 with ⟨e, _⟩ | ⟨g', cap, cur, e, _, hg, _⟩
  · rw [e] at hk; cases hk
  · rw [e] at hk
    simp only [Value.ownBlock, Option.some.injEq] at hk
    subst hk
    rw [hg] at he
    cases he
theorem Dc.row_g (h : Dc w base g pv bm n Q) : pv.ownBlock ≠ some g := by
  intro hk
  rcases h.row.2 with ⟨e, _⟩ | ⟨g', cap, cur, e, _, hg, _⟩
  · rw [e] at hk; cases hk
  · rw [e] at hk
    simp only [Value.ownBlock, Option.some.injEq] at hk
    subst hk
    have hb : w.heap[g']? = some (.cells _ _ _) := h.block
    rw [hg] at hb
    simp only [Option.some.injEq, Obj.cells.injEq] at hb
    exact absurd hb.2.1 (by decide)
theorem Dc.c0 (h : Dc w base g pv bm n Q) : w.cell? ⟨g, 0, none⟩ = some (.int .i64 (n : Int)) := h.block.cell 0
theorem Dc.c1 (h : Dc w base g pv bm n Q) : w.cell? ⟨g, 1, none⟩ = some pv := h.block.cell 1
theorem Dc.c2 (h : Dc w base g pv bm n Q) : w.cell? ⟨g, 2, none⟩ = some (.map (some bm)) := h.block.cell 2
theorem Dc.form (h : Dc w base g pv bm n Q) : ∃ A c, pv = .slice A Q.length c ∧ HasE w A Q.length c (ents Q) := by
  have := h.row.form
  rwa [ents_len] at this
end

/-- Len. -/
theorem len_any {w : World} {base g : Nat} {pv : Value} {bm n : Nat} {Q : List Pth} (h : Dc w base g pv bm n Q) :
    Calls Try.prog 26 #[.pointer (some ⟨g, 0, none⟩)] w fun e w' => e = .returned (.int .i64 (Q.length : Nat)) ∧ w = w' := by
  have h1 := h.c1
  obtain ⟨A, c, rfl, hE⟩ := h.form
  have hs := h.good.size
  go_enter Try.func26, Try.ntmps26
  go_wp2
  go_ret
  exact ⟨rfl, rfl⟩
/-- has. -/
theorem has_any {w : World} {base g : Nat} {pv : Value} {bm n : Nat} {Q : List Pth} (h : Dc w base g pv bm n Q) (c : Int) {b : Bool} (hh : Hid (decide (0 ≤ c ∧ c ≤ (Q.length : Int)) = b)) :
    Calls Try.prog 53 #[.pointer (some ⟨g, 0, none⟩), .int .i64 c] w fun e w' => e = .returned (.bool b) ∧ w = w' := by
  by_cases h0 : 0 ≤ c
  · go_enter Try.func53, Try.ntmps53
    go_wp2_with fail
    refine (len_any h).mono ?_
    rintro e w' ⟨rfl, rfl⟩
    go_wp2_with fail
    go_ret
    exact ⟨bool_of (by rw [← hh.out]; simp [h0]), rfl⟩
  · go_enter Try.func53, Try.ntmps53
    go_wp2_with fail
    go_ret
    exact ⟨bool_of (by rw [← hh.out]; simp; omega), rfl⟩
end Go.Proofs.Ytccdjjpkcahgfaa
