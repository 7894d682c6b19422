/- DictK, DictO, Dims, NamesQ, NamesP -/
import Derived.Test.YtmepdkdeanbbaaaGreatJ2
import Derived.Test.YtmepdkdeanbbaaaGreatJ5
import Derived.Test.YtmepdkdeanbbaaaGreatJ10
import Derived.DeepKeys4
import Derived.Laws.RangeAny
import Derived.Maps.OwnSet
import Derived.OneCell
import Derived.Test.YtmepdkdeanbbaaaGreatRows
import Derived.WalkLawsBesides
namespace Go.Proofs.YtmepdkdeanbbaaaGreat
set_option maxRecDepth 100000
open Go.RowKit Go.Maps

theorem laidOut : laidOutB Tryz.prog = true := by kernel_rfl
theorem key_type : Tryz.prog.keyTypeAt 4 168 = true := by kernel_rfl
theorem key_law : Keyed Tryz.prog 168 := Keyed.of_law (deep_law_laid laidOut (m := 4) (by decide) (of_decide_eq_true (by kernel_rfl)) key_type (by kernel_rfl))
def keyV (a : Nat) (s : Txt) : Value := .agg #[.int .i64 (a : Int), strV s]
theorem wf_i64n {a : Nat} (h : a ≤ 1000000) : (Lit.int .i64 (a : Int)).wf = true := by
 have h1 : IntKind.i64.min = -9223372036854775808 := rfl
 have h2 : IntKind.i64.max = 9223372036854775807 := rfl
 simp only [Lit.wf, Bool.and_eq_true, decide_eq_true_eq]
 omega
theorem key_is {a : Nat} {s : Txt} (ha : a ≤ 1000000) (hs : s.length ≤ maxLen) : ∃ kl, keyOf Tryz.prog 168 (keyV a s) = some kl := by
 have h1 : Tryz.prog.keyType 168 = true := by kernel_rfl
 have h3 : Tryz.prog.cellsOf 168 = 2 := by kernel_rfl
 have h4 : Tryz.prog.cellsOf 3 = 1 := by kernel_rfl
 have h5 : Tryz.prog.cellsOf 9 = 1 := by kernel_rfl
 have hw := wf_i64n ha
 have hsz : (⟨s.toArray⟩ : ByteArray).size ≤ maxLen := by show s.toArray.size ≤ maxLen; simpa using hs
 have hf : (keyV a s).formed Tryz.prog 168 = true := by
  simp [keyV, Value.formed, Tryz.underlying168, h3]
 unfold keyOf
 rw [Tryz.underlying168, h1, hf]
 simp only [Bool.and_self, if_true]
 have hl : ∃ ls, Tryz.prog.keyLits (Tryz.prog.types.size + 1) 168 (keyV a s).cells.toList = some ls := by
  have h2 : 0 < Tryz.prog.types.size := of_decide_eq_true (by kernel_rfl)
  obtain ⟨d, hd⟩ : ∃ d, Tryz.prog.types.size + 1 = d + 2 := ⟨Tryz.prog.types.size - 1, by omega⟩
  rw [hd]
  clear hd h2 h1 hf
  simp [Program.keyLits, Tryz.underlying168, Tryz.underlying3, Tryz.underlying9, keyV, strV, Value.cells, h3, h4, h5, hw, hsz]
 obtain ⟨ls, hl⟩ := hl
 rw [hl]
 exact ⟨_, rfl⟩
theorem key_inj {a a' : Nat} {s s' : Txt} {kl : Lit} (h : keyOf Tryz.prog 168 (keyV a s) = some kl) (h' : keyOf Tryz.prog 168 (keyV a' s') = some kl) : (a, s) = (a', s') := by
 have e := key_law.inj h h'
 simp only [keyV, strV, Value.agg.injEq, Array.mk.injEq, List.cons.injEq, Value.int.injEq, Value.string.injEq, ByteArray.mk.injEq, and_true, true_and] at e
 obtain ⟨e1, e2⟩ := e
 have e1' : a = a' := by omega
 have e2' : s = s' := by simpa using e2
 rw [e1', e2']
theorem zero_int (w : World) : (zeroValue 3).run Tryz.prog w = .ok (.int .i64 0) w := by kernel_rfl

def HasM (w : World) (b : Nat) (E : List (Nat × Txt)) : Prop :=
 ∃ (n : Nat) (D : DataW Unit), w.ownsMap Tryz.prog 168 (plainElem Tryz.prog 3) b n D ∧ n ≤ E.length ∧
  ∀ (a : Nat) (s : Txt) (kl : Lit), keyOf Tryz.prog 168 (keyV a s) = some kl → Maps.has D kl = decide ((a, s) ∈ E) ∧ D.atKey kl (.lit (.int .i64 0)) = .lit (.int .i64 (fnd E (a, s) : Nat))
section
variable {w w' : World} {b : Nat} {E : List (Nat × Txt)}
theorem HasM.lt (h : HasM w b E) : b < w.heap.size := by obtain ⟨n, D, h1, _⟩ := h; exact h1.lt
theorem HasM.made (w : World) : HasM (w.alloc (.map #[] 0)) w.heap.size [] :=
 ⟨0, .map [], World.ownsMap_made _ _ _ _, Nat.le_refl _, fun a s kl h => ⟨by simp [Maps.has], by simp [fnd, DataW.atKey]⟩⟩
theorem HasM.drewN (h : HasM w b E) (k : Nat) : HasM (w.drewN k) b E := h
theorem HasM.kept {row : Option Nat} (h : HasM w b E) (hg : w.grownBy w' row) (hne : some b ≠ row) : HasM w' b E := by
 obtain ⟨n, D, h1, h2⟩ := h
 exact ⟨n, D, h1.kept hg hne, h2⟩
theorem HasM.same (h : HasM w b E) (hb : w'.heap[b]? = w.heap[b]?) : HasM w' b E := by
 obtain ⟨n, D, ⟨es, clock, h1, h2, h3, h4⟩, h5⟩ := h
 exact ⟨n, D, ⟨es, clock, hb.trans h1, h2, h3, h4⟩, h5⟩
theorem HasM.alloc (h : HasM w b E) (o : Obj) : HasM (w.alloc o) b E := h.kept (World.grownBy_alloc w o none) (by simp)
theorem HasM.is_map (h : HasM w b E) : ∃ es clock, w.heap[b]? = some (.map es clock) := by
 obtain ⟨n, D, ⟨es, clock, h1, _⟩, _⟩ := h
 exact ⟨es, clock, h1⟩
theorem HasM.step {n : Nat} {D : DataW Unit} {a : Nat} {s : Txt} {kl : Lit} (hkey : keyOf Tryz.prog 168 (keyV a s) = some kl) (hn : n ≤ E.length) (hnew : (a, s) ∉ E) (hD : IsMap D)
  (h : ∀ (a : Nat) (s : Txt) (kl : Lit), keyOf Tryz.prog 168 (keyV a s) = some kl → Maps.has D kl = decide ((a, s) ∈ E) ∧ D.atKey kl (.lit (.int .i64 0)) = .lit (.int .i64 (fnd E (a, s) : Nat)))
  (hown : w'.ownsMap Tryz.prog 168 (plainElem Tryz.prog 3) b (n + 1) (D.put kl (.lit (.int .i64 ((E.length + 1 : Nat) : Int))))) : HasM w' b (E ++ [(a, s)]) := by
 refine ⟨n + 1, _, hown, by simp; omega, fun a' s' kl' hkey' => ?_⟩
 by_cases e : (a', s') = (a, s)
 ·have e1 : kl' = kl := by
   simp only [Prod.mk.injEq] at e
   obtain ⟨rfl, rfl⟩ := e
   rw [hkey] at hkey'
   exact (Option.some.inj hkey').symm
  subst e1
  rw [e, has_put_same hD (key_law.key hkey), atKey_put_same hD (key_law.key hkey), fnd_new hnew]
  exact ⟨by simp, rfl⟩
 ·have hne : kl' ≠ kl := fun e1 => e (key_inj hkey' (e1 ▸ hkey))
  obtain ⟨h1, h2⟩ := h a' s' kl' hkey'
  rw [has_put_other hne, atKey_put_other hne, fnd_other e, h1, h2]
  exact ⟨by simp [e], rfl⟩
end

theorem HasM.look {w : World} {b : Nat} {E : List (Nat × Txt)} (h : HasM w b E) {a : Nat} {s : Txt} (ha : a ≤ 1000000) (hs : s.length ≤ maxLen) :
  (Instr.lookup 157 (.map (some b)) (keyV a s) true).run Tryz.prog w = .ok (.tuple #[.int .i64 (fnd E (a, s) : Nat), .bool (decide ((a, s) ∈ E))]) w := by
 obtain ⟨n, D, h1, h2, h3⟩ := h
 obtain ⟨kl, hkey⟩ := key_is ha hs
 obtain ⟨h4, h5⟩ := h3 a s kl hkey
 obtain ⟨v, ps, hrun, hv⟩ := h1.look_ok key_law Tryz.underlying157 (zero_int w) (zd := .lit (.int .i64 0)) (zp := []) (plainElem_int Tryz.underlying3 (by decide)) hkey
 rw [h5] at hv
 obtain ⟨c, rfl, hc, _⟩ := plainElem_int_inv Tryz.underlying3 hv
 simp only [Prod.mk.injEq, DataW.lit.injEq, Lit.int.injEq, true_and] at hc
 rw [hrun, h4, ← hc.1]
theorem HasM.store {w : World} {b : Nat} {E : List (Nat × Txt)} (h : HasM w b E) {a : Nat} {s : Txt} (ha : a ≤ 1000000) (hs : s.length ≤ maxLen) (hE : E.length ≤ 1000) (hnew : (a, s) ∉ E) :
  ∃ w', (Instr.mapUpdate 157 (.map (some b)) (keyV a s) (.int .i64 ((E.length + 1 : Nat) : Int))).run Tryz.prog w = .ok () w' ∧ HasM w' b (E ++ [(a, s)]) ∧ w.grownBy w' (some b) := by
 obtain ⟨n, D, h1, h2, h3⟩ := h
 obtain ⟨kl, hkey⟩ := key_is ha hs
 obtain ⟨w', hrun, hown, hg⟩ := h1.update key_law Tryz.underlying157 (by unfold maxLen; omega) hkey (plainElem_int (H := Unit) Tryz.underlying3 (wf_i64n (a := E.length + 1) (by omega)))
 exact ⟨w', hrun, HasM.step hkey h2 hnew h1.isMap h3 hown, hg⟩
end Go.Proofs.YtmepdkdeanbbaaaGreat
namespace Go.Proofs.YtmepdkdeanbbaaaGreat
set_option maxRecDepth 100000
open Go.RowKit

/-! ### What may have changed -/
structure Chg (S : Nat → Prop) (w w' : World) : Prop where
 os : w'.os = w.os
 tape : w'.tape = w.tape
 output : w'.output = w.output
 size : w.heap.size ≤ w'.heap.size
 block : ∀ k, k < w.heap.size → ¬ S k → w'.heap[k]? = w.heap[k]?
section
variable {S S' : Nat → Prop} {a b c w w' : World}
theorem Chg.refl (S : Nat → Prop) (w : World) : Chg S w w := ⟨rfl, rfl, rfl, Nat.le_refl _, fun _ _ _ => rfl⟩
theorem Chg.of_below {B : Nat} (h : Below B w w') (hB : w.heap.size ≤ B) : Chg S w w' := ⟨h.os, h.tape, h.output, h.size, fun k hk _ => h.block k (by omega)⟩
theorem Chg.of_grown {row : Option Nat} (h : w.grownBy w' row) (hS : ∀ k, row = some k → k < w.heap.size → S k) : Chg S w w' :=
 ⟨h.os, h.tape, h.output, h.size, fun k hk hn => h.block k hk fun e => hn (hS k e.symm hk)⟩
theorem Chg.trans (h : Chg S a b) (h' : Chg S' b c) (hS : ∀ k, k < a.heap.size → S' k → S k) : Chg S a c :=
 ⟨h'.os.trans h.os, h'.tape.trans h.tape, h'.output.trans h.output, Nat.le_trans h.size h'.size, fun k hk hn => (h'.block k (Nat.lt_of_lt_of_le hk h.size) fun hs => hn (hS k hk hs)).trans (h.block k hk hn)⟩
theorem Chg.mono (h : Chg S w w') (hS : ∀ k, k < w.heap.size → S k → S' k) : Chg S' w w' := ⟨h.os, h.tape, h.output, h.size, fun k hk hn => h.block k hk fun hs => hn (hS k hk hs)⟩
theorem Chg.below (h : Chg S w w') {B : Nat} (hB : B ≤ w.heap.size) (hS : ∀ k, S k → B ≤ k) : Below B w w' := ⟨h.os, h.tape, h.output, h.size, fun k hk => h.block k (by omega) fun hs => by have := hS k hs; omega⟩
theorem Chg.drewN (h : Chg S a b) (k : Nat) : Chg S a (b.drewN k) := ⟨h.os, h.tape, h.output, h.size, h.block⟩
theorem Chg.alloc (h : Chg S a b) (o : Obj) : Chg S a (b.alloc o) := h.trans (Chg.of_below (S := S) ((Below.refl _ b).alloc (Nat.le_refl _) o) (Nat.le_refl _)) fun _ _ hs => hs
theorem Chg.set_ (h : Chg S a b) (g i : Nat) (u : Value) (hS : g < a.heap.size → S g) : Chg S a (b.setCell ⟨g, i, none⟩ u) :=
 ⟨h.os, h.tape, h.output, by simpa [World.setCell] using h.size, fun k hk hn => by
  have hne : g ≠ k := fun e => hn (e ▸ hS (e ▸ hk))
  rw [← h.block k hk hn]
  simp [World.setCell, Array.getElem?_modify, hne]⟩
theorem Chg.row {base : Nat} {e : TypeId} {size n : Nat} {v : Value} {xs : List Value} (h : Chg S w w') (hr : w.ownsRow base e size v n xs) (hn : ∀ k, v.ownBlock = some k → ¬ S k) : w'.ownsRow base e size v n xs := by
 refine ⟨hr.1, hr.2.imp id ?_⟩
 rintro ⟨g, cap, cur, rfl, hb, hg, r⟩
 exact ⟨g, cap, cur, rfl, hb, (h.block g (Array.getElem?_eq_some_iff.1 hg).1 (hn g rfl)).trans hg, r⟩
end

/-! ### The row of paths -/
def pcs (e : Nat × Txt) : List Value := [.int .i64 (e.1 : Int), strV e.2]
theorem pcs_len (E : List (Nat × Txt)) : (E.flatMap pcs).length = E.length * 2 := by
 induction E with
 | nil => rfl
 | cons e r ih => simp [List.flatMap_cons, ih, pcs]; omega
theorem pcs_get {E : List (Nat × Txt)} {i : Nat} {a : Nat} {s : Txt} (h : E[i]? = some (a, s)) : (E.flatMap pcs)[i * 2]? = some (.int .i64 (a : Int)) ∧ (E.flatMap pcs)[i * 2 + 1]? = some (strV s) := by
 induction E generalizing i with
 | nil => simp at h
 | cons e r ih =>
  cases i with
  | zero =>
   simp at h
   subst h
   simp [List.flatMap_cons, pcs]
  | succ i =>
   have := ih (i := i) (by simpa using h)
   rw [show (i + 1) * 2 = i * 2 + 1 + 1 by omega]
   simpa [List.flatMap_cons, pcs] using this
theorem pcs_one (E : List (Nat × Txt)) : ∀ u ∈ E.flatMap pcs, u.oneCell' = true := by
 intro u hu
 obtain ⟨e, _, he⟩ := List.mem_flatMap.1 hu
 simp [pcs] at he
 rcases he with rfl | rfl <;> rfl
def OwnE (w : World) (base : Nat) (v : Value) (E : List (Nat × Txt)) : Prop := w.ownsRow base 168 2 v E.length (E.flatMap pcs)
structure HasE (w : World) (A : Option Addr) (n c : Nat) (E : List (Nat × Txt)) : Prop where
 len : E.length = n
 cap : n ≤ c
 fit : c ≤ maxLen
 void : A = none → c = 0
 has : ∀ (i a : Nat) (s : Txt), E[i]? = some (a, s) → ∃ b o, A = some ⟨b, o, none⟩ ∧ b < w.heap.size ∧ w.cell? ⟨b, o + i * 2, none⟩ = some (.int .i64 (a : Int)) ∧ w.cell? ⟨b, o + i * 2 + 1, none⟩ = some (strV s)
section
variable {w w' : World} {base : Nat} {v : Value} {E : List (Nat × Txt)}
theorem OwnE.nil_ (w : World) (base : Nat) : OwnE w base (.slice none 0 0) [] := World.ownsRow_nil w base _ 2
theorem OwnE.form (h : OwnE w base v E) : ∃ A c, v = .slice A E.length c ∧ HasE w A E.length c E := by
 rcases h.2 with ⟨rfl, h0⟩ | ⟨g, cap, cur, rfl, hb, hg, hnc, hcm, hcs, ht⟩
 ·have hl : E = [] := List.eq_nil_of_length_eq_zero h0
  subst hl
  exact ⟨none, 0, rfl, rfl, Nat.le_refl _, Nat.zero_le _, fun _ => rfl, fun i a s h => by simp at h⟩
 ·refine ⟨_, cap, rfl, rfl, hnc, hcm, (fun h => by cases h), fun i a s hi => ?_⟩
  have hc := World.ownsRow.cells h (g := g) rfl
  obtain ⟨h1, h2⟩ := pcs_get hi
  have e1 := hc _ _ h1
  have e2 := hc _ _ h2
  rw [add_flat] at e1 e2
  rw [← Nat.add_assoc] at e2
  exact ⟨g, 0, rfl, (Array.getElem?_eq_some_iff.1 hg).1, e1, e2⟩
theorem OwnE.low {base' : Nat} (h : OwnE w base v E) (hb : base' ≤ base) : OwnE w base' v E := row_low h hb
theorem OwnE.drewN (h : OwnE w base v E) (k : Nat) : OwnE (w.drewN k) base v E := h
theorem OwnE.below (h : OwnE w base v E) (hb : Below w.heap.size w w') : OwnE w' base v E := row_below h hb
theorem HasE.below {A : Option Addr} {n c : Nat} (h : HasE w A n c E) (hb : Below w.heap.size w w') : HasE w' A n c E :=
 ⟨h.len, h.cap, h.fit, h.void, fun i a s hi => by
  obtain ⟨b, o, h1, h2, h3, h4⟩ := h.has i a s hi
  exact ⟨b, o, h1, Nat.lt_of_lt_of_le h2 hb.size, (hb.cell (p := ⟨b, o + i * 2, none⟩) h2).trans h3, (hb.cell (p := ⟨b, o + i * 2 + 1, none⟩) h2).trans h4⟩⟩
end

/-! ### A dictionary -/
structure Dc (w : World) (base g : Nat) (pv : Value) (bm n : Nat) (Q : List Pth) : Prop where
 block : Block w g 160 #[.int .i64 (n : Int), pv, .map (some bm)]
 row : OwnE w base pv (ents Q)
 map : HasM w bm (ents Q)
 gb : base ≤ g
 mb : base ≤ bm
 good : Good n Q
def foot (g : Nat) (pv : Value) (bm : Nat) (k : Nat) : Prop := k = g ∨ pv.ownBlock = some k ∨ k = bm
section
variable {w w' : World} {base g : Nat} {pv : Value} {bm n : Nat} {Q : List Pth}
theorem Dc.drewN (h : Dc w base g pv bm n Q) (k : Nat) : Dc (w.drewN k) base g pv bm n Q := ⟨h.block.drewN k, h.row.drewN k, h.map.drewN k, h.gb, h.mb, h.good⟩
theorem Dc.chg {S : Nat → Prop} (h : Dc w base g pv bm n Q) (hc : Chg S w w') (hS : ∀ k, foot g pv bm k → ¬ S k) : Dc w' base g pv bm n Q :=
 ⟨(hc.block g h.block.lt (hS g (.inl rfl))).trans h.block, hc.row h.row fun k hk => hS k (.inr (.inl hk)), h.map.same (hc.block bm h.map.lt (hS bm (.inr (.inr rfl)))), h.gb, h.mb, h.good⟩
theorem Dc.below (h : Dc w base g pv bm n Q) (hb : Below w.heap.size w w') : Dc w' base g pv bm n Q := h.chg (S := fun _ => False) (Chg.of_below hb (Nat.le_refl _)) (fun _ _ h => h)
theorem Dc.low {base' : Nat} (h : Dc w base g pv bm n Q) (hb : base' ≤ base) : Dc w base' g pv bm n Q := ⟨h.block, h.row.low hb, h.map, Nat.le_trans hb h.gb, Nat.le_trans hb h.mb, h.good⟩
theorem Dc.foot_base (h : Dc w base g pv bm n Q) {k : Nat} (hk : foot g pv bm k) : base ≤ k ∧ k < w.heap.size := by
 rcases hk with rfl | hk | rfl
 ·exact ⟨h.gb, h.block.lt⟩
 ·exact World.ownsRow.lt h.row k hk
 ·exact ⟨h.mb, h.map.lt⟩
theorem Dc.g_bm (h : Dc w base g pv bm n Q) : g ≠ bm := by
 rintro rfl
 obtain ⟨es, clock, he⟩ := h.map.is_map
 have hb : w.heap[g]? = some (.cells _ _ _) := h.block
 rw [hb] at he
 cases he
theorem Dc.row_bm (h : Dc w base g pv bm n Q) : pv.ownBlock ≠ some bm := by
 intro hk
 obtain ⟨es, clock, he⟩ := h.map.is_map
 rcases h.row.2 with ⟨e, _⟩ | ⟨g', cap, cur, e, _, hg, _⟩
 ·rw [e] at hk; cases hk
 ·rw [e] at hk
  simp only [Value.ownBlock, Option.some.injEq] at hk
  subst hk
  rw [hg] at he
  cases he
theorem Dc.row_g (h : Dc w base g pv bm n Q) : pv.ownBlock ≠ some g := by
 intro hk
 rcases h.row.2 with ⟨e, _⟩ | ⟨g', cap, cur, e, _, hg, _⟩
 ·rw [e] at hk; cases hk
 ·rw [e] at hk
  simp only [Value.ownBlock, Option.some.injEq] at hk
  subst hk
  have hb : w.heap[g']? = some (.cells _ _ _) := h.block
  rw [hg] at hb
  simp only [Option.some.injEq, Obj.cells.injEq] at hb
  exact absurd hb.2.1 (by decide)
theorem Dc.c0 (h : Dc w base g pv bm n Q) : w.cell? ⟨g, 0, none⟩ = some (.int .i64 (n : Int)) := h.block.cell 0
theorem Dc.c1 (h : Dc w base g pv bm n Q) : w.cell? ⟨g, 1, none⟩ = some pv := h.block.cell 1
theorem Dc.c2 (h : Dc w base g pv bm n Q) : w.cell? ⟨g, 2, none⟩ = some (.map (some bm)) := h.block.cell 2
theorem Dc.form (h : Dc w base g pv bm n Q) : ∃ A c, pv = .slice A Q.length c ∧ HasE w A Q.length c (ents Q) := by
 have := h.row.form
 rwa [ents_len] at this
end

theorem len_any {w : World} {base g : Nat} {pv : Value} {bm n : Nat} {Q : List Pth} (h : Dc w base g pv bm n Q) :
  Calls Tryz.prog 120 #[.pointer (some ⟨g, 0, none⟩)] w fun e w' => e = .returned (.int .i64 (Q.length : Nat)) ∧ w = w' := by
 have h1 := h.c1
 obtain ⟨A, c, rfl, hE⟩ := h.form
 have hs := h.good.size
 go_enter Tryz.func120, Tryz.ntmps120
 go_wp2
 go_ret
 exact ⟨rfl, rfl⟩
theorem has_any {w : World} {base g : Nat} {pv : Value} {bm n : Nat} {Q : List Pth} (h : Dc w base g pv bm n Q) (c : Int) {b : Bool} (hh : Hid (decide (0 ≤ c ∧ c ≤ (Q.length : Int)) = b)) :
  Calls Tryz.prog 183 #[.pointer (some ⟨g, 0, none⟩), .int .i64 c] w fun e w' => e = .returned (.bool b) ∧ w = w' := by
 by_cases h0 : 0 ≤ c
 ·go_enter Tryz.func183, Tryz.ntmps183
  go_wp2_with fail
  refine (len_any h).mono ?_
  rintro e w' ⟨rfl, rfl⟩
  go_wp2_with fail
  go_ret
  exact ⟨bool_of (by rw [← hh.out]; simp [h0]), rfl⟩
 ·go_enter Tryz.func183, Tryz.ntmps183
  go_wp2_with fail
  go_ret
  exact ⟨bool_of (by rw [← hh.out]; simp; omega), rfl⟩
end Go.Proofs.YtmepdkdeanbbaaaGreat
namespace Go.Proofs.YtmepdkdeanbbaaaGreat
set_option maxRecDepth 100000
open Go.RowKit

structure HasDs (w : World) (B : Nat) (A : Option Addr) (n c : Nat) (D : List PDim) : Prop where
 len : D.length = n
 cap : n ≤ c
 fit : c ≤ maxLen
 void : A = none → c = 0
 has : ∀ i, i < n → ∃ b o A' n' c', A = some ⟨b, o, none⟩ ∧ b < B ∧ w.cell? ⟨b, o + i * 2, none⟩ = some (strV (D.getD i zeroD).1) ∧ w.cell? ⟨b, o + i * 2 + 1, none⟩ = some (.slice A' n' c') ∧ HasT w B A' n' c' (D.getD i zeroD).2
section
variable {w w' : World} {B B' n c : Nat} {A : Option Addr} {D : List PDim}
theorem HasDs.keep (h : HasDs w B A n c D) (hk : ∀ b o, b < B → w'.cell? ⟨b, o, none⟩ = w.cell? ⟨b, o, none⟩) : HasDs w' B A n c D :=
 ⟨h.len, h.cap, h.fit, h.void, fun i hi => by
  obtain ⟨b, o, A', n', c', h1, h2, h3, h4, h5⟩ := h.has i hi
  exact ⟨b, o, A', n', c', h1, h2, (hk b _ h2).trans h3, (hk b _ h2).trans h4, h5.keep hk⟩⟩
theorem HasDs.more (h : HasDs w B A n c D) (hB : B ≤ B') : HasDs w B' A n c D :=
 ⟨h.len, h.cap, h.fit, h.void, fun i hi => by
  obtain ⟨b, o, A', n', c', h1, h2, h3, h4, h5⟩ := h.has i hi
  exact ⟨b, o, A', n', c', h1, Nat.lt_of_lt_of_le h2 hB, h3, h4, h5.more hB⟩⟩
theorem HasDs.below {C : Nat} (h : HasDs w B A n c D) (hb : Below C w w') (hC : B ≤ C) : HasDs w' B A n c D :=
 h.keep fun b o hp => hb.cell (p := ⟨b, o, none⟩) (Nat.lt_of_lt_of_le hp hC)
theorem HasDs.belowS (h : HasDs w w.heap.size A n c D) (hb : Below w.heap.size w w') : HasDs w' w'.heap.size A n c D := (h.below hb (Nat.le_refl _)).more hb.size
theorem HasDs.lenMax (h : HasDs w B A n c D) : n ≤ 9223372036854775807 := by
 have h1 := h.cap; have h2 := h.fit
 unfold maxLen at h2; omega
theorem HasDs.capMax (h : HasDs w B A n c D) : c ≤ 9223372036854775807 := by
 have h2 := h.fit
 unfold maxLen at h2; omega
theorem HasDs.at_ (h : HasDs w B A n c D) {k : Nat} (hk : k < n) : ∃ b o x A' n' c' L, A = some ⟨b, o, none⟩ ∧ b < B ∧
  w.cell? ⟨b, o + k * 2, none⟩ = some (.string ⟨x.toArray⟩) ∧ w.cell? ⟨b, o + k * 2 + 1, none⟩ = some (.slice A' n' c') ∧ HasT w B A' n' c' L ∧ Hid (D.getD k zeroD = (x, L)) := by
 obtain ⟨b, o, A', n', c', h1, h2, h3, h4, h5⟩ := h.has k hk
 exact ⟨b, o, _, A', n', c', _, h1, h2, h3, h4, h5, Lib.hid rfl⟩
end

/-! ### A schema by value -/
abbrev schV (A1 : Option Addr) (n1 c1 : Nat) (A2 : Option Addr) (n2 c2 : Nat) (A3 : Option Addr) (n3 c3 : Nat) : Value :=
 .agg #[.slice A1 n1 c1, .slice A2 n2 c2, .slice A3 n3 c3]
structure HasS (w : World) (B : Nat) (A1 : Option Addr) (n1 c1 : Nat) (A2 : Option Addr) (n2 c2 : Nat) (A3 : Option Addr) (n3 c3 : Nat) (D : List PDim) (M : List Txt) (V : List (List Int)) : Prop where
 d : HasDs w B A1 n1 c1 D
 m : HasT w B A2 n2 c2 M
 v : HasL w B A3 n3 c3 V
section
variable {w w' : World} {B B' n1 c1 n2 c2 n3 c3 : Nat} {A1 A2 A3 : Option Addr} {D : List PDim} {M : List Txt} {V : List (List Int)}
theorem HasS.more (h : HasS w B A1 n1 c1 A2 n2 c2 A3 n3 c3 D M V) (hB : B ≤ B') : HasS w B' A1 n1 c1 A2 n2 c2 A3 n3 c3 D M V := ⟨h.d.more hB, h.m.more hB, h.v.more hB⟩
theorem HasS.below {C : Nat} (h : HasS w B A1 n1 c1 A2 n2 c2 A3 n3 c3 D M V) (hb : Below C w w') (hC : B ≤ C) : HasS w' B A1 n1 c1 A2 n2 c2 A3 n3 c3 D M V := ⟨h.d.below hb hC, h.m.below hb hC, h.v.below hb hC⟩
theorem HasS.belowS (h : HasS w w.heap.size A1 n1 c1 A2 n2 c2 A3 n3 c3 D M V) (hb : Below w.heap.size w w') : HasS w' w'.heap.size A1 n1 c1 A2 n2 c2 A3 n3 c3 D M V := (h.below hb (Nat.le_refl _)).more hb.size
end

/-! ### What came in -/
theorem cells_dim : Tryz.prog.cellsOf 75 = 2 := by kernel_rfl
theorem cells_string : Tryz.prog.cellsOf 9 = 1 := by kernel_rfl
theorem cells_strings : Tryz.prog.cellsOf 23 = 1 := by kernel_rfl
theorem cells_int1 : Tryz.prog.cellsOf 3 = 1 := by kernel_rfl
theorem cells_ints : Tryz.prog.cellsOf 47 = 1 := by kernel_rfl
theorem cells_dims : Tryz.prog.cellsOf 22 = 1 := by kernel_rfl
theorem cells_lists : Tryz.prog.cellsOf 24 = 1 := by kernel_rfl
theorem cells_schema : Tryz.prog.cellsOf 26 = 3 := by kernel_rfl
def FitD (D : List PDim) : Prop := ∀ d ∈ D, d.1.length ≤ maxLen ∧ ∀ s ∈ d.2, s.length ≤ maxLen
/-! ### Rows of dimensions of the call's own, whose levels lie below C -/
section
variable {w w' : World} {base C : Nat} {v : Value} {D : List PDim}
end
end Go.Proofs.YtmepdkdeanbbaaaGreat
namespace Go.Proofs.YtmepdkdeanbbaaaGreat
set_option maxRecDepth 100000
open Go.RowKit

def standB (r : Int) : Bool := decide (97 ≤ r ∧ r ≤ 122 ∨ 48 ≤ r ∧ r ≤ 57 ∨ r = 45 ∨ r = 95)
theorem stand_any (r : Int) (w : World) : Calls Tryz.prog 214 #[.int .i32 r] w fun e w' => e = .returned (.bool (standB r)) ∧ w = w' := by
 by_cases h1 : 97 ≤ r ∧ r ≤ 122
 ·obtain ⟨h2, h3⟩ := h1
  have H : Hid (standB r = true) := Lib.hid (by unfold standB; simp; omega)
  go_enter Tryz.func214, Tryz.ntmps214
  go_wp2
  go_ret
  exact ⟨bool_of H.out.symm, rfl⟩
 ·by_cases h4 : 48 ≤ r ∧ r ≤ 57
  ·obtain ⟨h2, h3⟩ := h4
   have h5 : ¬ 97 ≤ r := by omega
   have H : Hid (standB r = true) := Lib.hid (by unfold standB; simp; omega)
   clear h1
   go_enter Tryz.func214, Tryz.ntmps214
   go_wp2
   go_ret
   exact ⟨bool_of H.out.symm, rfl⟩
  ·by_cases h5 : r = 45
   ·subst h5
    clear h1 h4
    go_enter Tryz.func214, Tryz.ntmps214
    go_wp2
    go_ret
    exact ⟨rfl, rfl⟩
   ·by_cases h6 : r = 95
    ·subst h6
     clear h1 h4 h5
     go_enter Tryz.func214, Tryz.ntmps214
     go_wp2
     go_ret
     exact ⟨rfl, rfl⟩
    ·have H : Hid (standB r = false) := Lib.hid (by unfold standB; simp; omega)
     have h7 : (r == 45) = false := by simp; omega
     have h8 : (r == 95) = false := by simp; omega
     clear h5 h6
     by_cases g1 : 97 ≤ r
     ·have g2 : ¬ r ≤ 122 := by omega
      have g3 : 48 ≤ r := by omega
      have g4 : ¬ r ≤ 57 := by omega
      clear h1 h4
      go_enter Tryz.func214, Tryz.ntmps214
      go_wp2
      go_ret
      exact ⟨bool_of H.out.symm, rfl⟩
     ·by_cases g3 : 48 ≤ r
      ·have g4 : ¬ r ≤ 57 := by omega
       clear h1 h4
       go_enter Tryz.func214, Tryz.ntmps214
       go_wp2
       go_ret
       exact ⟨bool_of H.out.symm, rfl⟩
      ·clear h1 h4
       go_enter Tryz.func214, Tryz.ntmps214
       go_wp2
       go_ret
       exact ⟨bool_of H.out.symm, rfl⟩
theorem standB_let (b : UInt8) : standB (b.toNat : Int) = isLet b := by
 unfold standB isLet
 rw [Bool.eq_iff_iff]
 simp only [decide_eq_true_eq, Bool.or_eq_true, Bool.and_eq_true, beq_iff_eq, UInt8.le_iff_toNat_le, ← UInt8.toNat_inj]
 have : (97 : UInt8).toNat = 97 := rfl
 have : (122 : UInt8).toNat = 122 := rfl
 have : (48 : UInt8).toNat = 48 := rfl
 have : (57 : UInt8).toNat = 57 := rfl
 have : (45 : UInt8).toNat = 45 := rfl
 have : (95 : UInt8).toNat = 95 := rfl
 omega
theorem isLet_low {b : UInt8} (h : isLet b = true) : b.toNat < 128 := by
 rw [← standB_let] at h
 unfold standB at h
 simp at h
 omega
theorem standB_high {r : Nat} (h : 128 ≤ r) : standB (r : Int) = false := by
 unfold standB
 simp
 omega
theorem getElem_data (s : ByteArray) {p : Nat} (h : p < s.size) : s.data.toList[p]'(by simpa using h) = s[p]'h := by simp [ByteArray.getElem_eq_getElem_data]
theorem nameP_step {s : ByteArray} {p : Nat} (h : p < s.size) (ht : ∀ b ∈ s.data.toList.take p, isLet b = true) (hb : isLet (s[p]'h) = true) : ∀ b ∈ s.data.toList.take (p + 1), isLet b = true := by
 rw [List.take_succ_eq_append_getElem (by simpa using h), getElem_data s h]
 intro b hm
 rcases List.mem_append.1 hm with hm | hm
 ·exact ht b hm
 ·rw [List.mem_singleton.1 hm]; exact hb
theorem nameP_not {s : ByteArray} {p : Nat} (h : p < s.size) (hb : isLet (s[p]'h) = false) : decide (nameP s.data.toList) = false := by
 rw [decide_eq_false_iff_not]
 intro hn
 have := hn.2.2 (s[p]'h) (by rw [← getElem_data s h]; exact List.getElem_mem _)
 rw [hb] at this
 cases this
theorem nameP_all {s : ByteArray} {p : Nat} (h : ¬ p < s.size) (h1 : 1 ≤ s.size) (h2 : s.size ≤ 12) (ht : ∀ b ∈ s.data.toList.take p, isLet b = true) : decide (nameP s.data.toList) = true := by
 rw [decide_eq_true_eq]
 have hl : s.data.toList.length = s.size := by simp
 refine ⟨by omega, by omega, ?_⟩
 rwa [List.take_of_length_le (by omega)] at ht

theorem below_iter (w : World) (s : ByteArray) (pos : Nat) : Below w.heap.size w (w.iter s pos) := (Below.refl _ _).alloc (Nat.le_refl _) _

set_option maxRecDepth 100000 in
set_option maxHeartbeats 1000000 in
theorem nameS_any (s : ByteArray) (w : World) : Calls Tryz.prog 154 #[.string s] w fun e w' => e = .returned (.bool (decide (nameP s.data.toList))) ∧ Below w.heap.size w w' := by
 have hl : s.data.toList.length = s.size := by simp
 by_cases h0 : s.size = 0
 ·have H : Hid (decide (nameP s.data.toList) = false) := Lib.hid (by rw [decide_eq_false_iff_not]; intro h; have := h.1; omega)
  have hs : s.toList.isEmpty = true := by rw [ByteArray.toList_eq, List.isEmpty_iff]; exact List.eq_nil_of_length_eq_zero (by omega)
  have hs2 : s.toList = [] := List.isEmpty_iff.1 hs
  clear h0 hl
  go_enter Tryz.func154, Tryz.ntmps154
  go_wp2
  go_ret
  exact ⟨bool_of H.out.symm, Below.refl _ _⟩
 ·have hs : s.toList.isEmpty = false := by rw [ByteArray.toList_eq, List.isEmpty_eq_false_iff]; intro e; rw [e] at hl; simp at hl; omega
  have hs2 : (s.toList == []) = false := by rw [beq_eq_false_iff_ne]; intro e; rw [e] at hs; cases hs
  by_cases h12 : 12 < s.size
  ·have H : Hid (decide (nameP s.data.toList) = false) := Lib.hid (by rw [decide_eq_false_iff_not]; intro h; have := h.2.1; omega)
   clear h0 hl
   go_enter Tryz.func154, Tryz.ntmps154
   go_wp2
   go_ret
   exact ⟨bool_of H.out.symm, Below.refl _ _⟩
  ·clear hl
   go_enter Tryz.func154, Tryz.ntmps154
   go_wp2
   go_loopw [4] (fun _ wr => ∃ pos : Nat, wr = w.iter s pos ∧ Hid (∀ b ∈ s.data.toList.take pos, isLet b = true)) (fun _ wr => s.size - wr.iterPos w.heap.size)
   case atStart => exact ⟨0, rfl, Lib.hid (by simp)⟩
   case round =>
    obtain ⟨pos, rfl, ht⟩ := hrel
    have HB : Below w.heap.size w (w.iter s pos) := below_iter w s pos
    by_cases hp : pos < s.size
    ·by_cases ha : (s[pos]'hp).toNat < 128
     ·have hnx : ∀ ty, (Instr.next (.pointer (some ⟨w.heap.size, 0, none⟩)) true ty).run Tryz.prog (w.iter s pos) = _ := fun ty => run_next_ascii w s pos ty hp ha
      cases hb : isLet (s[pos]'hp) with
      | true =>
       have H := Lib.hid (nameP_step hp ht.out hb)
       have hst : standB ((s[pos]'hp).toNat : Int) = true := (standB_let _).trans hb
       clear hb
       go_wp2_with (go_at_call 214; refine (stand_any _ _).mono ?_; rintro e w' ⟨rfl, rfl⟩)
       go_roundw
       case rel => exact ⟨pos + 1, rfl, H⟩
       case measure => simp; omega
      | false =>
       have H := Lib.hid (nameP_not hp hb)
       have hst : standB ((s[pos]'hp).toNat : Int) = false := (standB_let _).trans hb
       clear hb
       go_wp2_with (go_at_call 214; refine (stand_any _ _).mono ?_; rintro e w' ⟨rfl, rfl⟩)
       go_ret
       exact ⟨bool_of H.out.symm, below_iter w s (pos + 1)⟩
     ·have hnx : ∀ ty, (Instr.next (.pointer (some ⟨w.heap.size, 0, none⟩)) true ty).run Tryz.prog (w.iter s pos) = _ := fun ty => run_next_any w s pos ty hp
      have hb : isLet (s[pos]'hp) = false := by
       cases hb : isLet (s[pos]'hp) with
       | true => exact absurd (isLet_low hb) ha
       | false => rfl
      have H := Lib.hid (nameP_not hp hb)
      have hd := (decode_high s pos hp (by omega)).1
      have hst : standB ((Utf8.decode s pos).1 : Int) = false := standB_high hd
      clear hb
      go_wp2_with (go_at_call 214; refine (stand_any _ _).mono ?_; rintro e w' ⟨rfl, rfl⟩)
      go_ret
      exact ⟨bool_of H.out.symm, below_iter w s _⟩
    ·have hnx : ∀ ty, (Instr.next (.pointer (some ⟨w.heap.size, 0, none⟩)) true ty).run Tryz.prog (w.iter s pos) = _ := fun ty => run_next_end w s pos ty hp
     have H := Lib.hid (nameP_all hp (by omega) (by omega) ht.out)
     go_wp2
     go_ret
     exact ⟨bool_of H.out.symm, HB⟩
theorem name_any (x : Txt) (w : World) : Calls Tryz.prog 154 #[.string ⟨x.toArray⟩] w fun e w' => e = .returned (.bool (decide (nameP x))) ∧ Below w.heap.size w w' := by
 have := nameS_any ⟨x.toArray⟩ w
 simpa using this
end Go.Proofs.YtmepdkdeanbbaaaGreat
namespace Go.Proofs.YtmepdkdeanbbaaaGreat
set_option maxRecDepth 100000
open Go.RowKit

theorem name_yes {x : Txt} (h : nameP x) (w : World) : Calls Tryz.prog 154 #[.string ⟨x.toArray⟩] w fun e w' => e = .returned (.bool true) ∧ Below w.heap.size w w' := by
 have := name_any x w
 rwa [decide_eq_true h] at this
theorem name_no {x : Txt} (h : ¬ nameP x) (w : World) : Calls Tryz.prog 154 #[.string ⟨x.toArray⟩] w fun e w' => e = .returned (.bool false) ∧ Below w.heap.size w w' := by
 have := name_any x w
 rwa [decide_eq_false h] at this
theorem mayP_step {L : List Txt} {k : Nat} {x : Txt} (hk : k < L.length) (hx : x = L.getD k []) (h : nameP x) (ht : ∀ s ∈ L.take k, nameP s) : ∀ s ∈ L.take (k + 1), nameP s := by
 rw [List.take_succ_eq_append_getElem hk]
 intro s hs
 rcases List.mem_append.1 hs with hs | hs
 ·exact ht s hs
 ·rw [List.mem_singleton.1 hs]
  simpa [hx, List.getD_eq_getElem?_getD, List.getElem?_eq_getElem hk] using h
theorem mayP_not {L : List Txt} {k : Nat} {x : Txt} (hk : k < L.length) (hx : x = L.getD k []) (h : ¬ nameP x) : decide (mayP L) = false := by
 rw [decide_eq_false_iff_not]
 intro hm
 refine h (hm.2 x ?_)
 rw [hx, List.getD_eq_getElem?_getD, List.getElem?_eq_getElem hk]
 exact List.getElem_mem hk
theorem mayP_all {L : List Txt} {k : Nat} (hk : L.length ≤ k) (h3 : L.length ≤ 3) (ht : ∀ s ∈ L.take k, nameP s) : decide (mayP L) = true := by
 rw [decide_eq_true_eq]
 rw [List.take_of_length_le hk] at ht
 exact ⟨h3, ht⟩
theorem mayP_long {L : List Txt} (h3 : 3 < L.length) : decide (mayP L) = false := by
 rw [decide_eq_false_iff_not]
 intro h
 have := h.1
 omega

set_option maxRecDepth 100000 in
set_option maxHeartbeats 1000000 in
theorem may_any {A : Option Addr} {n c : Nat} {L : List Txt} {w : World} (h : HasT w w.heap.size A n c L) :
  Calls Tryz.prog 159 #[.slice A n c] w fun e w' => e = .returned (.bool (decide (mayP L))) ∧ Below w.heap.size w w' := by
 have hl := h.len
 have hn := h.lenMax
 by_cases h3 : 3 < n
 ·have H := Lib.hid (mayP_long (L := L) (by omega))
  have h3' : (3 : Int) < (n : Int) := by omega
  clear hl
  go_enter Tryz.func159, Tryz.ntmps159
  go_wp2
  go_ret
  exact ⟨bool_of H.out.symm, Below.refl _ _⟩
 ·have h3' : ¬ (3 : Int) < (n : Int) := by omega
  have HL := Lib.hid hl
  clear hl
  go_enter Tryz.func159, Tryz.ntmps159
  go_wp2
  go_loopw [10] (fun i wr => ∃ k : Nat, k ≤ n ∧ i = .int .i64 k ∧ Below w.heap.size w wr ∧ Hid (∀ s ∈ L.take k, nameP s)) (fun i _ => n - (intOf i).toNat)
  case atStart => exact ⟨0, Nat.zero_le _, rfl, Below.refl _ _, Lib.hid (by simp)⟩
  case round =>
   obtain ⟨k, hk, rfl, hB, ht⟩ := hrel
   by_cases hlt : k < n
   ·obtain ⟨b, o, x, rfl, hb, hc, ex⟩ := (h.below hB (Nat.le_refl _)).at_ hlt
    by_cases hx : nameP x
    ·have H := Lib.hid (mayP_step (by have := HL.out; omega) ex.out hx ht.out)
     have HX := Lib.hid hx
     clear hx
     go_wp2_with fail
     refine (name_yes HX.out _).mono ?_
     rintro e v ⟨rfl, hb1⟩
     have hB2 := hB.trans (hb1.mono hB.size)
     go_wp2_with fail
     go_roundw
     case rel => exact ⟨k + 1, by omega, by go_num, hB2, H⟩
     case measure => simp [intOf]; omega
    ·have H := Lib.hid (mayP_not (by have := HL.out; omega) ex.out hx)
     have HX := Lib.hid hx
     clear hx
     go_wp2_with fail
     refine (name_no HX.out _).mono ?_
     rintro e v ⟨rfl, hb1⟩
     have hB2 := hB.trans (hb1.mono hB.size)
     go_wp2_with fail
     go_ret
     exact ⟨bool_of H.out.symm, hB2⟩
   ·have H := Lib.hid (mayP_all (by have := HL.out; omega) (by have := HL.out; omega) ht.out)
    go_wp2
    go_ret
    exact ⟨bool_of H.out.symm, hB⟩

/-! ### The reference's -/
end Go.Proofs.YtmepdkdeanbbaaaGreat
