/- Layer 7: the map of a dictionary: its keys are structs of an int and a text. -/
import Derived.Test.YtccdjjpkcahgfaaRows
import Derived.Test.YtccdjjpkcahgfaaDictM
import Derived.Test.YtccdjjpkcahgfaaTexts
import Derived.Maps.OwnSet
import Derived.DeepKeys4
namespace Go.Proofs.Ytccdjjpkcahgfaa
open Go.RowKit Go.Maps

theorem laidOut : laidOutB Try.prog = true := by kernel_rfl
theorem key_type : Try.prog.keyTypeAt 4 77 = true := by kernel_rfl
theorem key_law : Keyed Try.prog 77 := Keyed.of_law (deep_law_laid laidOut (m := 4) (by decide) (of_decide_eq_true (by kernel_rfl)) key_type (by kernel_rfl))
/-- A key as the model has it. -/
def keyV (a : Nat) (s : Txt) : Value := .agg #[.int .i64 (a : Int), strV s]
theorem wf_i64n {a : Nat} (h : a ≤ 1000000) : (Lit.int .i64 (a : Int)).wf = true := by
  have h1 : IntKind.i64.min = -9223372036854775808 := rfl
  have h2 : IntKind.i64.max = 9223372036854775807 := rfl
  simp only [Lit.wf, Bool.and_eq_true, decide_eq_true_eq]
  omega
theorem key_is {a : Nat} {s : Txt} (ha : a ≤ 1000000) (hs : s.length ≤ maxLen) : ∃ kl, keyOf Try.prog 77 (keyV a s) = some kl := by
  have h1 : Try.prog.keyType 77 = true := by kernel_rfl
  have h3 : Try.prog.cellsOf 77 = 2 := by kernel_rfl
  have h4 : Try.prog.cellsOf 3 = 1 := by kernel_rfl
  have h5 : Try.prog.cellsOf 9 = 1 := by kernel_rfl
  have hw := wf_i64n ha
  have hsz : (⟨s.toArray⟩ : ByteArray).size ≤ maxLen := by show s.toArray.size ≤ maxLen; simpa using hs
  have hf : (keyV a s).formed Try.prog 77 = true := by
    simp [keyV, Value.formed, Try.underlying77, h3]
  unfold keyOf
  rw [Try.underlying77, h1, hf]
  simp only [Bool.and_self, if_true]
  have hl : ∃ ls, Try.prog.keyLits (Try.prog.types.size + 1) 77 (keyV a s).cells.toList = some ls := by
    have h2 : 0 < Try.prog.types.size := of_decide_eq_true (by kernel_rfl)
    obtain ⟨d, hd⟩ : ∃ d, Try.prog.types.size + 1 = d + 2 := ⟨Try.prog.types.size - 1, by omega⟩
    rw [hd]
    clear hd h2 h1 hf
    simp [Program.keyLits, Try.underlying77, Try.underlying3, Try.underlying9, keyV, strV, Value.cells, h3, h4, h5, hw, hsz]
  obtain ⟨ls, hl⟩ := hl
  rw [hl]
  exact ⟨_, rfl⟩
theorem key_inj {a a' : Nat} {s s' : Txt} {kl : Lit} (h : keyOf Try.prog 77 (keyV a s) = some kl) (h' : keyOf Try.prog 77 (keyV a' s') = some kl) : (a, s) = (a', s') := by
  have e := key_law.inj h h'
  simp only [keyV, strV, Value.agg.injEq, Array.mk.injEq, List.cons.injEq, Value.int.injEq, Value.string.injEq, ByteArray.mk.injEq, and_true, true_and] at e
  obtain ⟨e1, e2⟩ := e
  have e1' : a = a' := by omega
  have e2' : s = s' := by simpa using e2
  rw [e1', e2']
theorem zero_int (w : World) : (zeroValue 3).run Try.prog w = .ok (.int .i64 0) w := by kernel_rfl

/-- Block b is a map that leads each of the pairs E to its place among them, from 1 on. -/
def HasM (w : World) (b : Nat) (E : List (Nat × Txt)) : Prop :=
  ∃ (n : Nat) (D : DataW Unit), w.ownsMap Try.prog 77 (plainElem Try.prog 3) b n D ∧ n ≤ E.length ∧
    ∀ (a : Nat) (s : Txt) (kl : Lit), keyOf Try.prog 77 (keyV a s) = some kl → Maps.has D kl = decide ((a, s) ∈ E) ∧ D.atKey kl (.lit (.int .i64 0)) = .lit (.int .i64 (fnd E (a, s) : Nat))
section
variable {w w' : World} {b : Nat} {E : List (Nat × Txt)}
theorem HasM.lt (h : HasM w b E) : b < w.heap.size := by obtain ⟨n, D, h1, _⟩ := h; exact h1.lt
theorem HasM.made (w : World) : HasM (w.alloc (.map #[] 0)) w.heap.size [] :=
  ⟨0, .map [], World.ownsMap_made _ _ _ _, Nat.le_refl _, fun a s kl h => ⟨by simp [Maps.has], by simp [fnd, DataW.atKey]⟩⟩
theorem HasM.drewN (h : HasM w b E) (k : Nat) : HasM (w.drewN k) b E := h
theorem HasM.kept {row : Option Nat} (h : HasM w b E) (hg : w.grownBy w' row) (hne : some b ≠ row) : HasM w' b E := by
  obtain ⟨n, D, h1, h2⟩ := h
  exact ⟨n, D, h1.kept hg hne, h2⟩
theorem HasM.same (h : HasM w b E) (hb : w'.heap[b]? = w.heap[b]?) : HasM w' b E := by
  obtain ⟨n, D, ⟨es, clock, h1, h2, h3, h4⟩, h5⟩ := h
  exact ⟨n, D, ⟨es, clock, hb.trans h1, h2, h3, h4⟩, h5⟩
theorem HasM.alloc (h : HasM w b E) (o : Obj) : HasM (w.alloc o) b E := h.kept (World.grownBy_alloc w o none) (by simp)
theorem HasM.is_map (h : HasM w b E) : ∃ es clock, w.heap[b]? = some (.map es clock) := by
  obtain ⟨n, D, ⟨es, clock, h1, _⟩, _⟩ := h
  exact ⟨es, clock, h1⟩
theorem HasM.step {n : Nat} {D : DataW Unit} {a : Nat} {s : Txt} {kl : Lit} (hkey : keyOf Try.prog 77 (keyV a s) = some kl) (hn : n ≤ E.length) (hnew : (a, s) ∉ E) (hD : IsMap D)
    (h : ∀ (a : Nat) (s : Txt) (kl : Lit), keyOf Try.prog 77 (keyV a s) = some kl → Maps.has D kl = decide ((a, s) ∈ E) ∧ D.atKey kl (.lit (.int .i64 0)) = .lit (.int .i64 (fnd E (a, s) : Nat)))
    (hown : w'.ownsMap Try.prog 77 (plainElem Try.prog 3) b (n + 1) (D.put kl (.lit (.int .i64 ((E.length + 1 : Nat) : Int))))) : HasM w' b (E ++ [(a, s)]) := by
  refine ⟨n + 1, _, hown, by simp; omega, fun a' s' kl' hkey' => ?_⟩
  by_cases e : (a', s') = (a, s)
  · have e1 : kl' = kl := by
      simp only [Prod.mk.injEq] at e
      obtain ⟨rfl, rfl⟩ := e
      rw [hkey] at hkey'
      exact (Option.some.inj hkey').symm
    subst e1
    rw [e, has_put_same hD (key_law.key hkey), atKey_put_same hD (key_law.key hkey), fnd_new hnew]
    exact ⟨by simp, rfl⟩
  · have hne : kl' ≠ kl := fun e1 => e (key_inj hkey' (e1 ▸ hkey))
    obtain ⟨h1, h2⟩ := h a' s' kl' hkey'
    rw [has_put_other hne, atKey_put_other hne, fnd_other e, h1, h2]
    exact ⟨by simp [e], rfl⟩
end

/-- What is looked up. -/
theorem HasM.look {w : World} {b : Nat} {E : List (Nat × Txt)} (h : HasM w b E) {a : Nat} {s : Txt} (ha : a ≤ 1000000) (hs : s.length ≤ maxLen) :
    (Instr.lookup 66 (.map (some b)) (keyV a s) true).run Try.prog w = .ok (.tuple #[.int .i64 (fnd E (a, s) : Nat), .bool (decide ((a, s) ∈ E))]) w := by
  obtain ⟨n, D, h1, h2, h3⟩ := h
  obtain ⟨kl, hkey⟩ := key_is ha hs
  obtain ⟨h4, h5⟩ := h3 a s kl hkey
  obtain ⟨v, ps, hrun, hv⟩ := h1.look_ok key_law Try.underlying66 (zero_int w) (zd := .lit (.int .i64 0)) (zp := []) (plainElem_int Try.underlying3 (by decide)) hkey
  rw [h5] at hv
  obtain ⟨c, rfl, hc, _⟩ := plainElem_int_inv Try.underlying3 hv
  simp only [Prod.mk.injEq, DataW.lit.injEq, Lit.int.injEq, true_and] at hc
  rw [hrun, h4, ← hc.1]
/-- What is put in. -/
theorem HasM.store {w : World} {b : Nat} {E : List (Nat × Txt)} (h : HasM w b E) {a : Nat} {s : Txt} (ha : a ≤ 1000000) (hs : s.length ≤ maxLen) (hE : E.length ≤ 1000) (hnew : (a, s) ∉ E) :
    ∃ w', (Instr.mapUpdate 66 (.map (some b)) (keyV a s) (.int .i64 ((E.length + 1 : Nat) : Int))).run Try.prog w = .ok () w' ∧ HasM w' b (E ++ [(a, s)]) ∧ w.grownBy w' (some b) := by
  obtain ⟨n, D, h1, h2, h3⟩ := h
  obtain ⟨kl, hkey⟩ := key_is ha hs
  obtain ⟨w', hrun, hown, hg⟩ := h1.update key_law Try.underlying66 (by unfold maxLen; omega) hkey (plainElem_int (H := Unit) Try.underlying3 (wf_i64n (a := E.length + 1) (by omega)))
  exact ⟨w', hrun, HasM.step hkey h2 hnew h1.isMap h3 hown, hg⟩
end Go.Proofs.Ytccdjjpkcahgfaa
