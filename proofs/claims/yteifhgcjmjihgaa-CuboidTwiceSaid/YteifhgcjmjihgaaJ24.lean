/- MapC, Key3, MapR -/
import Derived.Test.YteifhgcjmjihgaaJ2
import Derived.Test.YteifhgcjmjihgaaJ8
import Derived.Test.YteifhgcjmjihgaaJ20
namespace Go.Proofs.Yteifhgcjmjihgaa
set_option maxRecDepth 100000
open Go.RowKit Go.Maps

theorem setK_len : ∀ {C : Cub}, Ris C → ∀ (k : List Int) (x : PC), (setK C k x).length = if (getK C k).isSome then C.length else C.length + 1
  | [], _, _, _ => rfl
  | e :: C, h, k, x => by
    have h1 : ∀ d ∈ C, lessK e.1 d.1 = true := (List.pairwise_cons.1 h).1
    have h2 : Ris C := (List.pairwise_cons.1 h).2
    rw [setK, getK]
    by_cases hk : e.1 = k
    · rw [if_pos hk, if_pos hk]
      rfl
    · rw [if_neg hk, if_neg hk]
      by_cases hl : lessK k e.1 = true
      · have hn : getK C k = none := getK_none.2 fun hm => by
          obtain ⟨d, hd, e2⟩ := List.mem_map.1 hm
          have := lessK_trans hl (h1 d hd)
          rw [e2, lessK_irrefl] at this
          cases this
        rw [if_pos hl, hn]
        rfl
      · rw [if_neg hl]
        have ih := setK_len h2 k x
        rw [List.length_cons, ih]
        split <;> rfl

/-- Keys of so many codes as values of type K. -/
structure KeyT (K : TypeId) (kv : List Int → Value) (W : Nat) : Prop where
  law : Keyed Try.prog K
  is : ∀ k, isKey W k → ∃ kl, keyOf Try.prog K (kv k) = some kl
  inj : ∀ k j, isKey W k → isKey W j → kv k = kv j → k = j
theorem KeyT.one {K : TypeId} {kv : List Int → Value} {W : Nat} (h : KeyT K kv W) {k j : List Int} {kl : Lit} (hk : isKey W k) (hj : isKey W j) (e : keyOf Try.prog K (kv k) = some kl) (e' : keyOf Try.prog K (kv j) = some kl) : k = j := h.inj k j hk hj (h.law.inj e e')
/-- What stands under a key is the cell. -/
def UndV (w : World) (S : Nat → Prop) : Option PC → Option Value → Prop
  | none, none => True
  | some x, some v => ∃ us, v = .agg us.toArray ∧ elCellO w S us x
  | _, _ => False
theorem UndV.mv {w w' : World} {S S' : Nat → Prop} {x : Option PC} {v : Option Value} (h : UndV w S x v) (m : Mv w S w' S') : UndV w' S' x v := by
  rcases x with _ | x <;> rcases v with _ | v
  · trivial
  · exact h.elim
  · exact h.elim
  · obtain ⟨us, e, h1⟩ := h
    exact ⟨us, e, elCellO_ok _ _ _ _ _ _ m h1⟩
theorem UndV.some_ {w : World} {S : Nat → Prop} {x : Option PC} {v : Option Value} (h : UndV w S x v) : v.isSome = x.isSome := by
  rcases x with _ | x <;> rcases v with _ | v
  · rfl
  · exact h.elim
  · exact h.elim
  · rfl
/-- Block b is a map of the cells C under their keys of W codes; the cells' lists lie in S. -/
def MapC (K : TypeId) (kv : List Int → Value) (W : Nat) (w : World) (S : Nat → Prop) (b : Nat) (C : Cub) : Prop :=
  ∃ F, MapV w K b C.length F ∧ (∀ k kl, isKey W k → keyOf Try.prog K (kv k) = some kl → UndV w S (getK C k) (F kl)) ∧ ∀ kl v, F kl = some v → ∃ k, isKey W k ∧ keyOf Try.prog K (kv k) = some kl
section
variable {w w' : World} {S S' : Nat → Prop} {K : TypeId} {kv : List Int → Value} {W b : Nat} {C : Cub}
theorem MapC.lt (h : MapC K kv W w S b C) : b < w.heap.size := by obtain ⟨F, h1, _⟩ := h; exact h1.lt
theorem MapC.made (w : World) : MapC K kv W (w.alloc (.map #[] 0)) S w.heap.size [] := ⟨_, MapV.made w K, fun _ _ _ _ => trivial, fun _ _ h => by cases h⟩
/-- Neither the map nor a cell's list was written. -/
theorem MapC.mv (h : MapC K kv W w S b C) (hb : w'.heap[b]? = w.heap[b]?) (m : Mv w S w' S') : MapC K kv W w' S' b C := by
  obtain ⟨F, h1, h2, h3⟩ := h
  exact ⟨F, h1.same hb, fun k kl hk e => (h2 k kl hk e).mv m, h3⟩
theorem MapC.below (h : MapC K kv W w S b C) (hb : Below w.heap.size w w') : MapC K kv W w' S b C := h.mv (hb.block b h.lt) (Mv.belowS hb S)
theorem MapC.alloc (h : MapC K kv W w S b C) (o : Obj) : MapC K kv W (w.alloc o) S b C := h.below (below_a1 w o)
theorem MapC.drewN (h : MapC K kv W w S b C) (k : Nat) : MapC K kv W (w.drewN k) S b C := h.mv rfl (Mv.drewN w k S)
/-- What is there under a key. -/
theorem MapC.look {t e : TypeId} {z : Value} (h : MapC K kv W w S b C) (T : KeyT K kv W) (ht : Try.prog.underlying t = some (.map K e)) (hz : (zeroValue e).run Try.prog w = .ok z w) {k : List Int} (hk : isKey W k) :
    (getK C k = none ∧ (Instr.lookup t (.map (some b)) (kv k) true).run Try.prog w = .ok (.tuple #[z, .bool false]) w ∧ (Instr.lookup t (.map (some b)) (kv k) false).run Try.prog w = .ok z w) ∨
    ∃ x us, getK C k = some x ∧ elCellO w S us x ∧ (Instr.lookup t (.map (some b)) (kv k) true).run Try.prog w = .ok (.tuple #[.agg us.toArray, .bool true]) w ∧ (Instr.lookup t (.map (some b)) (kv k) false).run Try.prog w = .ok (.agg us.toArray) w := by
  obtain ⟨F, h1, h2, h3⟩ := h
  obtain ⟨kl, hkl⟩ := T.is k hk
  have hu := h2 k kl hk hkl
  have r1 := h1.look T.law ht hz hkl
  have r2 := h1.get T.law ht hz hkl
  rcases hx : getK C k with _ | x <;> rcases hv : F kl with _ | v <;> rw [hx, hv] at hu
  · rw [hv] at r1 r2
    exact .inl ⟨rfl, r1, r2⟩
  · exact hu.elim
  · exact hu.elim
  · obtain ⟨us, rfl, hus⟩ := hu
    rw [hv] at r1 r2
    exact .inr ⟨x, us, rfl, hus, r1, r2⟩
/-- A cell is put under a key. -/
theorem MapC.store {t e : TypeId} {us : List Value} {x : PC} (h : MapC K kv W w S b C) (T : KeyT K kv W) (ht : Try.prog.underlying t = some (.map K e)) (hC : Ris C) (hm : C.length < maxLen) (hb : ¬ S b) {k : List Int} (hk : isKey W k) (hx : elCellO w S us x) :
    ∃ w', (Instr.mapUpdate t (.map (some b)) (kv k) (.agg us.toArray)).run Try.prog w = .ok () w' ∧ MapC K kv W w' S b (setK C k x) ∧ w.grownBy w' (some b) := by
  obtain ⟨F, h1, h2, h3⟩ := h
  obtain ⟨kl, hkl⟩ := T.is k hk
  obtain ⟨w', hrun, hown, hg⟩ := h1.store T.law ht hm hkl (v := .agg us.toArray)
  have m : Mv w S w' S := Mv.grown hg fun j hj e => by
    injection e with e
    subst e
    exact hb hj
  refine ⟨w', hrun, ⟨putF F kl (.agg us.toArray), ?_, fun j jl hj ej => ?_, fun jl v hv => ?_⟩, hg⟩
  · rw [setK_len hC, ← (h2 k kl hk hkl).some_]
    exact hown
  · rw [getK_setK]
    by_cases hjk : j = k
    · subst hjk
      rw [hkl] at ej
      injection ej with ej
      subst ej
      rw [if_pos rfl, putF_same]
      exact ⟨us, rfl, elCellO_ok _ _ _ _ _ _ m hx⟩
    · rw [if_neg hjk, putF_other (fun e2 : jl = kl => hjk (T.one hj hk (e2 ▸ ej) hkl))]
      exact (h2 j jl hj ej).mv m
  · by_cases hjl : jl = kl
    · subst hjl
      exact ⟨k, hk, hkl⟩
    · rw [putF_other hjl] at hv
      exact h3 jl v hv
/-- How many there are. -/
theorem MapC.len {t e : TypeId} (h : MapC K kv W w S b C) (ht : Try.prog.underlying t = some (.map K e)) (ty : TypeId) : (Builtin.len_ #[t] ty #[.map (some b)]).run Try.prog w = .ok (.int .i64 C.length) w := by
  obtain ⟨F, h1, _⟩ := h
  exact h1.len ht ty
end
end Go.Proofs.Yteifhgcjmjihgaa
namespace Go.Proofs.Yteifhgcjmjihgaa
set_option maxRecDepth 100000
open Go.RowKit Go.Maps

/-- A key as the model has it. -/
def kv3 (k : List Int) : Value := .agg #[.int .i64 (k.getD 0 0), .int .i64 (k.getD 1 0), .int .i64 (k.getD 2 0)]
theorem kv3_inj {a b : List Int} (h : a.length = b.length) (h3 : a.length ≤ 3) (e : kv3 a = kv3 b) : a = b := by
  simp only [kv3, Value.agg.injEq, Array.mk.injEq, List.cons.injEq, Value.int.injEq, and_true, true_and] at e
  obtain ⟨h1, h2, h4⟩ := e
  exact pad3_inj h h3 (by unfold pad3; rw [h1, h2, h4])
theorem wf_code {x : Int} (h : 0 ≤ x ∧ x ≤ 40) : (Lit.int .i64 x).wf = true := by
  have h1 : IntKind.i64.min = -9223372036854775808 := rfl
  have h2 : IntKind.i64.max = 9223372036854775807 := rfl
  simp only [Lit.wf, Bool.and_eq_true, decide_eq_true_eq]
  omega
theorem code_at {W : Nat} {k : List Int} (h : isKey W k) (i : Nat) : 0 ≤ k.getD i 0 ∧ k.getD i 0 ≤ 40 := by
  rw [List.getD_eq_getElem?_getD]
  rcases hi : k[i]? with _ | c
  · simp
  · exact h.2 c (List.mem_of_getElem? hi)
theorem key3_is {K I : TypeId} (hu : Try.prog.underlying K = some (.array 3 I)) (hI : Try.prog.underlying I = some (.int .i64)) (h1 : Try.prog.keyType K = true) (h3 : Try.prog.cellsOf K = 3) (h4 : Try.prog.cellsOf I = 1) (h2 : 0 < Try.prog.types.size)
    {x y z : Int} (hx : (Lit.int .i64 x).wf = true) (hy : (Lit.int .i64 y).wf = true) (hz : (Lit.int .i64 z).wf = true) : ∃ kl, keyOf Try.prog K (.agg #[.int .i64 x, .int .i64 y, .int .i64 z]) = some kl := by
  have hf : (Value.agg #[.int .i64 x, .int .i64 y, .int .i64 z]).formed Try.prog K = true := by
    simp [Value.formed, hu, h3]
  unfold keyOf
  rw [hu, h1, hf]
  simp only [Bool.and_self, if_true]
  have hl : ∃ ls, Try.prog.keyLits (Try.prog.types.size + 1) K (Value.agg #[.int .i64 x, .int .i64 y, .int .i64 z]).cells.toList = some ls := by
    obtain ⟨d, hd⟩ : ∃ d, Try.prog.types.size + 1 = d + 2 := ⟨Try.prog.types.size - 1, by omega⟩
    rw [hd]
    clear hd h2 h1 hf
    have hr : List.range 3 = [0, 1, 2] := by decide
    simp [Program.keyLits, hu, hI, Value.cells, h3, h4, hr, hx, hy, hz]
  obtain ⟨ls, hl⟩ := hl
  rw [hl]
  exact ⟨_, rfl⟩
/-- Keys of W codes as values of K. -/
theorem key3_T {K I : TypeId} (law : Keyed Try.prog K) (hu : Try.prog.underlying K = some (.array 3 I)) (hI : Try.prog.underlying I = some (.int .i64)) (h1 : Try.prog.keyType K = true) (h3 : Try.prog.cellsOf K = 3) (h4 : Try.prog.cellsOf I = 1) (h2 : 0 < Try.prog.types.size) {W : Nat} (hW : W ≤ 3) : KeyT K kv3 W where
  law := law
  is k hk := key3_is hu hI h1 h3 h4 h2 (wf_code (code_at hk 0)) (wf_code (code_at hk 1)) (wf_code (code_at hk 2))
  inj k j hk hj e := kv3_inj (hk.1.trans hj.1.symm) (by rw [hk.1]; exact hW) e
end Go.Proofs.Yteifhgcjmjihgaa
namespace Go.Proofs.Yteifhgcjmjihgaa
set_option maxRecDepth 100000
open Go.RowKit Go.Maps

/-! ### plain: keys in order -/
theorem getK_pairs (A : List (List Int)) (k : List Int) : getK (A.map fun a => (a, zeroC)) k = if k ∈ A then some zeroC else none := by
  induction A with
  | nil => simp [getK]
  | cons a A ih =>
    rw [List.map_cons, getK, ih]
    by_cases h : a = k
    · subst h
      simp
    · rw [if_neg h]
      by_cases h2 : k ∈ A
      · rw [if_pos h2, if_pos (List.mem_cons_of_mem _ h2)]
      · rw [if_neg h2, if_neg (fun hm => (List.mem_cons.1 hm).elim (fun e => h e.symm) h2)]
theorem ris_keys {C : Cub} (h : Ris C) : (C.map (·.1)).Pairwise fun a b => lessK a b = true := List.pairwise_map.2 h
theorem keys_nodup {C : Cub} (h : Ris C) : (C.map (·.1)).Nodup := (ris_keys h).imp fun hl => lessK_ne hl
/-- The keys, put in order, are the keys in order. -/
theorem keys_eq {A : List (List Int)} {C : Cub} (hC : Ris C) (hp : A.Perm (C.map (·.1))) (hs : A.Pairwise fun a b => lessK b a = false) : A = C.map (·.1) := by
  have hn : A.Nodup := hp.nodup_iff.2 (keys_nodup hC)
  have hA : A.Pairwise fun a b => lessK a b = true := by
    refine (List.pairwise_and_iff.2 ⟨hs, hn⟩).imp fun {a b} ⟨h1, h2⟩ => ?_
    rcases lessK_tri a b with h | h | h
    · exact h
    · exact absurd h h2
    · rw [h1] at h; cases h
  have e := ris_ext (C := A.map fun a => (a, zeroC)) (D := (C.map (·.1)).map fun a => (a, zeroC)) (List.pairwise_map.2 hA) (List.pairwise_map.2 (ris_keys hC)) fun k => by
    rw [getK_pairs, getK_pairs]
    by_cases h : k ∈ A
    · rw [if_pos h, if_pos (hp.mem_iff.1 h)]
    · rw [if_neg h, if_neg (fun h' => h (hp.mem_iff.2 h'))]
  have e2 := congrArg (List.map (·.1)) e
  simpa [List.map_map, Function.comp_def] using e2

/-! ### a range -/
/-- What has come, and what hasn't. -/
structure Came (K : TypeId) (kv : List Int → Value) (W : Nat) (C : Cub) (left : Lit → Bool) (acc : List (List Int)) : Prop where
  nodup : acc.Nodup
  key : ∀ k ∈ acc, isKey W k
  mem : ∀ k kl, isKey W k → keyOf Try.prog K (kv k) = some kl → (k ∈ acc ↔ (getK C k).isSome ∧ left kl = false)
theorem Came.step {K : TypeId} {kv : List Int → Value} {W : Nat} {C : Cub} {left : Lit → Bool} {acc : List (List Int)} (h : Came K kv W C left acc) (T : KeyT K kv W) {k : List Int} {kl : Lit} {x : PC} (hk : isKey W k) (e : keyOf Try.prog K (kv k) = some kl) (hl : left kl = true) (hx : getK C k = some x) :
    Came K kv W C (fun z => left z && !z.sameKey kl) (acc ++ [k]) := by
  have hnot : k ∉ acc := fun hm => by
    have := ((h.mem k kl hk e).1 hm).2
    rw [hl] at this
    cases this
  refine ⟨List.nodup_append.2 ⟨h.nodup, by simp, fun a ha b hb => by
    rw [List.mem_singleton.1 hb]
    exact fun e' => hnot (e' ▸ ha)⟩, fun j hj => ?_, fun j jl hj ej => ?_⟩
  · rcases List.mem_append.1 hj with hj | hj
    · exact h.key j hj
    · rw [List.mem_singleton.1 hj]; exact hk
  · by_cases hjk : j = k
    · subst hjk
      rw [e] at ej
      injection ej with ej
      subst ej
      simp [hx, WideAt.sameKey_self (T.law.key e)]
    · have hne : ¬ jl = kl := fun e2 : jl = kl => hjk (T.one hj hk (e2 ▸ ej) e)
      have hs : jl.sameKey kl = false := by
        rcases hh : jl.sameKey kl with _ | _
        · rfl
        · exact absurd (WideAt.sameKey_eq hh) hne
      simp only [List.mem_append, List.mem_singleton, hjk, or_false, hs, Bool.not_false, Bool.and_true]
      exact h.mem j jl hj ej
/-- All have come. -/
theorem Came.all {K : TypeId} {kv : List Int → Value} {W : Nat} {C : Cub} {left : Lit → Bool} {acc : List (List Int)} (h : Came K kv W C left acc) (T : KeyT K kv W) (hC : Ris C) (hW : ∀ e ∈ C, isKey W e.1) (hl : ∀ kl, left kl = false) : acc.Perm (C.map (·.1)) := by
  refine (List.perm_ext_iff_of_nodup h.nodup (keys_nodup hC)).2 fun k => ⟨fun hk => ?_, fun hk => ?_⟩
  · obtain ⟨kl, e⟩ := T.is k (h.key k hk)
    have h1 := ((h.mem k kl (h.key k hk) e).1 hk).1
    obtain ⟨x, hx⟩ := Option.isSome_iff_exists.1 h1
    exact List.mem_map.2 ⟨_, getK_mem hx, rfl⟩
  · obtain ⟨d, hd, rfl⟩ := List.mem_map.1 hk
    obtain ⟨kl, e⟩ := T.is d.1 (hW d hd)
    exact (h.mem d.1 kl (hW d hd) e).2 ⟨by rw [getK_of_mem hC hd]; rfl, hl kl⟩
/-- A range over the cells: acc has come, cnt are still to come. -/
def RngC (K : TypeId) (kv : List Int → Value) (W : Nat) (w : World) (S : Nat → Prop) (b r : Nat) (C : Cub) (acc : List (List Int)) (cnt : Nat) : Prop :=
  ∃ D F left, w.ranges Try.prog K rawE b r C.length D left cnt ∧ MapV w K b C.length F ∧ (∀ kl v, (∀ zd, D.atKey kl zd = .held v) → F kl = some v) ∧ (∀ k kl, isKey W k → keyOf Try.prog K (kv k) = some kl → UndV w S (getK C k) (F kl)) ∧
    (∀ kl v, F kl = some v → ∃ k, isKey W k ∧ keyOf Try.prog K (kv k) = some kl) ∧ Came K kv W C left acc
section
variable {w w' : World} {S S' : Nat → Prop} {K : TypeId} {kv : List Int → Value} {W b r cnt : Nat} {C : Cub} {acc : List (List Int)}
theorem RngC.map (h : RngC K kv W w S b r C acc cnt) : MapC K kv W w S b C := by
  obtain ⟨D, F, left, _, h2, _, h4, h5, _⟩ := h
  exact ⟨F, h2, h4, h5⟩
theorem RngC.left (h : RngC K kv W w S b r C acc cnt) : w.rangeLeft b r = cnt := by obtain ⟨D, F, left, h1, _⟩ := h; exact h1.left_eq
theorem RngC.ne (h : RngC K kv W w S b r C acc cnt) : r ≠ b := by obtain ⟨D, F, left, h1, _⟩ := h; exact h1.ne
theorem RngC.lt (h : RngC K kv W w S b r C acc cnt) : r < w.heap.size := by obtain ⟨D, F, left, h1, _⟩ := h; exact h1.lt
theorem RngC.key (h : RngC K kv W w S b r C acc cnt) : ∀ k ∈ acc, isKey W k := by obtain ⟨D, F, left, _, _, _, _, _, h6⟩ := h; exact h6.key
/-- Neither the map, nor the range, nor a cell's list was written. -/
theorem RngC.kept {row : Option Nat} (h : RngC K kv W w S b r C acc cnt) (hg : w.grownBy w' row) (hb : some b ≠ row) (hr : some r ≠ row) (m : Mv w S w' S') : RngC K kv W w' S' b r C acc cnt := by
  obtain ⟨D, F, left, h1, h2, h3, h4, h5, h6⟩ := h
  exact ⟨D, F, left, h1.kept hg hb hr, h2.kept hg hb, h3, fun k kl hk e => (h4 k kl hk e).mv m, h5, h6⟩
theorem RngC.alloc (h : RngC K kv W w S b r C acc cnt) (o : Obj) : RngC K kv W (w.alloc o) S b r C acc cnt := h.kept (World.grownBy_alloc w o none) (by simp) (by simp) (Mv.alloc w o S)
theorem RngC.below (h : RngC K kv W w S b r C acc cnt) (hb : Below w.heap.size w w') : RngC K kv W w' S b r C acc cnt := h.kept (row := none) ⟨hb.os, hb.tape, hb.output, hb.size, fun k hk _ => hb.block k hk⟩ (by simp) (by simp) (Mv.belowS hb S)
end
section
variable (w : World) {S : Nat → Prop} {K : TypeId} {kv : List Int → Value} {W b r cnt : Nat} {C : Cub} {acc : List (List Int)} {ops : Array Oper} {rest : List Oper} {o : Oper} {a : Act} {Q : Exit → Act → World → Prop}
/-- 'range m'. -/
theorem wpList_range_C (hg : o.guard = none) (m : Operand) (t : TypeId) (hop : o.op = Op.range t m) (e : TypeId) (T : KeyT K kv W) (ht : Try.prog.underlying t = some (.map K e)) (b : Nat) (C : Cub) (S : Nat → Prop) (hm : a.eval m = .map (some b)) (h : MapC K kv W w S b C)
    (hK : ∀ w', RngC K kv W w' S b w.heap.size C [] C.length → w.grownBy w' none → w'.heap.size = w.heap.size + 1 → wpList Try.prog ops Q rest (a.put o.dst (.pointer (some ⟨w.heap.size, 0, none⟩))) w') : wpList Try.prog ops Q (o :: rest) a w := by
  obtain ⟨F, h1, h2, h3⟩ := h
  obtain ⟨D, d1, d2, d3, d4⟩ := h1.own
  refine wpList_range_own w hg m t hop K e T.law ht rawE b _ D hm d1 fun w' r1 r2 r3 => hK w' ?_ r2 r3
  rw [d2] at r1
  refine ⟨D, F, _, r1, h1.kept r2 (by simp), d4, fun k kl hk ek => (h2 k kl hk ek).mv (Mv.grown r2 (fun _ _ => by simp)), h3, List.nodup_nil, (fun k hk => by cases hk), fun k kl hk ek => ?_⟩
  have hu := (h2 k kl hk ek).some_
  rw [d3, hu]
  cases (getK C k).isSome <;> simp
/-- The next one. -/
theorem wpList_next_C (hg : o.guard = none) (it : Operand) (hop : o.op = Op.next it false) (T : KeyT K kv W) (hC : Ris C) (hW : ∀ e ∈ C, isKey W e.1) (hrS : ¬ S r) (hit : a.eval it = .pointer (some ⟨r, 0, none⟩)) (h : RngC K kv W w S b r C acc cnt)
    (hDone : acc.Perm (C.map (·.1)) → wpList Try.prog ops Q rest (a.put o.dst (.tuple #[.bool false])) w)
    (hMore : ∀ (k : List Int) (x : PC) (us : List Value) (w' : World) (cnt' : Nat), isKey W k → getK C k = some x → elCellO w' S us x → RngC K kv W w' S b r C (acc ++ [k]) cnt' → cnt' < cnt → w.grownBy w' (some r) → w'.heap.size = w.heap.size →
      (Instr.entry (.pointer (some ⟨r, 0, none⟩))).run Try.prog w' = .ok (.tuple #[kv k, .agg us.toArray]) w' → wpList Try.prog ops Q rest (a.put o.dst (.tuple #[.bool true, kv k, .agg us.toArray])) w') : wpList Try.prog ops Q (o :: rest) a w := by
  obtain ⟨D, F, left, h1, h2, h3, h4, h5, h6⟩ := h
  have hne := h1.ne
  refine wpList_next_ranges w hg it hop K T.law rawE (mkK := fun v : Value => v) (mkV := fun v : Value => v) (fun key kl _ => ⟨key, rfl⟩) (fun v y _ => ⟨v, rfl⟩) b r _ D left cnt hit h1 (fun _ hl => hDone (h6.all T hC hW hl)) ?_
  intro v c kl y w' cnt' hkey hl hv hat hrg hlt hgr hsz hen
  rw [rawE_inv hv] at hat
  have hF := h3 kl c hat
  obtain ⟨k, hk, ek⟩ := h5 kl c hF
  obtain rfl : v = kv k := T.law.inj hkey ek
  have hu := h4 k kl hk ek
  rw [hF] at hu
  rcases hx : getK C k with _ | x
  · rw [hx] at hu
    exact hu.elim
  · rw [hx] at hu
    obtain ⟨us, rfl, hus⟩ := hu
    have m : Mv w S w' S := Mv.grown hgr fun j hj e => by
      injection e with e
      subst e
      exact hrS hj
    exact hMore k x us w' cnt' hk hx (elCellO_ok _ _ _ _ _ _ m hus) ⟨D, F, _, hrg, h2.kept hgr (fun e => hne (Option.some.inj e).symm), h3, fun j jl hj ej => (h4 j jl hj ej).mv m, h5, h6.step T hk ek hl hx⟩ hlt hgr hsz hen
end
end Go.Proofs.Yteifhgcjmjihgaa
