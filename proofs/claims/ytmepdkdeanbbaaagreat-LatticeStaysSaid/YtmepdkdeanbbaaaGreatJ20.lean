/- MapC, Key3, MapR, SchemaT -/
import Derived.Test.YtmepdkdeanbbaaaGreatJ2
import Derived.Test.YtmepdkdeanbbaaaGreatJ4
import Derived.Test.YtmepdkdeanbbaaaGreatJ13
import Derived.Test.YtmepdkdeanbbaaaGreatJ16
namespace Go.Proofs.YtmepdkdeanbbaaaGreat
set_option maxRecDepth 100000
open Go.RowKit Go.Maps

structure KeyT (K : TypeId) (kv : List Int → Value) (W : Nat) : Prop where
 law : Keyed Tryz.prog K
 is : ∀ k, isKey W k → ∃ kl, keyOf Tryz.prog K (kv k) = some kl
 inj : ∀ k j, isKey W k → isKey W j → kv k = kv j → k = j
theorem KeyT.one {K : TypeId} {kv : List Int → Value} {W : Nat} (h : KeyT K kv W) {k j : List Int} {kl : Lit} (hk : isKey W k) (hj : isKey W j) (e : keyOf Tryz.prog K (kv k) = some kl) (e' : keyOf Tryz.prog K (kv j) = some kl) : k = j := h.inj k j hk hj (h.law.inj e e')
def UndV (w : World) (S : Nat → Prop) : Option PC → Option Value → Prop
 | none, none => True
 | some x, some v => ∃ us, v = .agg us.toArray ∧ elCellO w S us x
 | _, _ => False
theorem UndV.some_ {w : World} {S : Nat → Prop} {x : Option PC} {v : Option Value} (h : UndV w S x v) : v.isSome = x.isSome := by
 rcases x with _ | x <;> rcases v with _ | v
 ·rfl
 ·exact h.elim
 ·exact h.elim
 ·rfl
def MapC (K : TypeId) (kv : List Int → Value) (W : Nat) (w : World) (S : Nat → Prop) (b : Nat) (C : Cub) : Prop :=
 ∃ F, MapV w K b C.length F ∧ (∀ k kl, isKey W k → keyOf Tryz.prog K (kv k) = some kl → UndV w S (getK C k) (F kl)) ∧ ∀ kl v, F kl = some v → ∃ k, isKey W k ∧ keyOf Tryz.prog K (kv k) = some kl
section
variable {w w' : World} {S S' : Nat → Prop} {K : TypeId} {kv : List Int → Value} {W b : Nat} {C : Cub}
end
end Go.Proofs.YtmepdkdeanbbaaaGreat
namespace Go.Proofs.YtmepdkdeanbbaaaGreat
set_option maxRecDepth 100000
open Go.RowKit Go.Maps

def kv3 (k : List Int) : Value := .agg #[.int .i64 (k.getD 0 0), .int .i64 (k.getD 1 0), .int .i64 (k.getD 2 0)]
theorem kv3_inj {a b : List Int} (h : a.length = b.length) (h3 : a.length ≤ 3) (e : kv3 a = kv3 b) : a = b := by
 simp only [kv3, Value.agg.injEq, Array.mk.injEq, List.cons.injEq, Value.int.injEq, and_true, true_and] at e
 obtain ⟨h1, h2, h4⟩ := e
 exact pad3_inj h h3 (by unfold pad3; rw [h1, h2, h4])
theorem wf_code {x : Int} (h : 0 ≤ x ∧ x ≤ 40) : (Lit.int .i64 x).wf = true := by
 have h1 : IntKind.i64.min = -9223372036854775808 := rfl
 have h2 : IntKind.i64.max = 9223372036854775807 := rfl
 simp only [Lit.wf, Bool.and_eq_true, decide_eq_true_eq]
 omega
theorem code_at {W : Nat} {k : List Int} (h : isKey W k) (i : Nat) : 0 ≤ k.getD i 0 ∧ k.getD i 0 ≤ 40 := by
 rw [List.getD_eq_getElem?_getD]
 rcases hi : k[i]? with _ | c
 ·simp
 ·exact h.2 c (List.mem_of_getElem? hi)
theorem key3_is {K I : TypeId} (hu : Tryz.prog.underlying K = some (.array 3 I)) (hI : Tryz.prog.underlying I = some (.int .i64)) (h1 : Tryz.prog.keyType K = true) (h3 : Tryz.prog.cellsOf K = 3) (h4 : Tryz.prog.cellsOf I = 1) (h2 : 0 < Tryz.prog.types.size)
  {x y z : Int} (hx : (Lit.int .i64 x).wf = true) (hy : (Lit.int .i64 y).wf = true) (hz : (Lit.int .i64 z).wf = true) : ∃ kl, keyOf Tryz.prog K (.agg #[.int .i64 x, .int .i64 y, .int .i64 z]) = some kl := by
 have hf : (Value.agg #[.int .i64 x, .int .i64 y, .int .i64 z]).formed Tryz.prog K = true := by
  simp [Value.formed, hu, h3]
 unfold keyOf
 rw [hu, h1, hf]
 simp only [Bool.and_self, if_true]
 have hl : ∃ ls, Tryz.prog.keyLits (Tryz.prog.types.size + 1) K (Value.agg #[.int .i64 x, .int .i64 y, .int .i64 z]).cells.toList = some ls := by
  obtain ⟨d, hd⟩ : ∃ d, Tryz.prog.types.size + 1 = d + 2 := ⟨Tryz.prog.types.size - 1, by omega⟩
  rw [hd]
  clear hd h2 h1 hf
  have hr : List.range 3 = [0, 1, 2] := by decide
  simp [Program.keyLits, hu, hI, Value.cells, h3, h4, hr, hx, hy, hz]
 obtain ⟨ls, hl⟩ := hl
 rw [hl]
 exact ⟨_, rfl⟩
theorem key3_T {K I : TypeId} (law : Keyed Tryz.prog K) (hu : Tryz.prog.underlying K = some (.array 3 I)) (hI : Tryz.prog.underlying I = some (.int .i64)) (h1 : Tryz.prog.keyType K = true) (h3 : Tryz.prog.cellsOf K = 3) (h4 : Tryz.prog.cellsOf I = 1) (h2 : 0 < Tryz.prog.types.size) {W : Nat} (hW : W ≤ 3) : KeyT K kv3 W where
 law := law
 is k hk := key3_is hu hI h1 h3 h4 h2 (wf_code (code_at hk 0)) (wf_code (code_at hk 1)) (wf_code (code_at hk 2))
 inj k j hk hj e := kv3_inj (hk.1.trans hj.1.symm) (by rw [hk.1]; exact hW) e
end Go.Proofs.YtmepdkdeanbbaaaGreat
namespace Go.Proofs.YtmepdkdeanbbaaaGreat
set_option maxRecDepth 100000
open Go.RowKit Go.Maps

/-! ### plain: keys in order -/
theorem getK_pairs (A : List (List Int)) (k : List Int) : getK (A.map fun a => (a, zeroC)) k = if k ∈ A then some zeroC else none := by
 induction A with
 | nil => simp [getK]
 | cons a A ih =>
  rw [List.map_cons, getK, ih]
  by_cases h : a = k
  ·subst h
   simp
  ·rw [if_neg h]
   by_cases h2 : k ∈ A
   ·rw [if_pos h2, if_pos (List.mem_cons_of_mem _ h2)]
   ·rw [if_neg h2, if_neg (fun hm => (List.mem_cons.1 hm).elim (fun e => h e.symm) h2)]
theorem ris_keys {C : Cub} (h : Ris C) : (C.map (·.1)).Pairwise fun a b => lessK a b = true := List.pairwise_map.2 h
theorem keys_nodup {C : Cub} (h : Ris C) : (C.map (·.1)).Nodup := (ris_keys h).imp fun hl => lessK_ne hl
theorem keys_eq {A : List (List Int)} {C : Cub} (hC : Ris C) (hp : A.Perm (C.map (·.1))) (hs : A.Pairwise fun a b => lessK b a = false) : A = C.map (·.1) := by
 have hn : A.Nodup := hp.nodup_iff.2 (keys_nodup hC)
 have hA : A.Pairwise fun a b => lessK a b = true := by
  refine (List.pairwise_and_iff.2 ⟨hs, hn⟩).imp fun {a b} ⟨h1, h2⟩ => ?_
  rcases lessK_tri a b with h | h | h
  ·exact h
  ·exact absurd h h2
  ·rw [h1] at h; cases h
 have e := ris_ext (C := A.map fun a => (a, zeroC)) (D := (C.map (·.1)).map fun a => (a, zeroC)) (List.pairwise_map.2 hA) (List.pairwise_map.2 (ris_keys hC)) fun k => by
  rw [getK_pairs, getK_pairs]
  by_cases h : k ∈ A
  ·rw [if_pos h, if_pos (hp.mem_iff.1 h)]
  ·rw [if_neg h, if_neg (fun h' => h (hp.mem_iff.2 h'))]
 have e2 := congrArg (List.map (·.1)) e
 simpa [List.map_map, Function.comp_def] using e2

/-! ### a range -/
structure Came (K : TypeId) (kv : List Int → Value) (W : Nat) (C : Cub) (left : Lit → Bool) (acc : List (List Int)) : Prop where
 nodup : acc.Nodup
 key : ∀ k ∈ acc, isKey W k
 mem : ∀ k kl, isKey W k → keyOf Tryz.prog K (kv k) = some kl → (k ∈ acc ↔ (getK C k).isSome ∧ left kl = false)
def RngC (K : TypeId) (kv : List Int → Value) (W : Nat) (w : World) (S : Nat → Prop) (b r : Nat) (C : Cub) (acc : List (List Int)) (cnt : Nat) : Prop :=
 ∃ D F left, w.ranges Tryz.prog K rawE b r C.length D left cnt ∧ MapV w K b C.length F ∧ (∀ kl v, (∀ zd, D.atKey kl zd = .held v) → F kl = some v) ∧ (∀ k kl, isKey W k → keyOf Tryz.prog K (kv k) = some kl → UndV w S (getK C k) (F kl)) ∧
  (∀ kl v, F kl = some v → ∃ k, isKey W k ∧ keyOf Tryz.prog K (kv k) = some kl) ∧ Came K kv W C left acc
section
variable {w w' : World} {S S' : Nat → Prop} {K : TypeId} {kv : List Int → Value} {W b r cnt : Nat} {C : Cub} {acc : List (List Int)}
theorem RngC.map (h : RngC K kv W w S b r C acc cnt) : MapC K kv W w S b C := by
 obtain ⟨D, F, left, _, h2, _, h4, h5, _⟩ := h
 exact ⟨F, h2, h4, h5⟩
theorem RngC.left (h : RngC K kv W w S b r C acc cnt) : w.rangeLeft b r = cnt := by obtain ⟨D, F, left, h1, _⟩ := h; exact h1.left_eq
theorem RngC.key (h : RngC K kv W w S b r C acc cnt) : ∀ k ∈ acc, isKey W k := by obtain ⟨D, F, left, _, _, _, _, _, h6⟩ := h; exact h6.key
end
section
variable (w : World) {S : Nat → Prop} {K : TypeId} {kv : List Int → Value} {W b r cnt : Nat} {C : Cub} {acc : List (List Int)} {ops : Array Oper} {rest : List Oper} {o : Oper} {a : Act} {Q : Exit → Act → World → Prop}
end
end Go.Proofs.YtmepdkdeanbbaaaGreat
namespace Go.Proofs.YtmepdkdeanbbaaaGreat
set_option maxRecDepth 100000
open Go.RowKit Go.Maps

theorem strK_law : Keyed Tryz.prog 9 := string_keyed Tryz.underlying9
theorem strV_inj {a b : Txt} (h : strV a = strV b) : a = b := by
 simp only [strV, Value.string.injEq, ByteArray.mk.injEq] at h
 simpa using h
theorem nodup_map {α β : Type} {f : α → β} (hf : ∀ a b, f a = f b → a = b) {l : List α} : (l.map f).Nodup ↔ l.Nodup := by
 unfold List.Nodup
 rw [List.pairwise_map]
 constructor
 ·exact fun h => h.imp fun hne e => hne (by rw [e])
 ·exact fun h => h.imp fun hne e => hne (hf _ _ e)
theorem makeSet_s (w : World) : (Instr.makeMap 277 none).run Tryz.prog w = .ok (.map (some w.heap.size)) (w.alloc (.map #[] 0)) := run_makeMap _ w
theorem take_mapV {l : List Txt} {k : Nat} {x : Txt} (hk : k < l.length) (e : x = l.getD k []) : (l.take k).map strV ++ [strV x] = (l.take (k + 1)).map strV := by
 rw [List.take_succ_eq_append_getElem hk, List.map_append, e, List.getD_eq_getElem?_getD, List.getElem?_eq_getElem hk]
 rfl
set_option maxRecDepth 100000 in
set_option maxHeartbeats 1000000 in
theorem twiceT_any {A : Option Addr} {n c : Nat} {L : List Txt} {w : World} (h : HasT w w.heap.size A n c L) (hn : n ≤ 1000) (hm : ∀ s ∈ L, s.length ≤ maxLen) :
  Calls Tryz.prog 155 #[.slice A n c] w fun e w' => e = .returned (.bool (decide (¬ L.Nodup))) ∧ Below w.heap.size w w' := by
 have HL := Lib.hid h.len
 have HM := Lib.hid hm
 have hmk := makeSet_s
 clear hm
 go_enter Tryz.func155, Tryz.ntmps155
 go_wp2_with fail
 have hK0 := HasK.made w 9
 have hb0 := below_a1 w (.map #[] 0)
 clear hmk
 generalize w.alloc (.map #[] 0) = w1 at hK0 hb0 ⊢
 go_loopw [9] (fun i wr => ∃ k : Nat, k ≤ n ∧ i = .int .i64 k ∧ HasK wr 9 w.heap.size ((L.take k).map strV) ∧ Below w.heap.size w wr) (fun i _ => n - (intOf i).toNat)
 case atStart => exact ⟨0, Nat.zero_le _, rfl, hK0, hb0⟩
 case round =>
  obtain ⟨k, hk, rfl, hK, hB⟩ := hrel
  by_cases hlt : k < n
  ·obtain ⟨b, o, x, rfl, hb, hc, ex⟩ := (h.below hB (Nat.le_refl _)).at_ hlt
   have i0 : (0 : Int) ≤ (k : Int) := by omega
   have i1 : (k : Int) < (n : Int) := by omega
   have hx : (⟨x.toArray⟩ : ByteArray).size ≤ maxLen := by
    have h1 : x ∈ L := by rw [ex.out, List.getD_eq_getElem?_getD, List.getElem?_eq_getElem (by have := HL.out; omega)]; exact List.getElem_mem _
    have := HM.out x h1
    show x.toArray.size ≤ maxLen
    simpa using this
   obtain ⟨w2, hrun, hK2, hg2⟩ := hK.store strK_law Tryz.underlying277 (WideMaps.keyOf_string_mk Tryz.underlying9 hx) (by rw [List.length_map]; exact Nat.le_trans (List.length_take_le k _) (by omega))
   have hK2 : HasK w2 9 w.heap.size ((L.take k).map strV ++ [strV x]) := hK2
   rw [take_mapV (by have := HL.out; omega) ex.out] at hK2
   have HK2 := Lib.hid hK2
   have HB2 := Lib.hid (hB.grown hg2 hB.size (fun j hj => by cases hj; exact Nat.le_refl _))
   clear hK hK2 hg2 hB hx
   go_wp2_with fail
   go_roundw
   case rel => exact ⟨k + 1, by omega, by go_num, HK2.out, HB2.out⟩
   case measure => simp [intOf]; omega
  ·have e : L.take k = L := List.take_of_length_le (by have := HL.out; omega)
   rw [e] at hK
   obtain ⟨N, m, Dm, hown, hsz, hle, hnd⟩ := hK.count strK_law
   rw [nodup_map fun _ _ => strV_inj, List.length_map, HL.out] at hnd
   rw [List.length_map, HL.out] at hle
   clear e hK
   by_cases hno : L.Nodup
   ·obtain rfl : m = n := hnd.2 hno
    have H : Hid (decide (¬ L.Nodup) = false) := Lib.hid (by simpa using hno)
    have hs : Hid (Maps.size Dm = m) := Lib.hid hsz
    clear hnd hno hsz
    go_wp2_with (at_len; refine wpList_len_own _ rfl _ 277 rfl 9 278 Tryz.underlying277 (unitElem (H := Unit)) w.heap.size N Dm rfl hown ?_; rw [hs.out])
    go_ret
    exact ⟨bool_of H.out.symm, hB⟩
   ·have hlt2 : m < n := by
     have : m ≠ n := fun e => hno (hnd.1 e)
     omega
    have H : Hid (decide (¬ L.Nodup) = true) := Lib.hid (by simpa using hno)
    have hs : Hid (Maps.size Dm = m) := Lib.hid hsz
    have hlt3 : (m : Int) < (n : Int) := by omega
    clear hnd hno hsz
    go_wp2_with (at_len; refine wpList_len_own _ rfl _ 277 rfl 9 278 Tryz.underlying277 (unitElem (H := Unit)) w.heap.size N Dm rfl hown ?_; rw [hs.out])
    go_ret
    exact ⟨bool_of H.out.symm, hB⟩
end Go.Proofs.YtmepdkdeanbbaaaGreat
