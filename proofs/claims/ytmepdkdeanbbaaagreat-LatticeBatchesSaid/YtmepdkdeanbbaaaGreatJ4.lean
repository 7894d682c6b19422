/- Sets, MapV -/
import Derived.Test.YtmepdkdeanbbaaaGreatJ2
import Derived.DeepKeys4
import Derived.Maps.OwnSet
import Derived.Maps.RangeWalk
import Derived.Test.YtmepdkdeanbbaaaGreatRows
namespace Go.Proofs.YtmepdkdeanbbaaaGreat
set_option maxRecDepth 100000
open Go.RowKit Go.Maps

theorem fold_add : ∀ (ks acc : List Lit), (∀ x ∈ ks, WideAt.IsKeyLit x) → acc.Nodup →
  (ks.foldl addKey acc).length ≤ acc.length + ks.length ∧ ((ks.foldl addKey acc).length = acc.length + ks.length ↔ (acc ++ ks).Nodup)
 | [], acc, _, h => by simpa using h
 | x :: r, acc, hk, h => by
  have hx := hk x (by simp)
  have hr : ∀ y ∈ r, WideAt.IsKeyLit y := fun y hy => hk y (List.mem_cons_of_mem _ hy)
  rw [List.foldl_cons]
  by_cases hm : x ∈ acc
  ·have e : addKey acc x = acc := by
    unfold addKey
    rw [if_pos]
    exact List.any_eq_true.2 ⟨x, hm, WideAt.sameKey_self hx⟩
   rw [e]
   have ih := (fold_add r acc hr h).1
   refine ⟨by simp; omega, fun h' => ?_, fun h' => ?_⟩
   ·simp at h'; omega
   ·exact absurd hm (fun hm => by
     have := (List.nodup_append.1 h').2.2 x hm x (by simp)
     exact this rfl)
  ·have e : addKey acc x = acc ++ [x] := by
    unfold addKey
    rw [if_neg]
    intro h'
    obtain ⟨y, hy, hs⟩ := List.any_eq_true.1 h'
    exact hm (WideAt.sameKey_eq hs ▸ hy)
   rw [e]
   have hn : (acc ++ [x]).Nodup := List.nodup_append.2 ⟨h, by simp, fun a ha b hb => by
    simp at hb
    subst hb
    intro e; exact hm (e ▸ ha)⟩
   have ih := fold_add r (acc ++ [x]) hr hn
   have e1 : (acc ++ [x]).length + r.length = acc.length + (x :: r).length := by simp; omega
   have e2 : acc ++ [x] ++ r = acc ++ x :: r := by simp
   rw [e1, e2] at ih
   exact ih

def HasK (w : World) (K : TypeId) (b : Nat) (vs : List Value) : Prop :=
 ∃ (n : Nat) (ks : List Lit), n ≤ vs.length ∧ vs.map (keyOf Tryz.prog K) = ks.map some ∧ w.ownsMap Tryz.prog K (unitElem (H := Unit)) b n (setOf (.agg []) ks)
section
variable {w w' : World} {K : TypeId} {b : Nat} {vs : List Value}
theorem HasK.made (w : World) (K : TypeId) : HasK (w.alloc (.map #[] 0)) K w.heap.size [] := ⟨0, [], Nat.le_refl _, rfl, World.ownsMap_made _ _ _ _⟩
theorem HasK.kept {row : Option Nat} (h : HasK w K b vs) (hg : w.grownBy w' row) (hne : some b ≠ row) : HasK w' K b vs := by
 obtain ⟨n, ks, h1, h2, h3⟩ := h
 exact ⟨n, ks, h1, h2, h3.kept hg hne⟩
theorem HasK.alloc (h : HasK w K b vs) (o : Obj) : HasK (w.alloc o) K b vs := h.kept (World.grownBy_alloc w o none) (by simp)
theorem HasK.store (law : Keyed Tryz.prog K) {t e : TypeId} (ht : Tryz.prog.underlying t = some (.map K e)) (h : HasK w K b vs) {x : Value} {kl : Lit} (hkey : keyOf Tryz.prog K x = some kl) (hl : vs.length ≤ 1000000) :
  ∃ w', (Instr.mapUpdate t (.map (some b)) x (.agg #[])).run Tryz.prog w = .ok () w' ∧ HasK w' K b (vs ++ [x]) ∧ w.grownBy w' (some b) := by
 obtain ⟨n, ks, h1, h2, h3⟩ := h
 obtain ⟨w', hrun, hown, hg⟩ := h3.update law ht (by unfold maxLen; omega) hkey unitElem_mk
 refine ⟨w', hrun, ⟨n + 1, ks ++ [kl], by simp; omega, by simp [h2, hkey], ?_⟩, hg⟩
 rw [setOf_snoc]
 exact hown
theorem HasK.count (law : Keyed Tryz.prog K) (h : HasK w K b vs) : ∃ (n m : Nat) (D : DataW Unit), w.ownsMap Tryz.prog K (unitElem (H := Unit)) b n D ∧ Maps.size D = m ∧ m ≤ vs.length ∧ (m = vs.length ↔ vs.Nodup) := by
 obtain ⟨n, ks, h1, h2, h3⟩ := h
 have hkl : ks.length = vs.length := by have := congrArg List.length h2; simpa using this.symm
 have hks : ∀ x ∈ ks, WideAt.IsKeyLit x := fun x hx => by
  have : some x ∈ vs.map (keyOf Tryz.prog K) := by rw [h2]; exact List.mem_map.2 ⟨x, hx, rfl⟩
  obtain ⟨v, _, hv⟩ := List.mem_map.1 this
  exact law.key hv
 have hsz := size_setOf (.agg [] : DataW Unit) ks hks
 have hf := fold_add ks [] hks List.nodup_nil
 have hnd : ks.Nodup ↔ vs.Nodup := by
  have key : ∀ (i : Nat) (hi : i < vs.length), keyOf Tryz.prog K vs[i] = some (ks[i]'(by omega)) := fun i hi => by
   have h4 : (vs[i]?).map (keyOf Tryz.prog K) = (ks[i]?).map some := by rw [← List.getElem?_map, h2, List.getElem?_map]
   rw [List.getElem?_eq_getElem hi, List.getElem?_eq_getElem (show i < ks.length by omega)] at h4
   simpa using h4
  unfold List.Nodup
  rw [List.pairwise_iff_getElem, List.pairwise_iff_getElem]
  constructor
  ·intro h i j hi hj hij e
   refine h i j (by omega) (by omega) hij ?_
   have h4 := key i hi
   have h5 := key j hj
   rw [e, h5] at h4
   simpa using h4.symm
  ·intro h i j hi hj hij e
   refine h i j (by omega) (by omega) hij ?_
   exact law.inj (key i (by omega)) (e ▸ key j (by omega))
 refine ⟨n, _, _, h3, hsz, ?_, ?_⟩
 ·have := hf.1
  simp at this
  omega
 ·rw [← hkl, ← hnd]
  have := hf.2
  simpa using this
end
theorem set_laid : laidOutB Tryz.prog = true := by kernel_rfl
end Go.Proofs.YtmepdkdeanbbaaaGreat
namespace Go.Proofs.YtmepdkdeanbbaaaGreat
set_option maxRecDepth 100000
open Go.RowKit Go.Maps

def rawE (v : Value) : Option (DataW Value × List MemPlace) := some (.held v, [])
theorem rawE_inv {v : Value} {y : DataW Value × List MemPlace} (h : rawE v = some y) : y = (.held v, []) := by
 unfold rawE at h
 exact (Option.some.inj h).symm
def MapV (w : World) (K : TypeId) (b m : Nat) (F : Lit → Option Value) : Prop :=
 ∃ D, w.ownsMap Tryz.prog K rawE b m D ∧ Maps.size D = m ∧ ∀ kl, Maps.has D kl = (F kl).isSome ∧ ∀ z, D.atKey kl (.held z) = .held ((F kl).getD z)
open Classical in
noncomputable def putF (F : Lit → Option Value) (kl : Lit) (v : Value) : Lit → Option Value := fun k => if k = kl then some v else F k
theorem putF_same {F : Lit → Option Value} {kl : Lit} {v : Value} : putF F kl v kl = some v := if_pos rfl
theorem putF_other {F : Lit → Option Value} {kl k : Lit} {v : Value} (h : ¬ k = kl) : putF F kl v k = F k := if_neg h
theorem ownsMap_tight {H : Type} {R : Value → Option (DataW H × List MemPlace)} {w : World} {P : Program} {K : TypeId} {b n : Nat} {D : DataW H} (h : w.ownsMap P K R b n D) : w.ownsMap P K R b (Maps.size D) D := by
 obtain ⟨es, clock, hb, F, _, rfl⟩ := h
 refine ⟨es, clock, hb, F, ?_, rfl⟩
 have e1 : Maps.size (DataW.map ((es.toList.map (WideElems.rg P K R)).foldr DataW.insert [])) = es.size := by simp [Maps.size, length_sorted]
 rw [e1]
 exact Nat.le_refl _
section
variable {w w' : World} {K : TypeId} {b m : Nat} {F : Lit → Option Value}
theorem MapV.lt (h : MapV w K b m F) : b < w.heap.size := by obtain ⟨D, h1, _⟩ := h; exact h1.lt
theorem MapV.made (w : World) (K : TypeId) : MapV (w.alloc (.map #[] 0)) K w.heap.size 0 fun _ => none :=
 ⟨.map [], World.ownsMap_made _ _ _ _, rfl, fun kl => ⟨by simp [Maps.has], fun z => by simp [DataW.atKey]⟩⟩
theorem MapV.same (h : MapV w K b m F) (hb : w'.heap[b]? = w.heap[b]?) : MapV w' K b m F := by
 obtain ⟨D, ⟨es, clock, h1, h2, h3, h4⟩, h5⟩ := h
 exact ⟨D, ⟨es, clock, hb.trans h1, h2, h3, h4⟩, h5⟩
theorem MapV.is_map (h : MapV w K b m F) : ∃ es clock, w.heap[b]? = some (.map es clock) := by
 obtain ⟨D, ⟨es, clock, h1, _⟩, _⟩ := h
 exact ⟨es, clock, h1⟩
theorem MapV.look {t e : TypeId} {z key : Value} {kl : Lit} (h : MapV w K b m F) (law : Keyed Tryz.prog K) (ht : Tryz.prog.underlying t = some (.map K e)) (hz : (zeroValue e).run Tryz.prog w = .ok z w) (hkey : keyOf Tryz.prog K key = some kl) :
  (Instr.lookup t (.map (some b)) key true).run Tryz.prog w = .ok (.tuple #[(F kl).getD z, .bool (F kl).isSome]) w := by
 obtain ⟨D, h1, _, h3⟩ := h
 obtain ⟨v, ps, hrun, hv⟩ := h1.look_ok law ht hz (zd := .held z) (zp := []) rfl hkey
 obtain ⟨h4, h5⟩ := h3 kl
 rw [h5] at hv
 have e : v = (F kl).getD z := by
  have := rawE_inv hv
  simp only [Prod.mk.injEq, DataW.held.injEq] at this
  exact this.1.symm
 rw [hrun, h4, e]
theorem MapV.get {t e : TypeId} {z key : Value} {kl : Lit} (h : MapV w K b m F) (law : Keyed Tryz.prog K) (ht : Tryz.prog.underlying t = some (.map K e)) (hz : (zeroValue e).run Tryz.prog w = .ok z w) (hkey : keyOf Tryz.prog K key = some kl) :
  (Instr.lookup t (.map (some b)) key false).run Tryz.prog w = .ok ((F kl).getD z) w := by
 obtain ⟨D, h1, _, h3⟩ := h
 obtain ⟨v, ps, hrun, hv⟩ := h1.lookup law ht hz (zd := .held z) (zp := []) rfl hkey
 rw [(h3 kl).2] at hv
 have e : v = (F kl).getD z := by
  have := rawE_inv hv
  simp only [Prod.mk.injEq, DataW.held.injEq] at this
  exact this.1.symm
 rw [hrun, e]
theorem MapV.store {t e : TypeId} {key v : Value} {kl : Lit} (h : MapV w K b m F) (law : Keyed Tryz.prog K) (ht : Tryz.prog.underlying t = some (.map K e)) (hm : m < maxLen) (hkey : keyOf Tryz.prog K key = some kl) :
  ∃ w', (Instr.mapUpdate t (.map (some b)) key v).run Tryz.prog w = .ok () w' ∧ MapV w' K b (if (F kl).isSome then m else m + 1) (putF F kl v) ∧ w.grownBy w' (some b) := by
 obtain ⟨D, h1, h2, h3⟩ := h
 obtain ⟨w', hrun, hown, hg⟩ := h1.update law ht hm hkey (val := v) rfl
 have hs : Maps.size (D.put kl (.held v)) = if (F kl).isSome then m else m + 1 := by rw [size_put (h1.tidy law), (h3 kl).1, h2]
 refine ⟨w', hrun, ⟨_, hs ▸ ownsMap_tight hown, hs, fun k => ?_⟩, hg⟩
 by_cases hk : k = kl
 ·subst hk
  rw [putF_same]
  refine ⟨has_put_same h1.isMap (law.key hkey) _, fun z => ?_⟩
  rw [atKey_put_same h1.isMap (law.key hkey)]
  rfl
 ·rw [putF_other hk]
  refine ⟨?_, fun z => ?_⟩
  ·rw [has_put_other hk]
   exact (h3 k).1
  ·rw [atKey_put_other hk]
   exact (h3 k).2 z
theorem MapV.len {t e : TypeId} (h : MapV w K b m F) (ht : Tryz.prog.underlying t = some (.map K e)) (ty : TypeId) : (Builtin.len_ #[t] ty #[.map (some b)]).run Tryz.prog w = .ok (.int .i64 m) w := by
 obtain ⟨D, h1, h2, _⟩ := h
 rw [h1.len ht ty, h2]
theorem MapV.own (h : MapV w K b m F) : ∃ D, w.ownsMap Tryz.prog K rawE b m D ∧ Maps.size D = m ∧ (∀ kl, Maps.has D kl = (F kl).isSome) ∧ ∀ kl v, (∀ zd, D.atKey kl zd = .held v) → F kl = some v := by
 obtain ⟨D, h1, h2, h3⟩ := h
 refine ⟨D, h1, h2, fun kl => (h3 kl).1, fun kl v hv => ?_⟩
 have hh := has_true_of_atKey hv
 rw [(h3 kl).1] at hh
 obtain ⟨u, hu⟩ := Option.isSome_iff_exists.1 hh
 have h4 := ((h3 kl).2 v).symm.trans (hv _)
 rw [hu] at h4
 simp only [Option.getD_some, DataW.held.injEq] at h4
 rw [hu, h4]
end
end Go.Proofs.YtmepdkdeanbbaaaGreat
