/- Sets -/
import Derived.Test.YtmcccpbpijnbmaaDoorJ1
import Derived.DeepKeys4
import Derived.Maps.OwnSet
import Derived.Test.YtmcccpbpijnbmaaDoorRows
namespace Go.Proofs.YtmcccpbpijnbmaaDoor
set_option maxRecDepth 100000
open Go.RowKit Go.Maps

theorem fold_add : ∀ (ks acc : List Lit), (∀ x ∈ ks, WideAt.IsKeyLit x) → acc.Nodup →
  (ks.foldl addKey acc).length ≤ acc.length + ks.length ∧ ((ks.foldl addKey acc).length = acc.length + ks.length ↔ (acc ++ ks).Nodup)
 | [], acc, _, h => by simpa using h
 | x :: r, acc, hk, h => by
  have hx := hk x (by simp)
  have hr : ∀ y ∈ r, WideAt.IsKeyLit y := fun y hy => hk y (List.mem_cons_of_mem _ hy)
  rw [List.foldl_cons]
  by_cases hm : x ∈ acc
  ·have e : addKey acc x = acc := by
    unfold addKey
    rw [if_pos]
    exact List.any_eq_true.2 ⟨x, hm, WideAt.sameKey_self hx⟩
   rw [e]
   have ih := (fold_add r acc hr h).1
   refine ⟨by simp; omega, fun h' => ?_, fun h' => ?_⟩
   ·simp at h'; omega
   ·exact absurd hm (fun hm => by
     have := (List.nodup_append.1 h').2.2 x hm x (by simp)
     exact this rfl)
  ·have e : addKey acc x = acc ++ [x] := by
    unfold addKey
    rw [if_neg]
    intro h'
    obtain ⟨y, hy, hs⟩ := List.any_eq_true.1 h'
    exact hm (WideAt.sameKey_eq hs ▸ hy)
   rw [e]
   have hn : (acc ++ [x]).Nodup := List.nodup_append.2 ⟨h, by simp, fun a ha b hb => by
    simp at hb
    subst hb
    intro e; exact hm (e ▸ ha)⟩
   have ih := fold_add r (acc ++ [x]) hr hn
   have e1 : (acc ++ [x]).length + r.length = acc.length + (x :: r).length := by simp; omega
   have e2 : acc ++ [x] ++ r = acc ++ x :: r := by simp
   rw [e1, e2] at ih
   exact ih

def HasK (w : World) (K : TypeId) (b : Nat) (vs : List Value) : Prop :=
 ∃ (n : Nat) (ks : List Lit), n ≤ vs.length ∧ vs.map (keyOf Tryd.prog K) = ks.map some ∧ w.ownsMap Tryd.prog K (unitElem (H := Unit)) b n (setOf (.agg []) ks)
section
variable {w w' : World} {K : TypeId} {b : Nat} {vs : List Value}
theorem HasK.made (w : World) (K : TypeId) : HasK (w.alloc (.map #[] 0)) K w.heap.size [] := ⟨0, [], Nat.le_refl _, rfl, World.ownsMap_made _ _ _ _⟩
theorem HasK.kept {row : Option Nat} (h : HasK w K b vs) (hg : w.grownBy w' row) (hne : some b ≠ row) : HasK w' K b vs := by
 obtain ⟨n, ks, h1, h2, h3⟩ := h
 exact ⟨n, ks, h1, h2, h3.kept hg hne⟩
theorem HasK.alloc (h : HasK w K b vs) (o : Obj) : HasK (w.alloc o) K b vs := h.kept (World.grownBy_alloc w o none) (by simp)
theorem HasK.store (law : Keyed Tryd.prog K) {t e : TypeId} (ht : Tryd.prog.underlying t = some (.map K e)) (h : HasK w K b vs) {x : Value} {kl : Lit} (hkey : keyOf Tryd.prog K x = some kl) (hl : vs.length ≤ 1000000) :
  ∃ w', (Instr.mapUpdate t (.map (some b)) x (.agg #[])).run Tryd.prog w = .ok () w' ∧ HasK w' K b (vs ++ [x]) ∧ w.grownBy w' (some b) := by
 obtain ⟨n, ks, h1, h2, h3⟩ := h
 obtain ⟨w', hrun, hown, hg⟩ := h3.update law ht (by unfold maxLen; omega) hkey unitElem_mk
 refine ⟨w', hrun, ⟨n + 1, ks ++ [kl], by simp; omega, by simp [h2, hkey], ?_⟩, hg⟩
 rw [setOf_snoc]
 exact hown
theorem HasK.count (law : Keyed Tryd.prog K) (h : HasK w K b vs) : ∃ (n m : Nat) (D : DataW Unit), w.ownsMap Tryd.prog K (unitElem (H := Unit)) b n D ∧ Maps.size D = m ∧ m ≤ vs.length ∧ (m = vs.length ↔ vs.Nodup) := by
 obtain ⟨n, ks, h1, h2, h3⟩ := h
 have hkl : ks.length = vs.length := by have := congrArg List.length h2; simpa using this.symm
 have hks : ∀ x ∈ ks, WideAt.IsKeyLit x := fun x hx => by
  have : some x ∈ vs.map (keyOf Tryd.prog K) := by rw [h2]; exact List.mem_map.2 ⟨x, hx, rfl⟩
  obtain ⟨v, _, hv⟩ := List.mem_map.1 this
  exact law.key hv
 have hsz := size_setOf (.agg [] : DataW Unit) ks hks
 have hf := fold_add ks [] hks List.nodup_nil
 have hnd : ks.Nodup ↔ vs.Nodup := by
  have key : ∀ (i : Nat) (hi : i < vs.length), keyOf Tryd.prog K vs[i] = some (ks[i]'(by omega)) := fun i hi => by
   have h4 : (vs[i]?).map (keyOf Tryd.prog K) = (ks[i]?).map some := by rw [← List.getElem?_map, h2, List.getElem?_map]
   rw [List.getElem?_eq_getElem hi, List.getElem?_eq_getElem (show i < ks.length by omega)] at h4
   simpa using h4
  unfold List.Nodup
  rw [List.pairwise_iff_getElem, List.pairwise_iff_getElem]
  constructor
  ·intro h i j hi hj hij e
   refine h i j (by omega) (by omega) hij ?_
   have h4 := key i hi
   have h5 := key j hj
   rw [e, h5] at h4
   simpa using h4.symm
  ·intro h i j hi hj hij e
   refine h i j (by omega) (by omega) hij ?_
   exact law.inj (key i (by omega)) (e ▸ key j (by omega))
 refine ⟨n, _, _, h3, hsz, ?_, ?_⟩
 ·have := hf.1
  simp at this
  omega
 ·rw [← hkl, ← hnd]
  have := hf.2
  simpa using this
end
theorem set_laid : laidOutB Tryd.prog = true := by kernel_rfl
end Go.Proofs.YtmcccpbpijnbmaaDoor
