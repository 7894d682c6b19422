/- CloneI, Sets -/
import Derived.Test.YtmcccpbpijnbmaaJ2
import Derived.DeepKeys4
import Derived.Lib.SliceRun
import Derived.Maps.OwnSet
import Derived.Test.YtmcccpbpijnbmaaRows
namespace Go.Proofs.Ytmcccpbpijnbmaa
set_option maxRecDepth 100000
open Go.RowKit

def TellJ (w : World) (l : List Int) (e : Ending) (w' : World) : Prop := (∃ v, e = .returned v ∧ OwnI w' w.heap.size v l) ∧ Below w.heap.size w w'
theorem OwnI.empty (w : World) : OwnI (w.alloc (.cells #[] 3)) w.heap.size (.slice (some ⟨w.heap.size, 0, none⟩) 0 0) [] :=
 ⟨rfl, .inr ⟨w.heap.size, 0, #[], rfl, Nat.le_refl _, heap_alloc_new w _, Nat.le_refl _, Nat.zero_le _, rfl, rfl⟩⟩
set_option maxRecDepth 100000 in
theorem cloneI_any {A : Option Addr} {n c : Nat} {l : List Int} {w : World} (hr : HasI w w.heap.size A n c l) (hn : n ≤ 1000000) :
  Calls Try.prog 29 #[.slice A n c] w (TellJ w l) := by
 rcases A with _ | ad
 ·obtain rfl := hr.void rfl
  obtain rfl : n = 0 := by have := hr.cap; omega
  obtain rfl : l = [] := List.eq_nil_of_length_eq_zero hr.len
  have q : ∀ W, (binOp .eql 27 (.slice none 0 0) (.slice none 0 0)).run Try.prog W = .ok (.bool true) W := fun W => Lib.run_eql_slice_nil W _ _ none 0 0 0 0 Try.underlying27
  go_enter Try.func29, Try.ntmps29
  go_wp2
  go_ret
  exact ⟨⟨_, rfl, OwnI.nil_ _ _⟩, Below.refl _ _⟩
 ·have q : ∀ W, (binOp .eql 27 (.slice (some ad) n c) (.slice none 0 0)).run Try.prog W = .ok (.bool false) W := fun W => Lib.run_eql_slice_nil W _ _ (some ad) n c 0 0 Try.underlying27
  have hr1 := hr.alloc (Nat.le_refl _) (.cells #[] 3)
  have Hn := Lib.hid (show (([] : List Int).length + n) * 8 ≤ 140737488355328 by simp; omega)
  clear hn
  go_enter Try.func29, Try.ntmps29
  go_wp2_with (at_builtin; refine wpList_appIs rfl _ _ rfl w.heap.size _ [] rfl (OwnI.empty w) w.heap.size _ n _ l rfl hr1 Hn.out (by simp) ?_)
  intro v2 w2 ho2 hg2
  have hb2 : Below w.heap.size w w2 := ((Below.refl _ _).alloc (Nat.le_refl _) (.cells #[] 3)).trans (hg2.below_ (by simp) (fun k hk => by injection hk with hk; subst hk; exact Nat.le_refl _))
  have H := Lib.hid ho2
  clear ho2 hg2
  go_wp2
  go_ret
  exact ⟨⟨v2, rfl, H.out⟩, hb2⟩

end Go.Proofs.Ytmcccpbpijnbmaa
namespace Go.Proofs.Ytmcccpbpijnbmaa
set_option maxRecDepth 100000
open Go.RowKit Go.Maps

theorem fold_add : ∀ (ks acc : List Lit), (∀ x ∈ ks, WideAt.IsKeyLit x) → acc.Nodup →
  (ks.foldl addKey acc).length ≤ acc.length + ks.length ∧ ((ks.foldl addKey acc).length = acc.length + ks.length ↔ (acc ++ ks).Nodup)
 | [], acc, _, h => by simpa using h
 | x :: r, acc, hk, h => by
  have hx := hk x (by simp)
  have hr : ∀ y ∈ r, WideAt.IsKeyLit y := fun y hy => hk y (List.mem_cons_of_mem _ hy)
  rw [List.foldl_cons]
  by_cases hm : x ∈ acc
  ·have e : addKey acc x = acc := by
    unfold addKey
    rw [if_pos]
    exact List.any_eq_true.2 ⟨x, hm, WideAt.sameKey_self hx⟩
   rw [e]
   have ih := (fold_add r acc hr h).1
   refine ⟨by simp; omega, fun h' => ?_, fun h' => ?_⟩
   ·simp at h'; omega
   ·exact absurd hm (fun hm => by
     have := (List.nodup_append.1 h').2.2 x hm x (by simp)
     exact this rfl)
  ·have e : addKey acc x = acc ++ [x] := by
    unfold addKey
    rw [if_neg]
    intro h'
    obtain ⟨y, hy, hs⟩ := List.any_eq_true.1 h'
    exact hm (WideAt.sameKey_eq hs ▸ hy)
   rw [e]
   have hn : (acc ++ [x]).Nodup := List.nodup_append.2 ⟨h, by simp, fun a ha b hb => by
    simp at hb
    subst hb
    intro e; exact hm (e ▸ ha)⟩
   have ih := fold_add r (acc ++ [x]) hr hn
   have e1 : (acc ++ [x]).length + r.length = acc.length + (x :: r).length := by simp; omega
   have e2 : acc ++ [x] ++ r = acc ++ x :: r := by simp
   rw [e1, e2] at ih
   exact ih

def HasK (w : World) (K : TypeId) (b : Nat) (vs : List Value) : Prop :=
 ∃ (n : Nat) (ks : List Lit), n ≤ vs.length ∧ vs.map (keyOf Try.prog K) = ks.map some ∧ w.ownsMap Try.prog K (unitElem (H := Unit)) b n (setOf (.agg []) ks)
section
variable {w w' : World} {K : TypeId} {b : Nat} {vs : List Value}
theorem HasK.made (w : World) (K : TypeId) : HasK (w.alloc (.map #[] 0)) K w.heap.size [] := ⟨0, [], Nat.le_refl _, rfl, World.ownsMap_made _ _ _ _⟩
theorem HasK.kept {row : Option Nat} (h : HasK w K b vs) (hg : w.grownBy w' row) (hne : some b ≠ row) : HasK w' K b vs := by
 obtain ⟨n, ks, h1, h2, h3⟩ := h
 exact ⟨n, ks, h1, h2, h3.kept hg hne⟩
theorem HasK.alloc (h : HasK w K b vs) (o : Obj) : HasK (w.alloc o) K b vs := h.kept (World.grownBy_alloc w o none) (by simp)
theorem HasK.store (law : Keyed Try.prog K) {t e : TypeId} (ht : Try.prog.underlying t = some (.map K e)) (h : HasK w K b vs) {x : Value} {kl : Lit} (hkey : keyOf Try.prog K x = some kl) (hl : vs.length ≤ 1000000) :
  ∃ w', (Instr.mapUpdate t (.map (some b)) x (.agg #[])).run Try.prog w = .ok () w' ∧ HasK w' K b (vs ++ [x]) ∧ w.grownBy w' (some b) := by
 obtain ⟨n, ks, h1, h2, h3⟩ := h
 obtain ⟨w', hrun, hown, hg⟩ := h3.update law ht (by unfold maxLen; omega) hkey unitElem_mk
 refine ⟨w', hrun, ⟨n + 1, ks ++ [kl], by simp; omega, by simp [h2, hkey], ?_⟩, hg⟩
 rw [setOf_snoc]
 exact hown
theorem HasK.count (law : Keyed Try.prog K) (h : HasK w K b vs) : ∃ (n m : Nat) (D : DataW Unit), w.ownsMap Try.prog K (unitElem (H := Unit)) b n D ∧ Maps.size D = m ∧ m ≤ vs.length ∧ (m = vs.length ↔ vs.Nodup) := by
 obtain ⟨n, ks, h1, h2, h3⟩ := h
 have hkl : ks.length = vs.length := by have := congrArg List.length h2; simpa using this.symm
 have hks : ∀ x ∈ ks, WideAt.IsKeyLit x := fun x hx => by
  have : some x ∈ vs.map (keyOf Try.prog K) := by rw [h2]; exact List.mem_map.2 ⟨x, hx, rfl⟩
  obtain ⟨v, _, hv⟩ := List.mem_map.1 this
  exact law.key hv
 have hsz := size_setOf (.agg [] : DataW Unit) ks hks
 have hf := fold_add ks [] hks List.nodup_nil
 have hnd : ks.Nodup ↔ vs.Nodup := by
  have key : ∀ (i : Nat) (hi : i < vs.length), keyOf Try.prog K vs[i] = some (ks[i]'(by omega)) := fun i hi => by
   have h4 : (vs[i]?).map (keyOf Try.prog K) = (ks[i]?).map some := by rw [← List.getElem?_map, h2, List.getElem?_map]
   rw [List.getElem?_eq_getElem hi, List.getElem?_eq_getElem (show i < ks.length by omega)] at h4
   simpa using h4
  unfold List.Nodup
  rw [List.pairwise_iff_getElem, List.pairwise_iff_getElem]
  constructor
  ·intro h i j hi hj hij e
   refine h i j (by omega) (by omega) hij ?_
   have h4 := key i hi
   have h5 := key j hj
   rw [e, h5] at h4
   simpa using h4.symm
  ·intro h i j hi hj hij e
   refine h i j (by omega) (by omega) hij ?_
   exact law.inj (key i (by omega)) (e ▸ key j (by omega))
 refine ⟨n, _, _, h3, hsz, ?_, ?_⟩
 ·have := hf.1
  simp at this
  omega
 ·rw [← hkl, ← hnd]
  have := hf.2
  simpa using this
end
theorem set_laid : laidOutB Try.prog = true := by kernel_rfl
end Go.Proofs.Ytmcccpbpijnbmaa
