/- MapV -/
import Derived.Test.YteifhgcjmjihgaaJ2
import Derived.DeepKeys4
import Derived.Maps.OwnSet
import Derived.Maps.RangeWalk
import Derived.Test.YteifhgcjmjihgaaRows
namespace Go.Proofs.Yteifhgcjmjihgaa
set_option maxRecDepth 100000
open Go.RowKit Go.Maps

/-- An element reads as itself. -/
def rawE (v : Value) : Option (DataW Value × List MemPlace) := some (.held v, [])
theorem rawE_inv {v : Value} {y : DataW Value × List MemPlace} (h : rawE v = some y) : y = (.held v, []) := by
  unfold rawE at h
  exact (Option.some.inj h).symm
/-- Block b is a map with keys of type K, of m entries: F says what stands under a key. -/
def MapV (w : World) (K : TypeId) (b m : Nat) (F : Lit → Option Value) : Prop :=
  ∃ D, w.ownsMap Try.prog K rawE b m D ∧ Maps.size D = m ∧ ∀ kl, Maps.has D kl = (F kl).isSome ∧ ∀ z, D.atKey kl (.held z) = .held ((F kl).getD z)
open Classical in
/-- One more under kl, or in place of what was there. -/
noncomputable def putF (F : Lit → Option Value) (kl : Lit) (v : Value) : Lit → Option Value := fun k => if k = kl then some v else F k
theorem putF_same {F : Lit → Option Value} {kl : Lit} {v : Value} : putF F kl v kl = some v := if_pos rfl
theorem putF_other {F : Lit → Option Value} {kl k : Lit} {v : Value} (h : ¬ k = kl) : putF F kl v k = F k := if_neg h
theorem ownsMap_tight {H : Type} {R : Value → Option (DataW H × List MemPlace)} {w : World} {P : Program} {K : TypeId} {b n : Nat} {D : DataW H} (h : w.ownsMap P K R b n D) : w.ownsMap P K R b (Maps.size D) D := by
  obtain ⟨es, clock, hb, F, _, rfl⟩ := h
  refine ⟨es, clock, hb, F, ?_, rfl⟩
  have e1 : Maps.size (DataW.map ((es.toList.map (WideElems.rg P K R)).foldr DataW.insert [])) = es.size := by simp [Maps.size, length_sorted]
  rw [e1]
  exact Nat.le_refl _
section
variable {w w' : World} {K : TypeId} {b m : Nat} {F : Lit → Option Value}
theorem MapV.lt (h : MapV w K b m F) : b < w.heap.size := by obtain ⟨D, h1, _⟩ := h; exact h1.lt
theorem MapV.made (w : World) (K : TypeId) : MapV (w.alloc (.map #[] 0)) K w.heap.size 0 fun _ => none :=
  ⟨.map [], World.ownsMap_made _ _ _ _, rfl, fun kl => ⟨by simp [Maps.has], fun z => by simp [DataW.atKey]⟩⟩
theorem MapV.drewN (h : MapV w K b m F) (k : Nat) : MapV (w.drewN k) K b m F := h
theorem MapV.kept {row : Option Nat} (h : MapV w K b m F) (hg : w.grownBy w' row) (hne : some b ≠ row) : MapV w' K b m F := by
  obtain ⟨D, h1, h2⟩ := h
  exact ⟨D, h1.kept hg hne, h2⟩
theorem MapV.same (h : MapV w K b m F) (hb : w'.heap[b]? = w.heap[b]?) : MapV w' K b m F := by
  obtain ⟨D, ⟨es, clock, h1, h2, h3, h4⟩, h5⟩ := h
  exact ⟨D, ⟨es, clock, hb.trans h1, h2, h3, h4⟩, h5⟩
theorem MapV.alloc (h : MapV w K b m F) (o : Obj) : MapV (w.alloc o) K b m F := h.kept (World.grownBy_alloc w o none) (by simp)
theorem MapV.below {C : Nat} (h : MapV w K b m F) (hb : Below C w w') (hC : b < C) : MapV w' K b m F := h.same (hb.block b hC)
theorem MapV.is_map (h : MapV w K b m F) : ∃ es clock, w.heap[b]? = some (.map es clock) := by
  obtain ⟨D, ⟨es, clock, h1, _⟩, _⟩ := h
  exact ⟨es, clock, h1⟩
/-- 'v, ok := m[k]'. -/
theorem MapV.look {t e : TypeId} {z key : Value} {kl : Lit} (h : MapV w K b m F) (law : Keyed Try.prog K) (ht : Try.prog.underlying t = some (.map K e)) (hz : (zeroValue e).run Try.prog w = .ok z w) (hkey : keyOf Try.prog K key = some kl) :
    (Instr.lookup t (.map (some b)) key true).run Try.prog w = .ok (.tuple #[(F kl).getD z, .bool (F kl).isSome]) w := by
  obtain ⟨D, h1, _, h3⟩ := h
  obtain ⟨v, ps, hrun, hv⟩ := h1.look_ok law ht hz (zd := .held z) (zp := []) rfl hkey
  obtain ⟨h4, h5⟩ := h3 kl
  rw [h5] at hv
  have e : v = (F kl).getD z := by
    have := rawE_inv hv
    simp only [Prod.mk.injEq, DataW.held.injEq] at this
    exact this.1.symm
  rw [hrun, h4, e]
/-- 'm[k]'. -/
theorem MapV.get {t e : TypeId} {z key : Value} {kl : Lit} (h : MapV w K b m F) (law : Keyed Try.prog K) (ht : Try.prog.underlying t = some (.map K e)) (hz : (zeroValue e).run Try.prog w = .ok z w) (hkey : keyOf Try.prog K key = some kl) :
    (Instr.lookup t (.map (some b)) key false).run Try.prog w = .ok ((F kl).getD z) w := by
  obtain ⟨D, h1, _, h3⟩ := h
  obtain ⟨v, ps, hrun, hv⟩ := h1.lookup law ht hz (zd := .held z) (zp := []) rfl hkey
  rw [(h3 kl).2] at hv
  have e : v = (F kl).getD z := by
    have := rawE_inv hv
    simp only [Prod.mk.injEq, DataW.held.injEq] at this
    exact this.1.symm
  rw [hrun, e]
/-- 'm[k] = v'. -/
theorem MapV.store {t e : TypeId} {key v : Value} {kl : Lit} (h : MapV w K b m F) (law : Keyed Try.prog K) (ht : Try.prog.underlying t = some (.map K e)) (hm : m < maxLen) (hkey : keyOf Try.prog K key = some kl) :
    ∃ w', (Instr.mapUpdate t (.map (some b)) key v).run Try.prog w = .ok () w' ∧ MapV w' K b (if (F kl).isSome then m else m + 1) (putF F kl v) ∧ w.grownBy w' (some b) := by
  obtain ⟨D, h1, h2, h3⟩ := h
  obtain ⟨w', hrun, hown, hg⟩ := h1.update law ht hm hkey (val := v) rfl
  have hs : Maps.size (D.put kl (.held v)) = if (F kl).isSome then m else m + 1 := by rw [size_put (h1.tidy law), (h3 kl).1, h2]
  refine ⟨w', hrun, ⟨_, hs ▸ ownsMap_tight hown, hs, fun k => ?_⟩, hg⟩
  by_cases hk : k = kl
  · subst hk
    rw [putF_same]
    refine ⟨has_put_same h1.isMap (law.key hkey) _, fun z => ?_⟩
    rw [atKey_put_same h1.isMap (law.key hkey)]
    rfl
  · rw [putF_other hk]
    refine ⟨?_, fun z => ?_⟩
    · rw [has_put_other hk]
      exact (h3 k).1
    · rw [atKey_put_other hk]
      exact (h3 k).2 z
/-- 'len(m)'. -/
theorem MapV.len {t e : TypeId} (h : MapV w K b m F) (ht : Try.prog.underlying t = some (.map K e)) (ty : TypeId) : (Builtin.len_ #[t] ty #[.map (some b)]).run Try.prog w = .ok (.int .i64 m) w := by
  obtain ⟨D, h1, h2, _⟩ := h
  rw [h1.len ht ty, h2]
/-- Its datum, for a range over it. -/
theorem MapV.own (h : MapV w K b m F) : ∃ D, w.ownsMap Try.prog K rawE b m D ∧ Maps.size D = m ∧ (∀ kl, Maps.has D kl = (F kl).isSome) ∧ ∀ kl v, (∀ zd, D.atKey kl zd = .held v) → F kl = some v := by
  obtain ⟨D, h1, h2, h3⟩ := h
  refine ⟨D, h1, h2, fun kl => (h3 kl).1, fun kl v hv => ?_⟩
  have hh := has_true_of_atKey hv
  rw [(h3 kl).1] at hh
  obtain ⟨u, hu⟩ := Option.isSome_iff_exists.1 hh
  have h4 := ((h3 kl).2 v).symm.trans (hv _)
  rw [hu] at h4
  simp only [Option.getD_some, DataW.held.injEq] at h4
  rw [hu, h4]
end
end Go.Proofs.Yteifhgcjmjihgaa
