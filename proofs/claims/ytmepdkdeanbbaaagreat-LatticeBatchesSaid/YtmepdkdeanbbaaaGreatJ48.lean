/- LatA, LatB, LatC, LatD, LatF, LatG, LatH, LatI, LtA, LtV, LuC, LuF, LuJ, LatJ, LatK, LtE, LtF, LtG, LtO, LtU -/
import Derived.Test.YtmepdkdeanbbaaaGreatJ2
import Derived.Test.YtmepdkdeanbbaaaGreatJ10
import Derived.Test.YtmepdkdeanbbaaaGreatJ16
import Derived.Test.YtmepdkdeanbbaaaGreatJ19
import Derived.Test.YtmepdkdeanbbaaaGreatJ24
import Derived.Test.YtmepdkdeanbbaaaGreatJ25
import Derived.Test.YtmepdkdeanbbaaaGreatJ35
import Derived.Test.YtmepdkdeanbbaaaGreatJ39
import Derived.Test.YtmepdkdeanbbaaaGreatJ44
import Derived.Test.YtmepdkdeanbbaaaGreatJ45
import Derived.Test.YtmepdkdeanbbaaaGreatJ47
import Derived.BigQuiet
import Derived.Deep.QuietTactic
import Derived.Deep.RegionHeld3
import Derived.Deep.RegionLaw
import Derived.Lib.SliceRun
namespace Go.Proofs.YtmepdkdeanbbaaaGreat
set_option maxRecDepth 100000
open Go.RowKit

/-! ### frames -/
section
variable {S : Nat → Prop} {w w' : World}
theorem Cb.chg {g b W m : Nat} {C : Cub} (h : Cb w g b W m C) (hc : Chg S w w') (hg : ¬ S g) (hb : ¬ S b) : Cb w' g b W m C :=
 ⟨(hc.block g h.blk.lt hg).trans h.blk, h.map.same (hc.block b h.map.lt hb), h.ok, h.w1, h.w3, h.m1, h.m2⟩
theorem Mv.chg {R : Nat → Prop} (hc : Chg S w w') (hS : ∀ k, R k → ¬ S k) : Mv w R w' R := fun b hb hl => ⟨hc.block b hl (hS b hb), hb⟩
theorem Block.chg {g : Nat} {e : TypeId} {cs : Array Value} (h : Block w g e cs) (hc : Chg S w w') (hg : ¬ S g) : Block w' g e cs := (hc.block g h.lt hg).trans h
end
theorem own_ne_block {w : World} {B size n g : Nat} {e e' : TypeId} {v : Value} {xs : List Value} {cs : Array Value} {fr : Nat × Nat} (h : w.ownsRow B e size v n xs) (hb : w.heap[g]? = some (.cells cs e' fr)) (hne : e ≠ e') : v.ownBlock ≠ some g := by
 rcases h.2 with ⟨rfl, _⟩ | ⟨g', cap, cur, rfl, _, hg, _⟩
 ·intro h; cases h
 ·intro hk
  simp only [Value.ownBlock, Option.some.injEq] at hk
  subst hk
  rw [hb] at hg
  simp only [Option.some.injEq, Obj.cells.injEq] at hg
  exact hne hg.2.1.symm
theorem own_ne_map {w : World} {B size n g : Nat} {e : TypeId} {v : Value} {xs : List Value} (h : w.ownsRow B e size v n xs) (hb : ∃ es clock, w.heap[g]? = some (.map es clock)) : v.ownBlock ≠ some g := by
 obtain ⟨es, clock, hb⟩ := hb
 rcases h.2 with ⟨rfl, _⟩ | ⟨g', cap, cur, rfl, _, hg, _⟩
 ·intro h; cases h
 ·intro hk
  simp only [Value.ownBlock, Option.some.injEq] at hk
  subst hk
  rw [hb] at hg
  cases hg

/-! ### dictionaries, cuboids, side by side -/
abbrev DAt := Nat × Value × Nat
abbrev CAt := Nat × Nat
def ptrV (g : Nat) : Value := .pointer (some ⟨g, 0, none⟩)
def footD (d : DAt) (k : Nat) : Prop := foot d.1 d.2.1 d.2.2 k
def footC (c : CAt) (k : Nat) : Prop := k = c.1 ∨ k = c.2
structure Dcs (w : World) (ds : List DAt) (N : List Nat) (Qs : List (List Pth)) : Prop where
 len : ds.length = N.length
 good : GoodD N Qs
 at_ : ∀ (i : Nat) (d : DAt), ds[i]? = some d → Dc w 0 d.1 d.2.1 d.2.2 (N.getD i 0) (Qs.getD i [])
 ne : ∀ (i j : Nat) (d e : DAt), ds[i]? = some d → ds[j]? = some e → i ≠ j → ∀ k, footD d k → ¬ footD e k
structure Cbs (w : World) (vs : List CAt) (W m : Nat) (Cs : List Cub) : Prop where
 len : vs.length = Cs.length
 at_ : ∀ (i : Nat) (c : CAt), vs[i]? = some c → Cb w c.1 c.2 W m (Cs.getD i [])
 ne : ∀ (i j : Nat) (c e : CAt), vs[i]? = some c → vs[j]? = some e → i ≠ j → ∀ k, footC c k → ¬ footC e k
section
variable {w w' : World} {S : Nat → Prop} {ds : List DAt} {N : List Nat} {Qs : List (List Pth)} {vs : List CAt} {W m : Nat} {Cs : List Cub}
theorem Dcs.lt (h : Dcs w ds N Qs) {d : DAt} (hd : d ∈ ds) {k : Nat} (hk : footD d k) : k < w.heap.size := by
 obtain ⟨i, hi⟩ := List.getElem?_of_mem hd
 exact ((h.at_ i d hi).foot_base hk).2
theorem Cbs.lt (h : Cbs w vs W m Cs) {c : CAt} (hd : c ∈ vs) {k : Nat} (hk : footC c k) : k < w.heap.size := by
 obtain ⟨i, hi⟩ := List.getElem?_of_mem hd
 have := h.at_ i c hi
 rcases hk with rfl | rfl
 ·exact this.blk.lt
 ·exact this.map.lt
theorem Dcs.chg (h : Dcs w ds N Qs) (hc : Chg S w w') (hS : ∀ d ∈ ds, ∀ k, footD d k → ¬ S k) : Dcs w' ds N Qs :=
 ⟨h.len, h.good, fun i d hi => (h.at_ i d hi).chg hc (hS d (List.mem_of_getElem? hi)), h.ne⟩
theorem Cbs.chg (h : Cbs w vs W m Cs) (hc : Chg S w w') (hS : ∀ c ∈ vs, ∀ k, footC c k → ¬ S k) : Cbs w' vs W m Cs :=
 ⟨h.len, fun i c hi => (h.at_ i c hi).chg hc (hS c (List.mem_of_getElem? hi) _ (.inl rfl)) (hS c (List.mem_of_getElem? hi) _ (.inr rfl)), h.ne⟩
theorem Dcs.below (h : Dcs w ds N Qs) (hb : Below w.heap.size w w') : Dcs w' ds N Qs := h.chg (S := fun _ => False) (Chg.of_below hb (Nat.le_refl _)) (fun _ _ _ _ h => h)
theorem Dcs.lenQ (h : Dcs w ds N Qs) : Qs.length = ds.length := by rw [h.good.len, h.len]
theorem getD_set {α : Type} {L : List α} {i j : Nat} {x y : α} (hi : i < L.length) : (L.set i x).getD j y = if i = j then x else L.getD j y := by
 rw [List.getD_eq_getElem?_getD, List.getElem?_set]
 by_cases h : i = j
 ·rw [if_pos h, if_pos h, if_pos (h ▸ hi)]; rfl
 ·rw [if_neg h, if_neg h, List.getD_eq_getElem?_getD]
theorem Dcs.set_ (h : Dcs w ds N Qs) {i : Nat} {d d' : DAt} {Q' : List Pth} (hi : ds[i]? = some d) (hc : Chg (footD d) w w') (hd : Dc w' 0 d'.1 d'.2.1 d'.2.2 (N.getD i 0) Q') (hf : ∀ k, footD d' k → footD d k ∨ w.heap.size ≤ k) : Dcs w' (ds.set i d') N (Qs.set i Q') := by
 have hil := (List.getElem?_eq_some_iff.1 hi).1
 have hq := h.lenQ
 have hl := h.len
 refine ⟨by rw [List.length_set]; exact h.len, GoodD.of (by rw [List.length_set, hq, hl]) fun j hj => ?_, fun j e hj => ?_, fun a b x y ha hb hab k hx hy => ?_⟩
 ·rw [getD_set (by omega)]
  by_cases hij : i = j
  ·subst hij; rw [if_pos rfl]; exact hd.good
  ·rw [if_neg hij]; exact h.good.get hj
 ·rw [getD_set (by omega)]
  rw [List.getElem?_set] at hj
  by_cases hij : i = j
  ·subst hij
   rw [if_pos rfl, if_pos hil] at hj
   obtain rfl := Option.some.inj hj
   rw [if_pos rfl]; exact hd
  ·rw [if_neg hij] at hj
   rw [if_neg hij]
   exact (h.at_ j e hj).chg hc fun k hk hk' => h.ne i j d e hi hj hij k hk' hk
 ·rw [List.getElem?_set] at ha hb
  by_cases h1 : i = a
  ·subst h1
   rw [if_pos rfl, if_pos hil] at ha
   obtain rfl := Option.some.inj ha
   rw [if_neg hab] at hb
   rcases hf k hx with h2 | h2
   ·exact h.ne i b d y hi hb hab k h2 hy
   ·have := h.lt (List.mem_of_getElem? hb) hy; omega
  ·rw [if_neg h1] at ha
   by_cases h2 : i = b
   ·subst h2
    rw [if_pos rfl, if_pos hil] at hb
    obtain rfl := Option.some.inj hb
    rcases hf k hy with h3 | h3
    ·exact h.ne i a d x hi ha (fun e => hab e.symm) k h3 hx
    ·have := h.lt (List.mem_of_getElem? ha) hx; omega
   ·rw [if_neg h2] at hb
    exact h.ne a b x y ha hb hab k hx hy
theorem Cbs.set_ (h : Cbs w vs W m Cs) {i : Nat} {c c' : CAt} {C' : Cub} (hi : vs[i]? = some c) (hc : Chg (footC c) w w') (hd : Cb w' c'.1 c'.2 W m C') (hf : ∀ k, footC c' k → footC c k ∨ w.heap.size ≤ k) : Cbs w' (vs.set i c') W m (Cs.set i C') := by
 have hil := (List.getElem?_eq_some_iff.1 hi).1
 have hl := h.len
 refine ⟨by rw [List.length_set, List.length_set]; exact h.len, fun j e hj => ?_, fun a b x y ha hb hab k hx hy => ?_⟩
 ·rw [getD_set (by omega)]
  rw [List.getElem?_set] at hj
  by_cases hij : i = j
  ·subst hij
   rw [if_pos rfl, if_pos hil] at hj
   obtain rfl := Option.some.inj hj
   rw [if_pos rfl]; exact hd
  ·rw [if_neg hij] at hj
   rw [if_neg hij]
   exact (h.at_ j e hj).chg hc (fun hk => h.ne i j c e hi hj hij _ hk (.inl rfl)) (fun hk => h.ne i j c e hi hj hij _ hk (.inr rfl))
 ·rw [List.getElem?_set] at ha hb
  by_cases h1 : i = a
  ·subst h1
   rw [if_pos rfl, if_pos hil] at ha
   obtain rfl := Option.some.inj ha
   rw [if_neg hab] at hb
   rcases hf k hx with h2 | h2
   ·exact h.ne i b c y hi hb hab k h2 hy
   ·have := h.lt (List.mem_of_getElem? hb) hy; omega
  ·rw [if_neg h1] at ha
   by_cases h2 : i = b
   ·subst h2
    rw [if_pos rfl, if_pos hil] at hb
    obtain rfl := Option.some.inj hb
    rcases hf k hy with h3 | h3
    ·exact h.ne i a c x hi ha (fun e => hab e.symm) k h3 hx
    ·have := h.lt (List.mem_of_getElem? ha) hx; omega
   ·rw [if_neg h2] at hb
    exact h.ne a b x y ha hb hab k hx hy
end

/-! ### the lattice -/
structure LtM (w : World) (g : Nat) (X1 X2 X3 dv vv : Value) (ds : List DAt) (vs : List CAt) (N : List Nat) (Qs : List (List Pth)) (W m : Nat) (Cs : List Cub) (cnt : Int) : Prop where
 blk : Block w g 92 #[X1, X2, X3, dv, vv, .int .i64 cnt]
 dr : w.ownsRow 0 94 1 dv ds.length (ds.map fun d => ptrV d.1)
 vr : w.ownsRow 0 96 1 vv vs.length (vs.map fun c => ptrV c.1)
 dcs : Dcs w ds N Qs
 cbs : Cbs w vs W m Cs
 apart : ∀ d ∈ ds, ∀ c ∈ vs, ∀ k, footD d k → ¬ footC c k
def footL (g : Nat) (dv vv : Value) (ds : List DAt) (vs : List CAt) (k : Nat) : Prop := k = g ∨ dv.ownBlock = some k ∨ vv.ownBlock = some k ∨ (∃ d ∈ ds, footD d k) ∨ ∃ c ∈ vs, footC c k
section
variable {w w' : World} {S : Nat → Prop} {g : Nat} {X1 X2 X3 dv vv : Value} {ds : List DAt} {vs : List CAt} {N : List Nat} {Qs : List (List Pth)} {W m : Nat} {Cs : List Cub} {cnt : Int}
theorem LtM.chg (h : LtM w g X1 X2 X3 dv vv ds vs N Qs W m Cs cnt) (hc : Chg S w w') (hS : ∀ k, footL g dv vv ds vs k → ¬ S k) : LtM w' g X1 X2 X3 dv vv ds vs N Qs W m Cs cnt :=
 ⟨h.blk.chg hc (hS g (.inl rfl)), hc.row h.dr fun k hk => hS k (.inr (.inl hk)), hc.row h.vr fun k hk => hS k (.inr (.inr (.inl hk))), h.dcs.chg hc fun d hd k hk => hS k (.inr (.inr (.inr (.inl ⟨d, hd, hk⟩)))), h.cbs.chg hc fun c hc' k hk => hS k (.inr (.inr (.inr (.inr ⟨c, hc', hk⟩)))), h.apart⟩
theorem LtM.below (h : LtM w g X1 X2 X3 dv vv ds vs N Qs W m Cs cnt) (hb : Below w.heap.size w w') : LtM w' g X1 X2 X3 dv vv ds vs N Qs W m Cs cnt := h.chg (S := fun _ => False) (Chg.of_below hb (Nat.le_refl _)) (fun _ _ h => h)
theorem LtM.drewN (h : LtM w g X1 X2 X3 dv vv ds vs N Qs W m Cs cnt) (k : Nat) : LtM (w.drewN k) g X1 X2 X3 dv vv ds vs N Qs W m Cs cnt := h.chg (S := fun _ => False) ((Chg.refl _ w).drewN k) (fun _ _ h => h)
theorem LtM.lt (h : LtM w g X1 X2 X3 dv vv ds vs N Qs W m Cs cnt) {k : Nat} (hk : footL g dv vv ds vs k) : k < w.heap.size := by
 rcases hk with rfl | hk | hk | ⟨d, hd, hk⟩ | ⟨c, hc, hk⟩
 ·exact h.blk.lt
 ·exact (World.ownsRow.lt h.dr k hk).2
 ·exact (World.ownsRow.lt h.vr k hk).2
 ·exact h.dcs.lt hd hk
 ·exact h.cbs.lt hc hk
def isLat (o : Obj) : Prop := match o with
 | .cells _ e _ => e = 92 ∨ e = 94 ∨ e = 96 ∨ e = 160 ∨ e = 168 ∨ e = 181
 | .map _ _ => True
 | _ => False
theorem own_kind {w : World} {B size n k : Nat} {e : TypeId} {v : Value} {xs : List Value} (h : w.ownsRow B e size v n xs) (hk : v.ownBlock = some k) : ∃ cs fr, w.heap[k]? = some (.cells cs e fr) := by
 rcases h.2 with ⟨rfl, _⟩ | ⟨g', cap, cur, rfl, _, hg, _⟩
 ·cases hk
 ·simp only [Value.ownBlock, Option.some.injEq] at hk
  subst hk
  exact ⟨_, _, hg⟩
theorem Dc.kind {base n : Nat} {Q : List Pth} {d : DAt} (h : Dc w base d.1 d.2.1 d.2.2 n Q) {k : Nat} (hk : footD d k) : (∃ cs e fr, w.heap[k]? = some (.cells cs e fr) ∧ (e = 160 ∨ e = 168)) ∨ ∃ es clock, w.heap[k]? = some (.map es clock) := by
 rcases hk with rfl | hk | rfl
 ·exact .inl ⟨_, _, _, h.block, .inl rfl⟩
 ·obtain ⟨cs, fr, e⟩ := own_kind h.row hk
  exact .inl ⟨cs, _, fr, e, .inr rfl⟩
 ·exact .inr h.map.is_map
theorem Cb.kind {C : Cub} {c : CAt} (h : Cb w c.1 c.2 W m C) {k : Nat} (hk : footC c k) : (∃ cs fr, w.heap[k]? = some (.cells cs 181 fr)) ∨ ∃ es clock, w.heap[k]? = some (.map es clock) := by
 rcases hk with rfl | rfl
 ·exact .inl ⟨_, _, h.blk⟩
 ·exact .inr h.map.is_map
theorem LtM.kind (h : LtM w g X1 X2 X3 dv vv ds vs N Qs W m Cs cnt) {k : Nat} (hk : footL g dv vv ds vs k) : ∃ o, w.heap[k]? = some o ∧ isLat o := by
 rcases hk with rfl | hk | hk | ⟨d, hd, hk⟩ | ⟨c, hc, hk⟩
 ·exact ⟨_, h.blk, .inl rfl⟩
 ·obtain ⟨cs, fr, e⟩ := own_kind h.dr hk
  exact ⟨_, e, .inr (.inl rfl)⟩
 ·obtain ⟨cs, fr, e⟩ := own_kind h.vr hk
  exact ⟨_, e, .inr (.inr (.inl rfl))⟩
 ·obtain ⟨i, hi⟩ := List.getElem?_of_mem hd
  rcases (h.dcs.at_ i d hi).kind hk with ⟨cs, e, fr, he, h1 | h1⟩ | ⟨es, clock, he⟩
  ·exact ⟨_, he, .inr (.inr (.inr (.inl h1)))⟩
  ·exact ⟨_, he, .inr (.inr (.inr (.inr (.inl h1))))⟩
  ·exact ⟨_, he, trivial⟩
 ·obtain ⟨i, hi⟩ := List.getElem?_of_mem hc
  rcases (h.cbs.at_ i c hi).kind hk with ⟨cs, fr, he⟩ | ⟨es, clock, he⟩
  ·exact ⟨_, he, .inr (.inr (.inr (.inr (.inr rfl))))⟩
  ·exact ⟨_, he, trivial⟩
theorem LtM.g_dv (h : LtM w g X1 X2 X3 dv vv ds vs N Qs W m Cs cnt) : dv.ownBlock ≠ some g := own_ne_block h.dr h.blk (by decide)
theorem LtM.g_vv (h : LtM w g X1 X2 X3 dv vv ds vs N Qs W m Cs cnt) : vv.ownBlock ≠ some g := own_ne_block h.vr h.blk (by decide)
theorem LtM.dv_vv (h : LtM w g X1 X2 X3 dv vv ds vs N Qs W m Cs cnt) {k : Nat} (hk : dv.ownBlock = some k) : vv.ownBlock ≠ some k := by
 obtain ⟨cs, fr, e⟩ := own_kind h.dr hk
 exact own_ne_block h.vr e (by decide)
theorem LtM.d_g (h : LtM w g X1 X2 X3 dv vv ds vs N Qs W m Cs cnt) {d : DAt} (hd : d ∈ ds) : ¬ footD d g := fun hk => by
 obtain ⟨i, hi⟩ := List.getElem?_of_mem hd
 have hb : w.heap[g]? = some (.cells _ _ _) := h.blk
 rcases (h.dcs.at_ i d hi).kind hk with ⟨cs, e, fr, he, h1⟩ | ⟨es, clock, he⟩
 ·rw [hb] at he
  simp only [Option.some.injEq, Obj.cells.injEq] at he
  rcases h1 with h1 | h1 <;> (rw [← he.2.1] at h1; exact absurd h1 (by decide))
 ·rw [hb] at he; cases he
theorem LtM.c_g (h : LtM w g X1 X2 X3 dv vv ds vs N Qs W m Cs cnt) {c : CAt} (hc : c ∈ vs) : ¬ footC c g := fun hk => by
 obtain ⟨i, hi⟩ := List.getElem?_of_mem hc
 have hb : w.heap[g]? = some (.cells _ _ _) := h.blk
 rcases (h.cbs.at_ i c hi).kind hk with ⟨cs, fr, he⟩ | ⟨es, clock, he⟩
 ·rw [hb] at he
  simp only [Option.some.injEq, Obj.cells.injEq] at he
  exact absurd he.2.1 (by decide)
 ·rw [hb] at he; cases he
theorem own_not_d {B size n' : Nat} {e : TypeId} {v : Value} {xs : List Value} {base n : Nat} {Q : List Pth} {d : DAt} (hr : w.ownsRow B e size v n' xs) (h : Dc w base d.1 d.2.1 d.2.2 n Q) (h1 : e ≠ 160) (h2 : e ≠ 168) {k : Nat} (hk : v.ownBlock = some k) : ¬ footD d k := h.foot_row hr h1 h2 k hk
theorem own_not_c {B size n' : Nat} {e : TypeId} {v : Value} {xs : List Value} {C : Cub} {c : CAt} (hr : w.ownsRow B e size v n' xs) (h : Cb w c.1 c.2 W m C) (h1 : e ≠ 181) {k : Nat} (hk : v.ownBlock = some k) : ¬ footC c k := fun hf => by
 rcases h.kind hf with ⟨cs, fr, he⟩ | hm
 ·exact own_ne_block hr he h1 hk
 ·exact own_ne_map hr hm hk
theorem LtM.c0 (h : LtM w g X1 X2 X3 dv vv ds vs N Qs W m Cs cnt) : w.cell? ⟨g, 0, none⟩ = some X1 := h.blk.cell 0
theorem LtM.c1 (h : LtM w g X1 X2 X3 dv vv ds vs N Qs W m Cs cnt) : w.cell? ⟨g, 1, none⟩ = some X2 := h.blk.cell 1
theorem LtM.c2 (h : LtM w g X1 X2 X3 dv vv ds vs N Qs W m Cs cnt) : w.cell? ⟨g, 2, none⟩ = some X3 := h.blk.cell 2
theorem LtM.c3 (h : LtM w g X1 X2 X3 dv vv ds vs N Qs W m Cs cnt) : w.cell? ⟨g, 3, none⟩ = some dv := h.blk.cell 3
theorem LtM.c4 (h : LtM w g X1 X2 X3 dv vv ds vs N Qs W m Cs cnt) : w.cell? ⟨g, 4, none⟩ = some vv := h.blk.cell 4
theorem LtM.c5 (h : LtM w g X1 X2 X3 dv vv ds vs N Qs W m Cs cnt) : w.cell? ⟨g, 5, none⟩ = some (.int .i64 cnt) := h.blk.cell 5
end
theorem ptrs_at {w : World} {B : Nat} {T : TypeId} {v : Value} {gs : List Nat} (h : w.ownsRow B T 1 v gs.length (gs.map ptrV)) : ∃ A c, v = .slice A gs.length c ∧ gs.length ≤ c ∧ c ≤ maxLen ∧ ∀ i d, gs[i]? = some d → ∃ b, A = some ⟨b, 0, none⟩ ∧ v.ownBlock = some b ∧ b < w.heap.size ∧ w.cell? ⟨b, i, none⟩ = some (ptrV d) := by
 have h1 := h
 rcases h.2 with ⟨rfl, h0⟩ | ⟨b, cap, cur, rfl, hb, hg, hnc, hcm, hcs, ht⟩
 ·exact ⟨none, 0, by rw [h0], by omega, by unfold maxLen; omega, fun i d hi => by
   have := (List.getElem?_eq_some_iff.1 hi).1
   omega⟩
 ·refine ⟨_, cap, rfl, hnc, hcm, fun i d hi => ⟨b, rfl, rfl, (Array.getElem?_eq_some_iff.1 hg).1, ?_⟩⟩
  have hcell := World.ownsRow.cells h1 (g := b) rfl i (ptrV d) (by rw [List.getElem?_map, hi]; rfl)
  rw [add_flat] at hcell
  simpa using hcell

/-! ### a schema, in blocks of R -/
abbrev elDim : ElT PDim := elPair elText 1 (elRow elText 1)
theorem elDim_ok : elDim.Ok := elPair_ok elText_ok (elRow_ok elText_ok)
structure SchR (w : World) (R : Nat → Prop) (A1 : Option Addr) (n1 c1 : Nat) (A2 : Option Addr) (n2 c2 : Nat) (A3 : Option Addr) (n3 c3 : Nat) (D : List PDim) (M : List Txt) (V : List (List Int)) : Prop where
 d : Row elDim 2 w R A1 n1 c1 D
 m : Row elText 1 w R A2 n2 c2 M
 v : Row (elRow elInt 1) 1 w R A3 n3 c3 V
section
variable {w w' : World} {R S : Nat → Prop} {A1 A2 A3 : Option Addr} {n1 c1 n2 c2 n3 c3 : Nat} {D : List PDim} {M : List Txt} {V : List (List Int)}
theorem SchR.mv {R' : Nat → Prop} (h : SchR w R A1 n1 c1 A2 n2 c2 A3 n3 c3 D M V) (m : Mv w R w' R') : SchR w' R' A1 n1 c1 A2 n2 c2 A3 n3 c3 D M V := ⟨h.d.mv elDim_ok m, h.m.mv elText_ok m, h.v.mv (elRow_ok elInt_ok) m⟩
theorem SchR.chg (h : SchR w R A1 n1 c1 A2 n2 c2 A3 n3 c3 D M V) (hc : Chg S w w') (hS : ∀ k, R k → ¬ S k) : SchR w' R A1 n1 c1 A2 n2 c2 A3 n3 c3 D M V := h.mv (Mv.chg hc hS)
theorem SchR.belowS (h : SchR w R A1 n1 c1 A2 n2 c2 A3 n3 c3 D M V) (hb : Below w.heap.size w w') : SchR w' R A1 n1 c1 A2 n2 c2 A3 n3 c3 D M V := h.mv (Mv.belowS hb R)
theorem Row.hasDs {A : Option Addr} {n c : Nat} (h : Row elDim 2 w R A n c D) : HasDs w w.heap.size A n c D := by
 refine ⟨h.1, h.cap, h.fit, h.void, fun i hi => ?_⟩
 obtain ⟨b, o, us, x, e, _, hl, h4, hc, ⟨h5, A', n', c', h6, hr⟩, he⟩ := h.at_ hi
 have e1 : D.getD i zeroD = x := by rw [List.getD_eq_getElem?_getD, he.out]; rfl
 rw [e1]
 match us, h4 with
 | [u0, u1], _ =>
  simp only [List.take_succ_cons, List.take_zero, List.drop_succ_cons, List.drop_zero, elText, List.cons.injEq, and_true] at h5 h6
  subst h5 h6
  exact ⟨b, o, A', n', c', e, hl, hc 0 _ rfl, hc 1 _ rfl, hr.hasT⟩
theorem SchR.has (h : SchR w R A1 n1 c1 A2 n2 c2 A3 n3 c3 D M V) : HasS w w.heap.size A1 n1 c1 A2 n2 c2 A3 n3 c3 D M V := ⟨h.d.hasDs, h.m.hasT, h.v.hasL⟩
end
def Lt (w : World) (R : Nat → Prop) (g : Nat) (F : Nat → Prop) (D : List PDim) (M : List Txt) (V : List (List Int)) (Qs : List (List Pth)) (Cs : List Cub) (cnt : Int) : Prop :=
 ∃ dv vv ds vs A1 n1 c1 A2 n2 c2 A3 n3 c3, LtM w g (.slice A1 n1 c1) (.slice A2 n2 c2) (.slice A3 n3 c3) dv vv ds vs (levN D) Qs D.length M.length Cs cnt ∧ SchR w R A1 n1 c1 A2 n2 c2 A3 n3 c3 D M V ∧ (∀ k, F k ↔ footL g dv vv ds vs k) ∧ (∀ k, R k → ¬ F k) ∧ mayS D M V ∧ Cs.length = (viewsP D V).length
section
variable {w w' : World} {R F S : Nat → Prop} {g : Nat} {D : List PDim} {M : List Txt} {V : List (List Int)} {Qs : List (List Pth)} {Cs : List Cub} {cnt : Int}
theorem Lt.chg (h : Lt w R g F D M V Qs Cs cnt) (hc : Chg S w w') (hF : ∀ k, F k → ¬ S k) (hR : ∀ k, R k → ¬ S k) : Lt w' R g F D M V Qs Cs cnt := by
 obtain ⟨dv, vv, ds, vs, A1, n1, c1, A2, n2, c2, A3, n3, c3, h1, h2, h3, h4, h5⟩ := h
 exact ⟨dv, vv, ds, vs, A1, n1, c1, A2, n2, c2, A3, n3, c3, h1.chg hc fun k hk => hF k ((h3 k).2 hk), h2.chg hc hR, h3, h4, h5⟩
theorem Lt.below (h : Lt w R g F D M V Qs Cs cnt) (hb : Below w.heap.size w w') : Lt w' R g F D M V Qs Cs cnt := h.chg (S := fun _ => False) (Chg.of_below hb (Nat.le_refl _)) (fun _ _ h => h) (fun _ _ h => h)
theorem Lt.lt (h : Lt w R g F D M V Qs Cs cnt) {k : Nat} (hk : F k) : k < w.heap.size := by
 obtain ⟨dv, vv, ds, vs, A1, n1, c1, A2, n2, c2, A3, n3, c3, h1, h2, h3, h4⟩ := h
 exact h1.lt ((h3 k).1 hk)
end
end Go.Proofs.YtmepdkdeanbbaaaGreat
namespace Go.Proofs.YtmepdkdeanbbaaaGreat
set_option maxRecDepth 100000
open Go.RowKit

theorem Sl.of_own {w : World} {B sz n : Nat} {T : TypeId} {v : Value} {vs : List Value} (h : w.ownsRow B T sz v n vs) : ∃ A c, v = .slice A n c ∧ Sl w (fun k => B ≤ k ∧ v.ownBlock = some k) A n c sz vs := by
 rcases h.2 with ⟨rfl, h0⟩ | ⟨g, cap, cur, rfl, hb, hg, hnc, hcm, _⟩
 ·subst h0
  have : vs = [] := List.eq_nil_of_length_eq_zero (by have := h.1; omega)
  subst this
  exact ⟨none, 0, rfl, Sl.none_ _ _ _⟩
 ·refine ⟨_, cap, rfl, h.1, hnc, hcm, (fun h => by cases h), fun _ => ⟨g, 0, rfl, ⟨hb, rfl⟩, (Array.getElem?_eq_some_iff.1 hg).1, fun j u hu => ?_⟩⟩
  have := h.cells (g := g) rfl j u hu
  rwa [add_flat] at this
def TellV (T : TypeId) (sz n : Nat) (vs : List Value) (w : World) (e : Ending) (w' : World) : Prop := ∃ A c, e = .returned (.slice A n c) ∧ w'.ownsRow w.heap.size T sz (.slice A n c) n vs ∧ Below w.heap.size w w'
theorem own_empty (w : World) (T : TypeId) (sz : Nat) : (w.alloc (.cells #[] T)).ownsRow w.heap.size T sz (.slice (some ⟨w.heap.size, 0, none⟩) 0 0) 0 [] :=
 ⟨by simp, .inr ⟨w.heap.size, 0, #[], rfl, Nat.le_refl _, heap_alloc_new w _, Nat.le_refl _, Nat.zero_le _, by simp, by simp⟩⟩

/-! ### rows whose elements are put anew -/
def OwnMix {α : Type} (E : ElT α) (T : TypeId) (sz : Nat) (w : World) (B : Nat) (S : Nat → Prop) (v : Value) (n : Nat) (L : List α) (vs : List Value) (k : Nat) : Prop :=
 L.length = n ∧ ∃ us : List Value, us.length = k * sz ∧ w.ownsRow B T sz v n (us ++ vs.drop (k * sz)) ∧ ∀ i x, i < k → L[i]? = some x → E w (fun b => S b ∧ v.ownBlock ≠ some b) ((us.drop (i * sz)).take sz) x
section
variable {α : Type} {E : ElT α} {T : TypeId} {sz B n k g c : Nat} {w w' : World} {S : Nat → Prop} {v : Value} {L : List α} {vs : List Value}
theorem OwnMix.begin (h : w.ownsRow B T sz v n vs) (hl : L.length = n) : OwnMix E T sz w B S v n L vs 0 := ⟨hl, [], by simp, by simpa using h, fun i x hi => absurd hi (by omega)⟩
theorem OwnMix.end_ (h : OwnMix E T sz w B S v n L vs k) (hk : n ≤ k) (hv : vs.length = n * sz) : OwnR E T sz w B S v L := by
 obtain ⟨h0, us, h1, h2, h3⟩ := h
 rw [List.drop_of_length_le (by rw [hv]; exact Nat.mul_le_mul_right sz hk), List.append_nil] at h2
 subst h0
 exact ⟨us, h2, fun i x hi => h3 i x (by have := (List.getElem?_eq_some_iff.1 hi).1; omega) hi⟩
theorem OwnMix.below (hE : E.Ok) (h : OwnMix E T sz w B S v n L vs k) (hb : Below w.heap.size w w') : OwnMix E T sz w' B S v n L vs k := by
 obtain ⟨h0, us, h1, h2, h3⟩ := h
 exact ⟨h0, us, h1, row_below h2 hb, fun i x hi hx => hE _ _ _ _ _ _ (Mv.belowS hb _) (h3 i x hi hx)⟩
theorem OwnMix.lt (h : OwnMix E T sz w B S v n L vs k) : ∀ g, v.ownBlock = some g → B ≤ g ∧ g < w.heap.size := by
 obtain ⟨h0, us, h1, h2, h3⟩ := h
 exact World.ownsRow.lt h2
theorem OwnMix.free (h : OwnMix E T sz w B S (.slice (some ⟨g, 0, none⟩) n c) n L vs k) (j : Nat) : w.frozen? ⟨g, j, none⟩ = false := by
 obtain ⟨h0, us, h1, h2, h3⟩ := h
 exact h2.frozenAt j
theorem OwnMix.form (h : OwnMix E T sz w B S v n L vs k) (hn : 0 < n) : ∃ g c, v = .slice (some ⟨g, 0, none⟩) n c := by
 obtain ⟨h0, us, h1, h2, h3⟩ := h
 rcases h2.2 with ⟨rfl, e0⟩ | ⟨g, cap, cur, rfl, _⟩
 ·omega
 ·exact ⟨g, cap, rfl⟩
theorem OwnMix.old (h : OwnMix E T sz w B S (.slice (some ⟨g, 0, none⟩) n c) n L vs k) {j : Nat} (hj : k * sz ≤ j) (hj2 : j < n * sz) : w.cell? ⟨g, j, none⟩ = vs[j]? := by
 obtain ⟨h0, us, h1, h2, h3⟩ := h
 rw [h2.cellAt j hj2, List.getElem?_append_right (by omega), List.getElem?_drop]
 congr 1
 omega
theorem mix_set {us vs : List Value} {k : Nat} {u : Value} (h : us.length = k) (hk : k < vs.length) : (us ++ vs.drop k).set k u = (us ++ [u]) ++ vs.drop (k + 1) := by
 rw [List.set_append_right _ _ (by omega), h, Nat.sub_self, List.drop_eq_getElem_cons hk, List.set_cons_zero, List.append_assoc]
 rfl
theorem OwnMix.set1 (hE : E.Ok) (h : OwnMix E T 1 w B S (.slice (some ⟨g, 0, none⟩) n c) n L vs k) (hv : vs.length = n) {x : α} (hx : L[k]? = some x) {u : Value} (hu : E w (fun b => S b ∧ (Value.slice (some ⟨g, 0, none⟩) n c).ownBlock ≠ some b) [u] x) : OwnMix E T 1 (w.setCell ⟨g, k, none⟩ u) B S (.slice (some ⟨g, 0, none⟩) n c) n L vs (k + 1) := by
 obtain ⟨h0, us, h1, h2, h3⟩ := h
 have hk := (List.getElem?_eq_some_iff.1 hx).1
 have hs := (World.ownsRow.stored h2 k u).1
 rw [Nat.mul_one] at h1 hs
 rw [mix_set h1 (by omega)] at hs
 have hm : Mv w (fun b => S b ∧ (Value.slice (some ⟨g, 0, none⟩) n c).ownBlock ≠ some b) (w.setCell ⟨g, k, none⟩ u) (fun b => S b ∧ (Value.slice (some ⟨g, 0, none⟩) n c).ownBlock ≠ some b) := Mv.set w g k u (fun hb => hb.2 rfl)
 refine ⟨h0, us ++ [u], by simp [h1], by rw [Nat.mul_one]; exact hs, fun i y hi hy => ?_⟩
 rw [Nat.mul_one]
 by_cases hik : i < k
 ·have := hE _ _ _ _ _ _ hm (h3 i y hik hy)
  rw [Nat.mul_one] at this
  rw [List.drop_append_of_le_length (by omega), List.take_append_of_le_length (by rw [List.length_drop]; omega)]
  exact this
 ·obtain rfl : i = k := by omega
  obtain rfl : x = y := by rw [hx] at hy; exact Option.some.inj hy
  have e : ((us ++ [u]).drop i).take 1 = [u] := by rw [← h1, List.drop_left]; rfl
  rw [e]
  exact hE _ _ _ _ _ _ hm hu
theorem OwnMix.set2 (hE : E.Ok) (h : OwnMix E T 2 w B S (.slice (some ⟨g, 0, none⟩) n c) n L vs k) (hv : vs.length = n * 2) {x : α} (hx : L[k]? = some x) {u u' : Value} (hu : E w (fun b => S b ∧ (Value.slice (some ⟨g, 0, none⟩) n c).ownBlock ≠ some b) [u, u'] x) : OwnMix E T 2 ((w.setCell ⟨g, k * 2, none⟩ u).setCell ⟨g, k * 2 + 1, none⟩ u') B S (.slice (some ⟨g, 0, none⟩) n c) n L vs (k + 1) := by
 obtain ⟨h0, us, h1, h2, h3⟩ := h
 have hk := (List.getElem?_eq_some_iff.1 hx).1
 have hs := (World.ownsRow.stored h2 (k * 2) u).1
 rw [mix_set h1 (by omega)] at hs
 have hs2 := (World.ownsRow.stored hs (k * 2 + 1) u').1
 rw [mix_set (by simp [h1]) (by omega)] at hs2
 have hm : Mv w (fun b => S b ∧ (Value.slice (some ⟨g, 0, none⟩) n c).ownBlock ≠ some b) ((w.setCell ⟨g, k * 2, none⟩ u).setCell ⟨g, k * 2 + 1, none⟩ u') (fun b => S b ∧ (Value.slice (some ⟨g, 0, none⟩) n c).ownBlock ≠ some b) := (Mv.set w g (k * 2) u (fun hb => hb.2 rfl)).trans (Mv.set _ g (k * 2 + 1) u' (fun hb => hb.2 rfl))
 have e2 : (k + 1) * 2 = k * 2 + 1 + 1 := by omega
 refine ⟨h0, us ++ [u] ++ [u'], by simp [h1, e2], by rw [e2]; exact hs2, fun i y hi hy => ?_⟩
 by_cases hik : i < k
 ·have := hE _ _ _ _ _ _ hm (h3 i y hik hy)
  rw [List.append_assoc, List.drop_append_of_le_length (by omega), List.take_append_of_le_length (by rw [List.length_drop]; omega)]
  exact this
 ·obtain rfl : i = k := by omega
  obtain rfl : x = y := by rw [hx] at hy; exact Option.some.inj hy
  have e : ((us ++ [u] ++ [u']).drop (i * 2)).take 2 = [u, u'] := by rw [← h1, List.append_assoc, List.drop_left]; rfl
  rw [e]
  exact hE _ _ _ _ _ _ hm hu
end
/-! ### slices.Clone -/
theorem info_clT : (Tryz.prog.info? 9).map (fun i => (i.zero, i.size, i.bytes)) = some (some (.string ByteArray.empty), 1, 16) := by kernel_rfl
set_option maxRecDepth 100000 in
set_option maxHeartbeats 1000000 in
theorem cloneT_any {S : Nat → Prop} {A : Option Addr} {n c : Nat} {vs : List Value} {w : World} (h : Sl w S A n c 1 vs) (hone : ∀ u ∈ vs, u.oneCell' = true) (hn : n ≤ 1000) :
  Calls Tryz.prog 152 #[.slice A n c] w (TellV 9 1 n vs w) := by
 obtain ⟨i0, hi, hz0, hz1, hz2⟩ := info_parts info_clT
 rcases A with _ | ad
 ·obtain rfl := h.void rfl
  obtain rfl : n = 0 := by have := h.cap; omega
  obtain rfl : vs = [] := List.eq_nil_of_length_eq_zero (by have := h.len; omega)
  have q : ∀ W, (binOp .eql 23 (.slice none 0 0) (.slice none 0 0)).run Tryz.prog W = .ok (.bool true) W := fun W => Lib.run_eql_slice_nil W _ _ none 0 0 0 0 Tryz.underlying23
  go_enter Tryz.func152, Tryz.ntmps152
  go_wp2
  go_ret
  exact ⟨none, 0, rfl, World.ownsRow_nil _ _ _ _, Below.refl _ _⟩
 ·have q : ∀ W, (binOp .eql 23 (.slice (some ad) n c) (.slice none 0 0)).run Tryz.prog W = .ok (.bool false) W := fun W => Lib.run_eql_slice_nil W _ _ (some ad) n c 0 0 Tryz.underlying23
  have hcells : Hid (∀ j u, vs[j]? = some u → (w.alloc (.cells #[] 9)).cell? (ad.add j) = some u) := Lib.hid fun j u hu => by
   have hpos : 0 < n := by
    have h1 := (List.getElem?_eq_some_iff.1 hu).1
    have h2 := h.len
    omega
   obtain ⟨b, o, e, _, hl, hc⟩ := (h.mv (Mv.alloc w (.cells #[] 9) S)).has hpos
   injection e with e
   subst e
   rw [add_flat]
   exact hc j u hu
  have hl := Lib.hid h.len
  clear h
  go_enter Tryz.func152, Tryz.ntmps152
  go_wp2_with (at_builtin; refine wpList_append_own_at _ rfl _ _ 23 rfl w.heap.size 9 i0 _ 1 16 Tryz.underlying23 hi hz0 hz1 hz2 rfl (by decide) _ 0 [] rfl (own_empty w _ _) ad n c vs rfl hl.out hcells.out hone (by unfold maxLen; omega) (by omega) (by simp) ?_)
  intro v2 w2 hO hG hnil _
  have hB2 : Below w.heap.size w w2 := ⟨hG.os, hG.tape, hG.output, Nat.le_trans (by simp) hG.size, fun k hk => (hG.block k (by simp; omega) (fun e => by simp [Value.ownBlock] at e; omega)).trans (Below.heap_alloc w _ k hk)⟩
  obtain ⟨A2, c2, rfl, _⟩ := Sl.of_own hO
  have hF := Lib.hid (show w2.ownsRow w.heap.size 9 1 (.slice A2 n c2) n vs ∧ Below w.heap.size w w2 from ⟨hO, hB2⟩)
  clear hO hG hnil hB2 hcells
  go_wp2
  go_ret
  exact ⟨A2, c2, rfl, hF.out.1, hF.out.2⟩
theorem info_clL : (Tryz.prog.info? 47).map (fun i => (i.zero, i.size, i.bytes)) = some (some (.slice none 0 0), 1, 24) := by kernel_rfl
set_option maxRecDepth 100000 in
set_option maxHeartbeats 1000000 in
theorem cloneL_any {S : Nat → Prop} {A : Option Addr} {n c : Nat} {vs : List Value} {w : World} (h : Sl w S A n c 1 vs) (hone : ∀ u ∈ vs, u.oneCell' = true) (hn : n ≤ 1000) :
  Calls Tryz.prog 153 #[.slice A n c] w (TellV 47 1 n vs w) := by
 obtain ⟨i0, hi, hz0, hz1, hz2⟩ := info_parts info_clL
 rcases A with _ | ad
 ·obtain rfl := h.void rfl
  obtain rfl : n = 0 := by have := h.cap; omega
  obtain rfl : vs = [] := List.eq_nil_of_length_eq_zero (by have := h.len; omega)
  have q : ∀ W, (binOp .eql 24 (.slice none 0 0) (.slice none 0 0)).run Tryz.prog W = .ok (.bool true) W := fun W => Lib.run_eql_slice_nil W _ _ none 0 0 0 0 Tryz.underlying24
  go_enter Tryz.func153, Tryz.ntmps153
  go_wp2
  go_ret
  exact ⟨none, 0, rfl, World.ownsRow_nil _ _ _ _, Below.refl _ _⟩
 ·have q : ∀ W, (binOp .eql 24 (.slice (some ad) n c) (.slice none 0 0)).run Tryz.prog W = .ok (.bool false) W := fun W => Lib.run_eql_slice_nil W _ _ (some ad) n c 0 0 Tryz.underlying24
  have hcells : Hid (∀ j u, vs[j]? = some u → (w.alloc (.cells #[] 47)).cell? (ad.add j) = some u) := Lib.hid fun j u hu => by
   have hpos : 0 < n := by
    have h1 := (List.getElem?_eq_some_iff.1 hu).1
    have h2 := h.len
    omega
   obtain ⟨b, o, e, _, hl, hc⟩ := (h.mv (Mv.alloc w (.cells #[] 47) S)).has hpos
   injection e with e
   subst e
   rw [add_flat]
   exact hc j u hu
  have hl := Lib.hid h.len
  clear h
  go_enter Tryz.func153, Tryz.ntmps153
  go_wp2_with (at_builtin; refine wpList_append_own_at _ rfl _ _ 24 rfl w.heap.size 47 i0 _ 1 24 Tryz.underlying24 hi hz0 hz1 hz2 rfl (by decide) _ 0 [] rfl (own_empty w _ _) ad n c vs rfl hl.out hcells.out hone (by unfold maxLen; omega) (by omega) (by simp) ?_)
  intro v2 w2 hO hG hnil _
  have hB2 : Below w.heap.size w w2 := ⟨hG.os, hG.tape, hG.output, Nat.le_trans (by simp) hG.size, fun k hk => (hG.block k (by simp; omega) (fun e => by simp [Value.ownBlock] at e; omega)).trans (Below.heap_alloc w _ k hk)⟩
  obtain ⟨A2, c2, rfl, _⟩ := Sl.of_own hO
  have hF := Lib.hid (show w2.ownsRow w.heap.size 47 1 (.slice A2 n c2) n vs ∧ Below w.heap.size w w2 from ⟨hO, hB2⟩)
  clear hO hG hnil hB2 hcells
  go_wp2
  go_ret
  exact ⟨A2, c2, rfl, hF.out.1, hF.out.2⟩
theorem info_clD : (Tryz.prog.info? 75).map (fun i => (i.zero, i.size, i.bytes)) = some (some (.agg #[.string ByteArray.empty, .slice none 0 0]), 2, 40) := by kernel_rfl
set_option maxRecDepth 100000 in
set_option maxHeartbeats 1000000 in
theorem cloneD_any {S : Nat → Prop} {A : Option Addr} {n c : Nat} {vs : List Value} {w : World} (h : Sl w S A n c 2 vs) (hone : ∀ u ∈ vs, u.oneCell' = true) (hn : n ≤ 1000) :
  Calls Tryz.prog 150 #[.slice A n c] w (TellV 75 2 n vs w) := by
 obtain ⟨i0, hi, hz0, hz1, hz2⟩ := info_parts info_clD
 rcases A with _ | ad
 ·obtain rfl := h.void rfl
  obtain rfl : n = 0 := by have := h.cap; omega
  obtain rfl : vs = [] := List.eq_nil_of_length_eq_zero (by have := h.len; omega)
  have q : ∀ W, (binOp .eql 22 (.slice none 0 0) (.slice none 0 0)).run Tryz.prog W = .ok (.bool true) W := fun W => Lib.run_eql_slice_nil W _ _ none 0 0 0 0 Tryz.underlying22
  go_enter Tryz.func150, Tryz.ntmps150
  go_wp2
  go_ret
  exact ⟨none, 0, rfl, World.ownsRow_nil _ _ _ _, Below.refl _ _⟩
 ·have q : ∀ W, (binOp .eql 22 (.slice (some ad) n c) (.slice none 0 0)).run Tryz.prog W = .ok (.bool false) W := fun W => Lib.run_eql_slice_nil W _ _ (some ad) n c 0 0 Tryz.underlying22
  have hcells : Hid (∀ j u, vs[j]? = some u → (w.alloc (.cells #[] 75)).cell? (ad.add j) = some u) := Lib.hid fun j u hu => by
   have hpos : 0 < n := by
    have h1 := (List.getElem?_eq_some_iff.1 hu).1
    have h2 := h.len
    omega
   obtain ⟨b, o, e, _, hl, hc⟩ := (h.mv (Mv.alloc w (.cells #[] 75) S)).has hpos
   injection e with e
   subst e
   rw [add_flat]
   exact hc j u hu
  have hl := Lib.hid h.len
  clear h
  go_enter Tryz.func150, Tryz.ntmps150
  go_wp2_with (at_builtin; refine wpList_append_own_at _ rfl _ _ 22 rfl w.heap.size 75 i0 _ 2 40 Tryz.underlying22 hi hz0 hz1 hz2 rfl (by decide) _ 0 [] rfl (own_empty w _ _) ad n c vs rfl hl.out hcells.out hone (by unfold maxLen; omega) (by omega) (by simp) ?_)
  intro v2 w2 hO hG hnil _
  have hB2 : Below w.heap.size w w2 := ⟨hG.os, hG.tape, hG.output, Nat.le_trans (by simp) hG.size, fun k hk => (hG.block k (by simp; omega) (fun e => by simp [Value.ownBlock] at e; omega)).trans (Below.heap_alloc w _ k hk)⟩
  obtain ⟨A2, c2, rfl, _⟩ := Sl.of_own hO
  have hF := Lib.hid (show w2.ownsRow w.heap.size 75 2 (.slice A2 n c2) n vs ∧ Below w.heap.size w w2 from ⟨hO, hB2⟩)
  clear hO hG hnil hB2 hcells
  go_wp2
  go_ret
  exact ⟨A2, c2, rfl, hF.out.1, hF.out.2⟩
theorem info_clP : (Tryz.prog.info? 94).map (fun i => (i.zero, i.size, i.bytes)) = some (some (.pointer none), 1, 8) := by kernel_rfl
set_option maxRecDepth 100000 in
set_option maxHeartbeats 1000000 in
theorem cloneP_any {S : Nat → Prop} {A : Option Addr} {n c : Nat} {vs : List Value} {w : World} (h : Sl w S A n c 1 vs) (hone : ∀ u ∈ vs, u.oneCell' = true) (hn : n ≤ 1000) :
  Calls Tryz.prog 100 #[.slice A n c] w (TellV 94 1 n vs w) := by
 obtain ⟨i0, hi, hz0, hz1, hz2⟩ := info_parts info_clP
 rcases A with _ | ad
 ·obtain rfl := h.void rfl
  obtain rfl : n = 0 := by have := h.cap; omega
  obtain rfl : vs = [] := List.eq_nil_of_length_eq_zero (by have := h.len; omega)
  have q : ∀ W, (binOp .eql 89 (.slice none 0 0) (.slice none 0 0)).run Tryz.prog W = .ok (.bool true) W := fun W => Lib.run_eql_slice_nil W _ _ none 0 0 0 0 Tryz.underlying89
  go_enter Tryz.func100, Tryz.ntmps100
  go_wp2
  go_ret
  exact ⟨none, 0, rfl, World.ownsRow_nil _ _ _ _, Below.refl _ _⟩
 ·have q : ∀ W, (binOp .eql 89 (.slice (some ad) n c) (.slice none 0 0)).run Tryz.prog W = .ok (.bool false) W := fun W => Lib.run_eql_slice_nil W _ _ (some ad) n c 0 0 Tryz.underlying89
  have hcells : Hid (∀ j u, vs[j]? = some u → (w.alloc (.cells #[] 94)).cell? (ad.add j) = some u) := Lib.hid fun j u hu => by
   have hpos : 0 < n := by
    have h1 := (List.getElem?_eq_some_iff.1 hu).1
    have h2 := h.len
    omega
   obtain ⟨b, o, e, _, hl, hc⟩ := (h.mv (Mv.alloc w (.cells #[] 94) S)).has hpos
   injection e with e
   subst e
   rw [add_flat]
   exact hc j u hu
  have hl := Lib.hid h.len
  clear h
  go_enter Tryz.func100, Tryz.ntmps100
  go_wp2_with (at_builtin; refine wpList_append_own_at _ rfl _ _ 89 rfl w.heap.size 94 i0 _ 1 8 Tryz.underlying89 hi hz0 hz1 hz2 rfl (by decide) _ 0 [] rfl (own_empty w _ _) ad n c vs rfl hl.out hcells.out hone (by unfold maxLen; omega) (by omega) (by simp) ?_)
  intro v2 w2 hO hG hnil _
  have hB2 : Below w.heap.size w w2 := ⟨hG.os, hG.tape, hG.output, Nat.le_trans (by simp) hG.size, fun k hk => (hG.block k (by simp; omega) (fun e => by simp [Value.ownBlock] at e; omega)).trans (Below.heap_alloc w _ k hk)⟩
  obtain ⟨A2, c2, rfl, _⟩ := Sl.of_own hO
  have hF := Lib.hid (show w2.ownsRow w.heap.size 94 1 (.slice A2 n c2) n vs ∧ Below w.heap.size w w2 from ⟨hO, hB2⟩)
  clear hO hG hnil hB2 hcells
  go_wp2
  go_ret
  exact ⟨A2, c2, rfl, hF.out.1, hF.out.2⟩
theorem info_clQ : (Tryz.prog.info? 96).map (fun i => (i.zero, i.size, i.bytes)) = some (some (.pointer none), 1, 8) := by kernel_rfl
end Go.Proofs.YtmepdkdeanbbaaaGreat
namespace Go.Proofs.YtmepdkdeanbbaaaGreat
set_option maxRecDepth 100000
open Go.RowKit

set_option maxRecDepth 100000 in
set_option maxHeartbeats 1000000 in
theorem ownLT_any {S : Nat → Prop} {A : Option Addr} {n c : Nat} {L : List Txt} {w : World} (h : Row elText 1 w S A n c L) (hn : n ≤ 1000) (hL : ∀ x ∈ L, x.length ≤ 1000) :
  Calls Tryz.prog 89 #[.slice A n c, .func (.func 88) #[] #[]] w (Told elText 9 1 w L) := by
 obtain ⟨vs, hvs, hS⟩ := h.cell1 (G := strV) fun _ _ _ _ e => e
 have hlen := Lib.hid h.len
 have hvl : Hid (vs.length = n * 1) := Lib.hid hS.len
 have hone : ∀ u ∈ vs, u.oneCell' = true := by
  subst hvs
  intro u hu
  obtain ⟨x, _, rfl⟩ := List.mem_map.1 hu
  rfl
 have HC := Lib.hid (cloneT_any hS hone hn)
 have HR : Hid (Row elText 1 w (fun b => S b ∧ b < w.heap.size) A n c L) := Lib.hid (h.mv elText_ok (Mv.to w fun b hb hl => ⟨hb, hl⟩))
 have HS : ∀ b, (S b ∧ b < w.heap.size) → b < w.heap.size := fun b hb => hb.2
 have HL := Lib.hid hL
 have hnm := h.lenMax
 clear h hS hone hL hvs
 go_enter Tryz.func89, Tryz.ntmps89
 go_wp2_with fail
 refine HC.out.mono ?_
 rintro e w1 ⟨Ac, cc, rfl, hO, hB1⟩
 have hM := Lib.hid (OwnMix.begin (E := elText) (S := fun b => w.heap.size ≤ b) hO hlen.out)
 clear hO HC
 go_wp2_with fail
 go_loopw [12] (fun i wr => ∃ k : Nat, k ≤ n ∧ i = .int .i64 k ∧ Hid (OwnMix elText 9 1 wr w.heap.size (fun b => w.heap.size ≤ b) (.slice Ac n cc) n L vs k) ∧ Below w.heap.size w wr) (fun i _ => n - (intOf i).toNat)
 case atStart => exact ⟨0, Nat.zero_le _, rfl, hM, hB1⟩
 case round =>
  obtain ⟨k, hk, rfl, hO, hB⟩ := hrel
  by_cases hlt : k < n
  ·obtain ⟨b, o, us, x, rfl, _, _, _, hcell, hx, he⟩ := (HR.out.mv elText_ok (Mv.below hB HS)).at_ hlt
   have hx : us = [strV x] := hx
   subst hx
   have g0 : wr.cell? ⟨b, o + k, none⟩ = some (.string ⟨x.toArray⟩) := by
    have := hcell 0 _ rfl
    rwa [Nat.mul_one, Nat.add_zero] at this
   obtain ⟨g, cg, eg⟩ := hO.out.form (by omega)
   injection eg with eg1 eg2 eg3
   subst eg1 eg3
   have i0 : (0 : Int) ≤ (k : Int) := by omega
   have i1 : (k : Int) < (n : Int) := by omega
   have HX := Lib.hid (cloneS_any ⟨x.toArray⟩ wr (by
    have := HL.out x (List.mem_of_getElem? he.out)
    show x.toArray.size ≤ _
    simp; omega))
   clear hcell
   go_wp2_with fail
   refine HX.out.mono ?_
   rintro e w5 ⟨rfl, hb5⟩
   have hO5 := hO.out.below elText_ok hb5
   obtain ⟨y, hy⟩ : ∃ y, vs[k]? = some y := ⟨_, List.getElem?_eq_getElem (by rw [hvl.out]; omega)⟩
   have c0 : w5.cell? ⟨g, k, none⟩ = some y := (hO5.old (j := k) (by omega) (by omega)).trans hy
   have f0 := hO5.free k
   have hgl := (hO5.lt g rfl).1
   have hF := Lib.hid (show OwnMix elText 9 1 (w5.setCell ⟨g, k, none⟩ (.string ⟨x.toArray⟩)) w.heap.size (fun b => w.heap.size ≤ b) (.slice (some ⟨g, 0, none⟩) n cc) n L vs (k + 1) ∧ Below w.heap.size w (w5.setCell ⟨g, k, none⟩ (.string ⟨x.toArray⟩)) from ⟨hO5.set1 elText_ok (by rw [hvl.out, Nat.mul_one]) he.out rfl, (hB.trans (hb5.mono hB.size)).setCell (p := ⟨g, k, none⟩) hgl _⟩)
   clear hO5 hO hB hb5 HX hy
   go_wp2_with fail
   go_roundw
   case rel => exact ⟨k + 1, by omega, by go_num, Lib.hid hF.out.1, hF.out.2⟩
   case measure => simp [intOf]; omega
  ·have hF := Lib.hid (show OwnR elText 9 1 wr w.heap.size (fun b => w.heap.size ≤ b) (.slice Ac n cc) L ∧ Below w.heap.size w wr from ⟨hO.out.end_ (by omega) hvl.out, hB⟩)
   clear hO hB
   go_wp2_with fail
   go_ret
   exact ⟨_, rfl, hF.out.1, hF.out.2⟩
theorem list_cells {w : World} {S : Nat → Prop} {A : Option Addr} {n c : Nat} {L : List (List Int)} (h : Row (elRow elInt 1) 1 w S A n c L) : ∃ vs, Sl w S A n c 1 vs ∧ ∀ u ∈ vs, u.oneCell' = true := by
 obtain ⟨h0, vs, h1, h2⟩ := h
 refine ⟨vs, h1, fun u hu => ?_⟩
 obtain ⟨i, hi⟩ := List.getElem?_of_mem hu
 have hil := (List.getElem?_eq_some_iff.1 hi).1
 have hlen := h1.len
 obtain ⟨A', n', c', e, _⟩ := h2 i _ (List.getElem?_eq_getElem (by omega))
 have e2 := congrArg (fun l => l[0]?) e
 simp only [Nat.mul_one, List.getElem?_take, List.getElem?_drop, Nat.lt_one_iff, if_true, Nat.add_zero, List.getElem?_cons_zero] at e2
 rw [hi] at e2
 injection e2 with e2
 rw [e2]
 rfl
set_option maxRecDepth 100000 in
set_option maxHeartbeats 1000000 in
theorem ownLI_any {S : Nat → Prop} {A : Option Addr} {n c : Nat} {L : List (List Int)} {w : World} (h : Row (elRow elInt 1) 1 w S A n c L) (hn : n ≤ 1000) (hL : ∀ x ∈ L, x.length ≤ 1000) :
  Calls Tryz.prog 90 #[.slice A n c, .func (.func 91) #[] #[]] w (Told (elOwn elInt 3 1) 47 1 w L) := by
 obtain ⟨vs, hS, hone⟩ := list_cells h
 have hlen := Lib.hid h.len
 have hvl : Hid (vs.length = n * 1) := Lib.hid hS.len
 have HC := Lib.hid (cloneL_any hS hone hn)
 have HR : Hid (Row (elRow elInt 1) 1 w (fun b => S b ∧ b < w.heap.size) A n c L) := Lib.hid (h.mv (elRow_ok elInt_ok) (Mv.to w fun b hb hl => ⟨hb, hl⟩))
 have HS : ∀ b, (S b ∧ b < w.heap.size) → b < w.heap.size := fun b hb => hb.2
 have HL := Lib.hid hL
 have hnm := h.lenMax
 clear h hS hone hL
 go_enter Tryz.func90, Tryz.ntmps90
 go_wp2_with fail
 refine HC.out.mono ?_
 rintro e w1 ⟨Ac, cc, rfl, hO, hB1⟩
 have hM := Lib.hid (OwnMix.begin (E := elOwn elInt 3 1) (S := fun b => w.heap.size ≤ b) hO hlen.out)
 clear hO HC
 go_wp2_with fail
 go_loopw [12] (fun i wr => ∃ k : Nat, k ≤ n ∧ i = .int .i64 k ∧ Hid (OwnMix (elOwn elInt 3 1) 47 1 wr w.heap.size (fun b => w.heap.size ≤ b) (.slice Ac n cc) n L vs k) ∧ Below w.heap.size w wr) (fun i _ => n - (intOf i).toNat)
 case atStart => exact ⟨0, Nat.zero_le _, rfl, hM, hB1⟩
 case round =>
  obtain ⟨k, hk, rfl, hO, hB⟩ := hrel
  by_cases hlt : k < n
  ·obtain ⟨b, o, A', n', c', x, rfl, _, _, g0, hl, he⟩ := (HR.out.mv (elRow_ok elInt_ok) (Mv.below hB HS)).at1 hlt
   obtain ⟨g, cg, eg⟩ := hO.out.form (by omega)
   injection eg with eg1 eg2 eg3
   subst eg1 eg3
   have i0 : (0 : Int) ≤ (k : Int) := by omega
   have i1 : (k : Int) < (n : Int) := by omega
   have HX := Lib.hid (cloneI_any hl.hasI (by
    have := HL.out x (List.mem_of_getElem? he.out)
    have := hl.len
    omega))
   clear hl
   go_wp2_with fail
   refine HX.out.mono ?_
   rintro e w5 ⟨⟨v, rfl, hv⟩, hb5⟩
   have hO5 := hO.out.below (elOwn_ok elInt_ok) hb5
   have hlo := hO.out.lt
   have hz := hB.size
   have hE := OwnR.el elInt_ok (hv.ownR (S := fun k => wr.heap.size ≤ k)) (u := .slice (some ⟨g, 0, none⟩) n cc) (fun k e => (hlo k e).2) hz
   obtain ⟨Av, cv, rfl, _⟩ := hv.form
   obtain ⟨y, hy⟩ : ∃ y, vs[k]? = some y := ⟨_, List.getElem?_eq_getElem (by rw [hvl.out]; omega)⟩
   have c0 : w5.cell? ⟨g, k, none⟩ = some y := (hO5.old (j := k) (by omega) (by omega)).trans hy
   have f0 := hO5.free k
   have hgl := (hO5.lt g rfl).1
   have hF := Lib.hid (show OwnMix (elOwn elInt 3 1) 47 1 (w5.setCell ⟨g, k, none⟩ (.slice Av x.length cv)) w.heap.size (fun b => w.heap.size ≤ b) (.slice (some ⟨g, 0, none⟩) n cc) n L vs (k + 1) ∧ Below w.heap.size w (w5.setCell ⟨g, k, none⟩ (.slice Av x.length cv)) from ⟨hO5.set1 (elOwn_ok elInt_ok) (by rw [hvl.out, Nat.mul_one]) he.out hE, (hB.trans (hb5.mono hB.size)).setCell (p := ⟨g, k, none⟩) hgl _⟩)
   clear hO5 hO hB hb5 HX hy hv hE hlo
   go_wp2_with fail
   go_roundw
   case rel => exact ⟨k + 1, by omega, by go_num, Lib.hid hF.out.1, hF.out.2⟩
   case measure => simp [intOf]; omega
  ·have hF := Lib.hid (show OwnR (elOwn elInt 3 1) 47 1 wr w.heap.size (fun b => w.heap.size ≤ b) (.slice Ac n cc) L ∧ Below w.heap.size w wr from ⟨hO.out.end_ (by omega) hvl.out, hB⟩)
   clear hO hB
   go_wp2_with fail
   go_ret
   exact ⟨_, rfl, hF.out.1, hF.out.2⟩
end Go.Proofs.YtmepdkdeanbbaaaGreat
namespace Go.Proofs.YtmepdkdeanbbaaaGreat
set_option maxRecDepth 100000
open Go.RowKit

abbrev elDimO : ElT PDim := elPair elText 1 (elOwn elText 9 1)
theorem elDimO_ok : elDimO.Ok := elPair_ok elText_ok (elOwn_ok elText_ok)
theorem elDimO_read {w : World} {S : Nat → Prop} {us : List Value} {d : PDim} (h : elDimO w S us d) : elDim w S us d := ⟨h.1, elOwn_row elText_ok (fun _ _ h => h) h.2⟩
theorem dim_cells {w : World} {S : Nat → Prop} {A : Option Addr} {n c : Nat} {L : List PDim} (h : Row elDim 2 w S A n c L) : ∃ vs, Sl w S A n c 2 vs ∧ ∀ u ∈ vs, u.oneCell' = true := by
 obtain ⟨h0, vs, h1, h2⟩ := h
 refine ⟨vs, h1, fun u hu => ?_⟩
 obtain ⟨i, hi⟩ := List.getElem?_of_mem hu
 have hil := (List.getElem?_eq_some_iff.1 hi).1
 have hlen := h1.len
 obtain ⟨h3, A', n', c', h4, _⟩ := h2 (i / 2) _ (List.getElem?_eq_getElem (by omega))
 have e3 : ((vs.drop (i / 2 * 2)).take 2).take 1 = [strV _] := h3
 have e1 := congrArg (fun l => l[0]?) e3
 have e2 := congrArg (fun l => l[0]?) h4
 simp at e1 e2
 rcases Nat.mod_two_eq_zero_or_one i with h | h
 ·have : i / 2 * 2 = i := by omega
  rw [this, hi] at e1
  injection e1 with e1
  rw [e1]; rfl
 ·have : i / 2 * 2 + 1 = i := by omega
  rw [this, hi] at e2
  injection e2 with e2
  rw [e2]; rfl
theorem info_dimS : (Tryz.prog.info? 75).map (·.size) = some 2 := by kernel_rfl
def TellDim (w : World) (d : PDim) (e : Ending) (w' : World) : Prop :=
 ∃ A n c, e = .returned (.agg #[.string ⟨d.1.toArray⟩, .slice A n c]) ∧ elDimO w' (fun k => w.heap.size ≤ k) [.string ⟨d.1.toArray⟩, .slice A n c] d ∧ Below w.heap.size w w'
set_option maxRecDepth 100000 in
set_option maxHeartbeats 2000000 in
theorem copiedC_any {S : Nat → Prop} {A : Option Addr} {n c : Nat} {x : Txt} {L : List Txt} {w : World} (h : Row elText 1 w S A n c L) (hn : n ≤ 1000) (hx : x.length ≤ 1000) (hL : ∀ s ∈ L, s.length ≤ 1000) :
  Calls Tryz.prog 87 #[.agg #[.string ⟨x.toArray⟩, .slice A n c]] w (TellDim w (x, L)) := by
 have hb0 := (below_a1 w (.cells #[.string ⟨x.toArray⟩, .slice A n c] 75))
 have hb1 := below_then hb0 (below_a1 (w.alloc (.cells #[.string ⟨x.toArray⟩, .slice A n c] 75)) (.cells #[.string ⟨#[]⟩, .slice none 0 0] 75))
 have hbl := (Block.new w 75 #[.string ⟨x.toArray⟩, .slice A n c]).alloc (.cells #[.string ⟨#[]⟩, .slice none 0 0] 75)
 have hbr := Block.new (w.alloc (.cells #[.string ⟨x.toArray⟩, .slice A n c] 75)) 75 #[.string ⟨#[]⟩, .slice none 0 0]
 have hq1 := Lib.hid (h.mv elText_ok (Mv.belowS hb1 S))
 have hsz : (w.alloc (.cells #[.string ⟨x.toArray⟩, .slice A n c] 75)).heap.size = w.heap.size + 1 := by simp
 have HN := Lib.hid hn
 have HL := Lib.hid hL
 have HXl : Hid ((⟨x.toArray⟩ : ByteArray).size ≤ 281474976710656) := Lib.hid (by show x.toArray.size ≤ _; simp; omega)
 clear h hb0 hn hL
 go_enter Tryz.func87, Tryz.ntmps87
 go_wp2_with fail
 rw [hsz] at hbr
 generalize (w.alloc (.cells #[.string ⟨x.toArray⟩, .slice A n c] 75)).alloc (.cells #[.string ⟨#[]⟩, .slice none 0 0] 75) = W at hb1 hbl hbr hq1 ⊢
 clear hsz
 have K : Hid (∀ y, Below W.heap.size W y → y.cell? ⟨w.heap.size, 0, none⟩ = some (.string ⟨x.toArray⟩) ∧ y.cell? ⟨w.heap.size, 1, none⟩ = some (.slice A n c)) := Lib.hid fun y hy => ⟨(hbl.below hy hbl.lt).cell 0, (hbl.below hy hbl.lt).cell 1⟩
 have k0 : W.cell? ⟨w.heap.size, 0, none⟩ = some (.string ⟨x.toArray⟩) := hbl.cell 0
 have k1 : W.cell? ⟨w.heap.size, 1, none⟩ = some (.slice A n c) := hbl.cell 1
 have HbR := Lib.hid hbr
 have HR := Lib.hid (fun y (hy : Below W.heap.size W y) => hbr.below hy hbr.lt)
 have HW := Lib.hid hb1.size
 have HC := Lib.hid (cloneS_any ⟨x.toArray⟩ W.drew HXl.out)
 clear hbl hbr
 go_region_held3 (fun w' => w'.cell? ⟨w.heap.size, 0, none⟩ = some (.string ⟨x.toArray⟩) ∧ w'.cell? ⟨w.heap.size, 1, none⟩ = some (.slice A n c))
  (first
   | go_keep
   | exact K.out _ hBB2
   | exact K.out _ hBB1)
  (first
   | (go_at_call 88; refine HC.out.mono ?_; rintro e w1 ⟨rfl, hB1⟩; have hBB1 : Below W.heap.size W w1 := ((below_drewN (Below.refl _ W) 1).trans hB1))
   | (go_at_call 89; refine (ownLT_any (hq1.out.mv elText_ok (Mv.belowS hBB1 S)) HN.out HL.out).mono ?_; rintro e w2 ⟨v2, rfl, hO2, hB2⟩; obtain ⟨B2, d2, rfl⟩ := hO2.shape; have hBB2 := hBB1.trans (hB2.mono hBB1.size); have hr2 := HR.out _ hBB2; have d0 : w2.cell? ⟨w.heap.size + 1, 0, none⟩ = some (.string ⟨#[]⟩) := hr2.cell 0; have d1' : w2.cell? ⟨w.heap.size + 1, 1, none⟩ = some (.slice none 0 0) := hr2.cell 1; have f0 := hr2.free 0; have f1 := hr2.free 1))
 have hr2' := HR.out _ hBB2
 have hlt := HbR.out.lt
 have hns : ¬ W.heap.size ≤ w.heap.size + 1 := by omega
 have e2 : elOwn elText 9 1 w2 (fun k => W.heap.size ≤ k) [.slice B2 L.length d2] L := elOwn_ok elText_ok _ _ _ _ _ _ (Mv.to w2 fun b hb _ => Nat.le_trans hBB1.size hb) (⟨_, rfl, hO2.low (Nat.zero_le _), fun k hk => (hO2.lt k hk).1⟩)
 have m2 := Mv.trans (Mv.set w2 (w.heap.size + 1) 0 (.string ⟨x.toArray⟩) hns) (Mv.set (w2.setCell ⟨w.heap.size + 1, 0, none⟩ (.string ⟨x.toArray⟩)) (w.heap.size + 1) 1 (.slice B2 L.length d2) hns)
 have m3 := Mv.trans m2 (Mv.to _ (S' := fun k => w.heap.size ≤ k) fun b hb _ => Nat.le_trans HW.out hb)
 have hF := Lib.hid (show elDimO ((w2.setCell ⟨w.heap.size + 1, 0, none⟩ (.string ⟨x.toArray⟩)).setCell ⟨w.heap.size + 1, 1, none⟩ (.slice B2 L.length d2)) (fun k => w.heap.size ≤ k) [.string ⟨x.toArray⟩, .slice B2 L.length d2] (x, L) from ⟨rfl, elOwn_ok elText_ok _ _ _ _ _ _ m3 e2⟩)
 have hG := Lib.hid (((hb1.trans (hBB2.mono hb1.size)).setCell (p := ⟨w.heap.size + 1, 0, none⟩) (Nat.le_succ _) (.string ⟨x.toArray⟩)).setCell (p := ⟨w.heap.size + 1, 1, none⟩) (Nat.le_succ _) (.slice B2 L.length d2))
 have hR := Lib.hid ((hr2'.set_ 0 (.string ⟨x.toArray⟩)).set_ 1 (.slice B2 L.length d2))
 clear e2 m2 m3 hO2 hB1 hB2 hBB1 hBB2 hr2 hr2' d0 d1' f0 f1 K HR HbR hb1 k0 k1
 go_wp2_with fail
 refine bodyPost_ret (results_block1 rfl _ _ (w.heap.size + 1) _ _ rfl hR.out Tryz.underlying75 rfl info_dimS) rfl ?_
 exact ⟨B2, _, d2, rfl, hF.out, hG.out⟩
end Go.Proofs.YtmepdkdeanbbaaaGreat
namespace Go.Proofs.YtmepdkdeanbbaaaGreat
set_option maxRecDepth 100000
open Go.RowKit

theorem dim_two (w : World) (x y : Value) : Block (w.alloc (.cells #[x, y] 75)) w.heap.size 75 #[x, y] := Block.new w _ _
def SmallD (d : PDim) : Prop := d.1.length ≤ 1000 ∧ d.2.length ≤ 1000 ∧ ∀ s ∈ d.2, s.length ≤ 1000
theorem Row.atD {w : World} {S : Nat → Prop} {A : Option Addr} {n c : Nat} {L : List PDim} (h : Row elDim 2 w S A n c L) {k : Nat} (hk : k < n) : ∃ b o A' n' c' x l, A = some ⟨b, o, none⟩ ∧ w.cell? ⟨b, o + k * 2, none⟩ = some (.string ⟨x.toArray⟩) ∧ w.cell? ⟨b, o + k * 2 + 1, none⟩ = some (.slice A' n' c') ∧ Row elText 1 w S A' n' c' l ∧ Hid (L[k]? = some (x, l)) := by
 obtain ⟨b, o, us, d, e, _, _, h4, hc, ⟨h5, A', n', c', h6, hr⟩, he⟩ := h.at_ hk
 match us, h4 with
 | [u0, u1], _ =>
  simp only [List.take_succ_cons, List.take_zero, List.drop_succ_cons, List.drop_zero, elText, List.cons.injEq, and_true] at h5 h6
  subst h5 h6
  exact ⟨b, o, A', n', c', d.1, d.2, e, hc 0 _ rfl, hc 1 _ rfl, hr, he⟩
set_option maxRecDepth 100000 in
set_option maxHeartbeats 2000000 in
theorem ownLD_any {S : Nat → Prop} {A : Option Addr} {n c : Nat} {L : List PDim} {w : World} (h : Row elDim 2 w S A n c L) (hn : n ≤ 1000) (hL : ∀ d ∈ L, SmallD d) :
  Calls Tryz.prog 86 #[.slice A n c, .func (.func 87) #[] #[]] w (Told elDimO 75 2 w L) := by
 obtain ⟨vs, hS, hone⟩ := dim_cells h
 have hlen := Lib.hid h.len
 have hvl : Hid (vs.length = n * 2) := Lib.hid hS.len
 have HC := Lib.hid (cloneD_any hS hone hn)
 have HR : Hid (Row elDim 2 w (fun b => S b ∧ b < w.heap.size) A n c L) := Lib.hid (h.mv elDim_ok (Mv.to w fun b hb hl => ⟨hb, hl⟩))
 have HS : ∀ b, (S b ∧ b < w.heap.size) → b < w.heap.size := fun b hb => hb.2
 have HL := Lib.hid hL
 have hnm := h.lenMax
 clear h hS hone hL
 go_enter Tryz.func86, Tryz.ntmps86
 go_wp2_with fail
 refine HC.out.mono ?_
 rintro e w1 ⟨Ac, cc, rfl, hO, hB1⟩
 have hM := Lib.hid (OwnMix.begin (E := elDimO) (S := fun b => w.heap.size ≤ b) hO hlen.out)
 clear hO HC
 go_wp2_with fail
 go_loopw [12] (fun i wr => ∃ k : Nat, k ≤ n ∧ i = .int .i64 k ∧ Hid (OwnMix elDimO 75 2 wr w.heap.size (fun b => w.heap.size ≤ b) (.slice Ac n cc) n L vs k) ∧ Below w.heap.size w wr) (fun i _ => n - (intOf i).toNat)
 case atStart => exact ⟨0, Nat.zero_le _, rfl, hM, hB1⟩
 case round =>
  obtain ⟨k, hk, rfl, hO, hB⟩ := hrel
  by_cases hlt : k < n
  ·obtain ⟨b, o, A', n', c', x, l, rfl, g0, g1, hl, he⟩ := (HR.out.mv elDim_ok (Mv.below hB HS)).atD hlt
   obtain ⟨g, cg, eg⟩ := hO.out.form (by omega)
   injection eg with eg1 eg2 eg3
   subst eg1 eg3
   have i0 : (0 : Int) ≤ (k : Int) := by omega
   have i1 : (k : Int) < (n : Int) := by omega
   obtain ⟨s1, s2, s3⟩ := HL.out (x, l) (List.mem_of_getElem? he.out)
   have hb0 := below_a1 wr (.cells #[.string ⟨x.toArray⟩, .slice A' n' c'] 75)
   have hbl := dim_two wr (.string ⟨x.toArray⟩) (.slice A' n' c')
   have HX := Lib.hid (copiedC_any (hl.mv elText_ok (Mv.belowS hb0 _)) (by have := hl.len; have : l.length ≤ 1000 := s2; omega) s1 s3)
   have hO0 := Lib.hid (hO.out.below elDimO_ok hb0)
   have hB0 := hB.trans (hb0.mono hB.size)
   have d0 := hbl.cell 0
   have d1 := hbl.cell 1
   have hlo := hO.out.lt
   have hz := hB.size
   clear hl s1 s2 s3 hO hB
   go_wp2_with fail
   generalize wr.alloc (.cells #[.string ⟨x.toArray⟩, .slice A' n' c'] 75) = W at hb0 hbl HX hO0 hB0 d0 d1 ⊢
   go_wp2_with fail
   refine HX.out.mono ?_
   rintro e w5 ⟨Av, nv, cv, rfl, hv, hb5⟩
   have hO5 := hO0.out.below elDimO_ok hb5
   have hE : elDimO w5 (fun b => w.heap.size ≤ b ∧ (Value.slice (some ⟨g, 0, none⟩) n cc).ownBlock ≠ some b) [.string ⟨x.toArray⟩, .slice Av nv cv] (x, l) := elDimO_ok _ _ _ _ _ _ (Mv.to w5 fun b hb _ => ⟨Nat.le_trans hB0.size hb, fun e => by have := (hlo b e).2; have := hb0.size; omega⟩) hv
   obtain ⟨y, hy⟩ : ∃ y, vs[k * 2]? = some y := ⟨_, List.getElem?_eq_getElem (by rw [hvl.out]; omega)⟩
   obtain ⟨y', hy'⟩ : ∃ y, vs[k * 2 + 1]? = some y := ⟨_, List.getElem?_eq_getElem (by rw [hvl.out]; omega)⟩
   have c0 : w5.cell? ⟨g, k * 2, none⟩ = some y := (hO5.old (j := k * 2) (by omega) (by omega)).trans hy
   have c1 : w5.cell? ⟨g, k * 2 + 1, none⟩ = some y' := (hO5.old (j := k * 2 + 1) (by omega) (by omega)).trans hy'
   have f0 := hO5.free (k * 2)
   have f1 := hO5.free (k * 2 + 1)
   have hgl := (hO5.lt g rfl).1
   have hF := Lib.hid (show OwnMix elDimO 75 2 ((w5.setCell ⟨g, k * 2, none⟩ (.string ⟨x.toArray⟩)).setCell ⟨g, k * 2 + 1, none⟩ (.slice Av nv cv)) w.heap.size (fun b => w.heap.size ≤ b) (.slice (some ⟨g, 0, none⟩) n cc) n L vs (k + 1) ∧ Below w.heap.size w ((w5.setCell ⟨g, k * 2, none⟩ (.string ⟨x.toArray⟩)).setCell ⟨g, k * 2 + 1, none⟩ (.slice Av nv cv)) from ⟨hO5.set2 elDimO_ok hvl.out he.out hE, ((hB0.trans (hb5.mono hB0.size)).setCell (p := ⟨g, k * 2, none⟩) hgl _).setCell (p := ⟨g, k * 2 + 1, none⟩) hgl _⟩)
   clear hO5 hO0 hB0 hb5 HX hy hy' hv hE hlo hb0 hbl
   go_wp2_with fail
   go_roundw
   case rel => exact ⟨k + 1, by omega, by go_num, Lib.hid hF.out.1, hF.out.2⟩
   case measure => simp [intOf]; omega
  ·have hF := Lib.hid (show OwnR elDimO 75 2 wr w.heap.size (fun b => w.heap.size ≤ b) (.slice Ac n cc) L ∧ Below w.heap.size w wr from ⟨hO.out.end_ (by omega) hvl.out, hB⟩)
   clear hO hB
   go_wp2_with fail
   go_ret
   exact ⟨_, rfl, hF.out.1, hF.out.2⟩
/-! ### a schema's copy -/
structure SmallS (D : List PDim) (M : List Txt) (V : List (List Int)) : Prop where
 d : D.length ≤ 1000 ∧ ∀ d ∈ D, SmallD d
 m : M.length ≤ 1000 ∧ ∀ s ∈ M, s.length ≤ 1000
 v : V.length ≤ 1000 ∧ ∀ v ∈ V, v.length ≤ 1000
theorem mayS_small {D : List PDim} {M : List Txt} {V : List (List Int)} (h : mayS D M V) : SmallS D M V := by
 obtain ⟨⟨h1, h2⟩, h3, h4⟩ := h
 have nm : ∀ s : Txt, nameP s → s.length ≤ 1000 := fun s hs => by have := hs.2.1; omega
 refine ⟨⟨?_, fun d hd => ⟨?_, ?_, fun s hs => nm s ((h1 d hd).2.2.1 s hs)⟩⟩, ⟨?_, fun s hs => nm s (h3.2.2.1 s hs)⟩, ?_, fun v hv => ?_⟩
 ·have := h2.2.1; rw [List.length_map] at this; omega
 ·exact nm _ (h2.2.2.1 _ (List.mem_map.2 ⟨d, hd, rfl⟩))
 ·have := (h1 d hd).2.1; omega
 ·have := h3.2.1; omega
 ·have := h4.1; omega
 ·have h5 := (h4.2.1 v hv).1
  have h6 := h2.2.1
  rw [List.length_map] at h6
  omega
structure OwnSc (w : World) (B : Nat) (v1 v2 v3 : Value) (D : List PDim) (M : List Txt) (V : List (List Int)) : Prop where
 d : OwnR elDimO 75 2 w B (fun k => B ≤ k) v1 D
 m : OwnR elText 9 1 w B (fun k => B ≤ k) v2 M
 v : OwnR (elOwn elInt 3 1) 47 1 w B (fun k => B ≤ k) v3 V
theorem Row.imp {α : Type} {E E' : ElT α} {sz : Nat} {w : World} {S : Nat → Prop} {A : Option Addr} {n c : Nat} {L : List α} (h : Row E sz w S A n c L) (hE : ∀ us x, E w S us x → E' w S us x) : Row E' sz w S A n c L := h.map hE
theorem OwnSc.read {w : World} {B : Nat} {v1 v2 v3 : Value} {D : List PDim} {M : List Txt} {V : List (List Int)} (h : OwnSc w B v1 v2 v3 D M V) : ∃ A1 c1 A2 c2 A3 c3, v1 = .slice A1 D.length c1 ∧ v2 = .slice A2 M.length c2 ∧ v3 = .slice A3 V.length c3 ∧ SchR w (fun k => B ≤ k ∧ k < w.heap.size) A1 D.length c1 A2 M.length c2 A3 V.length c3 D M V := by
 obtain ⟨A1, c1, rfl, h1⟩ := h.d.read elDimO_ok
 obtain ⟨A2, c2, rfl, h2⟩ := h.m.read elText_ok
 obtain ⟨A3, c3, rfl, h3⟩ := h.v.read (elOwn_ok elInt_ok)
 have up : ∀ {v : Value}, Mv w (fun k => (B ≤ k) ∨ (B ≤ k ∧ v.ownBlock = some k)) w (fun k => B ≤ k ∧ k < w.heap.size) := fun {v} => Mv.to w fun b hb hl => ⟨by rcases hb with hb | hb; exact hb; exact hb.1, hl⟩
 exact ⟨A1, c1, A2, c2, A3, c3, rfl, rfl, rfl, (h1.mv elDimO_ok up).imp fun _ _ h => elDimO_read h, h2.mv elText_ok up, (h3.mv (elOwn_ok elInt_ok) up).imp fun _ _ h => elOwn_row elInt_ok (fun _ _ h => h) h⟩
theorem info_scS : (Tryz.prog.info? 26).map (·.size) = some 3 := by kernel_rfl
def TellSc (w : World) (D : List PDim) (M : List Txt) (V : List (List Int)) (e : Ending) (w' : World) : Prop := (∃ v1 v2 v3, e = .returned (.agg #[v1, v2, v3]) ∧ OwnSc w' w.heap.size v1 v2 v3 D M V) ∧ Below w.heap.size w w'
set_option maxRecDepth 100000 in
set_option maxHeartbeats 2000000 in
theorem copied_any {R : Nat → Prop} {A1 A2 A3 : Option Addr} {n1 c1 n2 c2 n3 c3 : Nat} {D : List PDim} {M : List Txt} {V : List (List Int)} {w : World} (h : SchR w R A1 n1 c1 A2 n2 c2 A3 n3 c3 D M V) (hs : SmallS D M V) :
  Calls Tryz.prog 41 #[schV A1 n1 c1 A2 n2 c2 A3 n3 c3] w (TellSc w D M V) := by
 have hb0 := (below_a1 w (.cells #[.slice A1 n1 c1, .slice A2 n2 c2, .slice A3 n3 c3] 26))
 have hb1 := below_then hb0 (below_a1 (w.alloc (.cells #[.slice A1 n1 c1, .slice A2 n2 c2, .slice A3 n3 c3] 26)) (.cells #[.slice none 0 0, .slice none 0 0, .slice none 0 0] 26))
 have hbl := (Block.new w 26 #[.slice A1 n1 c1, .slice A2 n2 c2, .slice A3 n3 c3]).alloc (.cells #[.slice none 0 0, .slice none 0 0, .slice none 0 0] 26)
 have hbr := Block.new (w.alloc (.cells #[.slice A1 n1 c1, .slice A2 n2 c2, .slice A3 n3 c3] 26)) 26 #[.slice none 0 0, .slice none 0 0, .slice none 0 0]
 have hq1 := Lib.hid (h.belowS hb1)
 have hsz : (w.alloc (.cells #[.slice A1 n1 c1, .slice A2 n2 c2, .slice A3 n3 c3] 26)).heap.size = w.heap.size + 1 := by simp
 have HS := Lib.hid hs
 have l1 := h.d.len
 have l2 := h.m.len
 have l3 := h.v.len
 have Hl1 : Hid (n1 ≤ 1000 ∧ n2 ≤ 1000 ∧ n3 ≤ 1000) := Lib.hid (by have := hs.d.1; have := hs.m.1; have := hs.v.1; omega)
 clear h hb0 hs l1 l2 l3
 go_enter Tryz.func41, Tryz.ntmps41
 go_wp2_with fail
 rw [hsz] at hbr
 generalize (w.alloc (.cells #[.slice A1 n1 c1, .slice A2 n2 c2, .slice A3 n3 c3] 26)).alloc (.cells #[.slice none 0 0, .slice none 0 0, .slice none 0 0] 26) = W at hb1 hbl hbr hq1 ⊢
 clear hsz
 have K : Hid (∀ y, Below W.heap.size W y → y.cell? ⟨w.heap.size, 0, none⟩ = some (.slice A1 n1 c1) ∧ y.cell? ⟨w.heap.size, 1, none⟩ = some (.slice A2 n2 c2) ∧ y.cell? ⟨w.heap.size, 2, none⟩ = some (.slice A3 n3 c3)) := Lib.hid fun y hy => ⟨(hbl.below hy hbl.lt).cell 0, (hbl.below hy hbl.lt).cell 1, (hbl.below hy hbl.lt).cell 2⟩
 have k0 : W.cell? ⟨w.heap.size, 0, none⟩ = some (.slice A1 n1 c1) := hbl.cell 0
 have k1 : W.cell? ⟨w.heap.size, 1, none⟩ = some (.slice A2 n2 c2) := hbl.cell 1
 have k2 : W.cell? ⟨w.heap.size, 2, none⟩ = some (.slice A3 n3 c3) := hbl.cell 2
 have HbR := Lib.hid hbr
 have HR := Lib.hid (fun y (hy : Below W.heap.size W y) => hbr.below hy hbr.lt)
 have HW := Lib.hid hb1.size
 have HC := Lib.hid (ownLD_any (hq1.out.d.mv elDim_ok (Mv.drewN W 1 R)) Hl1.out.1 HS.out.d.2)
 clear hbl hbr
 go_region_held3 (fun w' => w'.cell? ⟨w.heap.size, 0, none⟩ = some (.slice A1 n1 c1) ∧ w'.cell? ⟨w.heap.size, 1, none⟩ = some (.slice A2 n2 c2) ∧ w'.cell? ⟨w.heap.size, 2, none⟩ = some (.slice A3 n3 c3))
  (first
   | go_keep
   | exact K.out _ hBB3
   | exact K.out _ hBB2
   | exact K.out _ hBB1)
  (first
   | (go_at_call 86; refine HC.out.mono ?_; rintro e w1 ⟨v1, rfl, hO1, hB1⟩; obtain ⟨B1, d1, rfl⟩ := hO1.shape; have hBB1 : Below W.heap.size W w1 := ((below_drewN (Below.refl _ W) 1).trans hB1))
   | (go_at_call 89; refine (ownLT_any (hq1.out.m.mv elText_ok (Mv.belowS hBB1 R)) Hl1.out.2.1 HS.out.m.2).mono ?_; rintro e w2 ⟨v2, rfl, hO2, hB2⟩; obtain ⟨B2, d2, rfl⟩ := hO2.shape; have hBB2 := hBB1.trans (hB2.mono hBB1.size))
   | (go_at_call 90; refine (ownLI_any (hq1.out.v.mv (elRow_ok elInt_ok) (Mv.belowS hBB2 R)) Hl1.out.2.2 HS.out.v.2).mono ?_; rintro e w3 ⟨v3, rfl, hO3, hB3⟩; obtain ⟨B3, d3, rfl⟩ := hO3.shape; have hBB3 := hBB2.trans (hB3.mono hBB2.size); have hr3 := HR.out _ hBB3; have e0 : w3.cell? ⟨w.heap.size + 1, 0, none⟩ = some (.slice none 0 0) := hr3.cell 0; have e1' : w3.cell? ⟨w.heap.size + 1, 1, none⟩ = some (.slice none 0 0) := hr3.cell 1; have e2' : w3.cell? ⟨w.heap.size + 1, 2, none⟩ = some (.slice none 0 0) := hr3.cell 2; have f0 := hr3.free 0; have f1 := hr3.free 1; have f2 := hr3.free 2))
 have hr3' := HR.out _ hBB3
 have hlt := HbR.out.lt
 have hns : ¬ W.heap.size ≤ w.heap.size + 1 := by omega
 have q1 : OwnR elDimO 75 2 w3 W.heap.size (fun k => W.heap.size ≤ k) (.slice B1 D.length d1) D := OwnR.below elDimO_ok (OwnR.below elDimO_ok (show OwnR elDimO 75 2 w1 W.heap.size (fun k => W.heap.size ≤ k) (.slice B1 D.length d1) D from hO1) hB2) hB3
 have q2 : OwnR elText 9 1 w3 W.heap.size (fun k => W.heap.size ≤ k) (.slice B2 M.length d2) M := ((hO2.low hBB1.size).to elText_ok fun b hb _ => Nat.le_trans hBB1.size hb).below elText_ok hB3
 have q3 : OwnR (elOwn elInt 3 1) 47 1 w3 W.heap.size (fun k => W.heap.size ≤ k) (.slice B3 V.length d3) V := (hO3.low hBB2.size).to (elOwn_ok elInt_ok) fun b hb _ => Nat.le_trans hBB2.size hb
 have st : ∀ {α : Type} {E : ElT α} {T : TypeId} {sz : Nat} {v : Value} {L : List α} {y : World} (i : Nat) (u : Value), E.Ok → OwnR E T sz y W.heap.size (fun k => W.heap.size ≤ k) v L → OwnR E T sz (y.setCell ⟨w.heap.size + 1, i, none⟩ u) W.heap.size (fun k => W.heap.size ≤ k) v L := fun {α} {E} {T} {sz} {v} {L} {y} i u hE hO => hO.mv hE (fun b hb hl => ⟨Below.heap_setCell _ _ _ _ (by
  show b ≠ w.heap.size + 1
  rcases hb with hb | hb
  ·omega
  ·have := (hO.lt b hb).1; omega), trivial⟩) (.inr ⟨w.heap.size + 1, ⟨rfl, rfl, rfl, by simp, fun b _ hb => Below.heap_setCell _ _ _ _ (fun e => hb (by rw [e]))⟩, fun e => by have := (hO.lt _ e).1; omega⟩)
 have hF := Lib.hid (show OwnSc (put3 w3 (w.heap.size + 1) (.slice B1 D.length d1) (.slice B2 M.length d2) (.slice B3 V.length d3)) w.heap.size (.slice B1 D.length d1) (.slice B2 M.length d2) (.slice B3 V.length d3) D M V from
  ⟨((st 2 _ elDimO_ok (st 1 _ elDimO_ok (st 0 _ elDimO_ok q1))).low HW.out).to elDimO_ok fun b hb _ => Nat.le_trans HW.out hb, ((st 2 _ elText_ok (st 1 _ elText_ok (st 0 _ elText_ok q2))).low HW.out).to elText_ok fun b hb _ => Nat.le_trans HW.out hb, ((st 2 _ (elOwn_ok elInt_ok) (st 1 _ (elOwn_ok elInt_ok) (st 0 _ (elOwn_ok elInt_ok) q3))).low HW.out).to (elOwn_ok elInt_ok) fun b hb _ => Nat.le_trans HW.out hb⟩)
 have hG := Lib.hid ((((hb1.trans (hBB3.mono hb1.size)).setCell (p := ⟨w.heap.size + 1, 0, none⟩) (Nat.le_succ _) (.slice B1 D.length d1)).setCell (p := ⟨w.heap.size + 1, 1, none⟩) (Nat.le_succ _) (.slice B2 M.length d2)).setCell (p := ⟨w.heap.size + 1, 2, none⟩) (Nat.le_succ _) (.slice B3 V.length d3))
 have hRR := Lib.hid (((hr3'.set_ 0 (.slice B1 D.length d1)).set_ 1 (.slice B2 M.length d2)).set_ 2 (.slice B3 V.length d3))
 clear q1 q2 q3 st hO1 hO2 hO3 hB1 hB2 hB3 hBB1 hBB2 hBB3 hr3 hr3' e0 e1' e2' f0 f1 f2 K HR HbR HC hb1 k0 k1 k2
 go_wp2_with fail
 refine bodyPost_ret (results_block1 rfl _ _ (w.heap.size + 1) _ _ rfl hRR.out Tryz.underlying26 rfl info_scS) rfl ?_
 exact ⟨⟨_, _, _, rfl, hF.out⟩, hG.out⟩
end Go.Proofs.YtmepdkdeanbbaaaGreat
namespace Go.Proofs.YtmepdkdeanbbaaaGreat
set_option maxRecDepth 100000
open Go.RowKit

section
variable {w w' : World} {ds : List DAt} {N : List Nat} {Qs : List (List Pth)} {vs : List CAt} {W m : Nat} {Cs : List Cub}
theorem Dcs.nil_ (w : World) : Dcs w [] [] [] := ⟨rfl, trivial, fun i d h => by simp at h, fun i j d e h => by simp at h⟩
theorem Cbs.nil_ (w : World) (W m : Nat) : Cbs w [] W m [] := ⟨rfl, fun i d h => by simp at h, fun i j d e h => by simp at h⟩
theorem getD_snoc {α : Type} {L : List α} {x y : α} {i : Nat} : (L ++ [x]).getD i y = if i = L.length then x else L.getD i y := by
 rw [List.getD_eq_getElem?_getD, List.getD_eq_getElem?_getD]
 by_cases h : i < L.length
 ·rw [List.getElem?_append_left h, if_neg (by omega)]
 ·by_cases h2 : i = L.length
  ·subst h2; simp
  ·rw [List.getElem?_eq_none (by simp; omega), List.getElem?_eq_none (by omega), if_neg h2]
theorem snoc_get {α : Type} {L : List α} {x y : α} {i : Nat} (h : (L ++ [x])[i]? = some y) : (i < L.length ∧ L[i]? = some y) ∨ (i = L.length ∧ x = y) := by
 by_cases hi : i < L.length
 ·rw [List.getElem?_append_left hi] at h
  exact .inl ⟨hi, h⟩
 ·have h2 := (List.getElem?_eq_some_iff.1 h).1
  rw [List.length_append, List.length_singleton] at h2
  obtain rfl : i = L.length := by omega
  simp at h
  exact .inr ⟨rfl, h⟩
theorem Dcs.snoc (h : Dcs w ds N Qs) (hb : Below w.heap.size w w') {d : DAt} {n : Nat} {Q : List Pth} (hd : Dc w' 0 d.1 d.2.1 d.2.2 n Q) (hf : ∀ k, footD d k → w.heap.size ≤ k) : Dcs w' (ds ++ [d]) (N ++ [n]) (Qs ++ [Q]) := by
 have hl := h.len
 have hq := h.lenQ
 have hgl := h.good.len
 refine ⟨by simp [hl], GoodD.of (by simp; omega) fun i hi => ?_, fun i e hi => ?_, fun i j x y hi hj hij k hx hy => ?_⟩
 ·rw [getD_snoc, getD_snoc, hgl]
  split
  ·exact hd.good
  ·refine h.good.get ?_
   rw [List.length_append, List.length_singleton] at hi
   omega
 ·rw [getD_snoc, getD_snoc, hgl]
  rcases snoc_get hi with ⟨h1, h2⟩ | ⟨h1, rfl⟩
  ·rw [if_neg (by omega), if_neg (by omega)]
   exact (h.at_ i e h2).below hb
  ·rw [if_pos (by omega), if_pos (by omega)]
   exact hd
 ·rcases snoc_get hi with ⟨h1, h2⟩ | ⟨h1, rfl⟩
  ·rcases snoc_get hj with ⟨h3, h4⟩ | ⟨h3, rfl⟩
   ·exact h.ne i j x y h2 h4 hij k hx hy
   ·have := h.lt (List.mem_of_getElem? h2) hx; have := hf k hy; omega
  ·rcases snoc_get hj with ⟨h3, h4⟩ | ⟨h3, rfl⟩
   ·have := h.lt (List.mem_of_getElem? h4) hy; have := hf k hx; omega
   ·omega
theorem Cbs.snoc (h : Cbs w vs W m Cs) (hb : Below w.heap.size w w') {c : CAt} {C : Cub} (hd : Cb w' c.1 c.2 W m C) (hf : ∀ k, footC c k → w.heap.size ≤ k) : Cbs w' (vs ++ [c]) W m (Cs ++ [C]) := by
 have hl := h.len
 refine ⟨by simp [hl], fun i e hi => ?_, fun i j x y hi hj hij k hx hy => ?_⟩
 ·rw [getD_snoc]
  rcases snoc_get hi with ⟨h1, h2⟩ | ⟨h1, rfl⟩
  ·rw [if_neg (by omega)]
   exact (h.at_ i e h2).belowS hb
  ·rw [if_pos (by omega)]
   exact hd
 ·rcases snoc_get hi with ⟨h1, h2⟩ | ⟨h1, rfl⟩
  ·rcases snoc_get hj with ⟨h3, h4⟩ | ⟨h3, rfl⟩
   ·exact h.ne i j x y h2 h4 hij k hx hy
   ·have := h.lt (List.mem_of_getElem? h2) hx; have := hf k hy; omega
  ·rcases snoc_get hj with ⟨h3, h4⟩ | ⟨h3, rfl⟩
   ·have := h.lt (List.mem_of_getElem? h4) hy; have := hf k hx; omega
   ·omega
theorem Dcs.set_row (h : Dcs w ds N Qs) {B size n' g c i : Nat} {e : TypeId} {xs : List Value} (hr : w.ownsRow B e size (.slice (some ⟨g, 0, none⟩) n' c) n' xs) (h1 : e ≠ 160) (h2 : e ≠ 168) (u : Value) : Dcs (w.setCell ⟨g, i, none⟩ u) ds N Qs :=
 h.chg (S := fun k => k = g) ((Chg.refl _ w).set_ g i u fun _ => rfl) fun d hd k hk e => by
  obtain ⟨j, hj⟩ := List.getElem?_of_mem hd
  exact own_not_d hr (h.at_ j d hj) h1 h2 (k := g) rfl (e ▸ hk)
theorem Cbs.set_row (h : Cbs w vs W m Cs) {B size n' g c i : Nat} {e : TypeId} {xs : List Value} (hr : w.ownsRow B e size (.slice (some ⟨g, 0, none⟩) n' c) n' xs) (h1 : e ≠ 181) (u : Value) : Cbs (w.setCell ⟨g, i, none⟩ u) vs W m Cs :=
 h.chg (S := fun k => k = g) ((Chg.refl _ w).set_ g i u fun _ => rfl) fun d hd k hk e => by
  obtain ⟨j, hj⟩ := List.getElem?_of_mem hd
  exact own_not_c hr (h.at_ j d hj) h1 (k := g) rfl (e ▸ hk)
end
theorem take_getD {α : Type} {L : List α} {k : Nat} (x : α) (h : k < L.length) : L.take (k + 1) = L.take k ++ [L.getD k x] := by
 rw [List.take_add_one, List.getElem?_eq_getElem h, List.getD_eq_getElem?_getD, List.getElem?_eq_getElem h]
 rfl
def MixP (T : TypeId) (w : World) (B : Nat) (v : Value) (n : Nat) (old new : List Nat) (k : Nat) : Prop := new.length = k ∧ w.ownsRow B T 1 v n (new.map ptrV ++ (old.map ptrV).drop k)
theorem MixP.set_ {T : TypeId} {w : World} {B n g c k x : Nat} {old new : List Nat} (h : MixP T w B (.slice (some ⟨g, 0, none⟩) n c) n old new k) (ho : old.length = n) (hk : k < n) : MixP T (w.setCell ⟨g, k, none⟩ (ptrV x)) B (.slice (some ⟨g, 0, none⟩) n c) n old (new ++ [x]) (k + 1) := by
 obtain ⟨h1, h2⟩ := h
 have hs := (World.ownsRow.stored h2 k (ptrV x)).1
 rw [mix_set (by rw [List.length_map, h1]) (by rw [List.length_map]; omega)] at hs
 exact ⟨by simp [h1], by rw [List.map_append]; exact hs⟩
theorem ptrs_one (gs : List Nat) : ∀ u ∈ gs.map ptrV, u.oneCell' = true := by
 intro u hu
 obtain ⟨x, _, rfl⟩ := List.mem_map.1 hu
 rfl
def TellDs (w : World) (n : Nat) (N : List Nat) (Qs : List (List Pth)) (e : Ending) (w' : World) : Prop :=
 (∃ A c ds, e = .returned (.slice A n c) ∧ w'.ownsRow w.heap.size 94 1 (.slice A n c) n (ds.map fun d => ptrV d.1) ∧ Dcs w' ds N Qs ∧ ∀ d ∈ ds, ∀ k, footD d k → w.heap.size ≤ k) ∧ Below w.heap.size w w'
set_option maxRecDepth 100000 in
set_option maxHeartbeats 2000000 in
theorem ownPD_any {A : Option Addr} {n c : Nat} {w : World} {ds : List DAt} {N : List Nat} {Qs : List (List Pth)} (hr : w.ownsRow 0 94 1 (.slice A n c) n (ds.map fun d => ptrV d.1)) (hd : Dcs w ds N Qs) (hn : n ≤ 1000) :
  Calls Tryz.prog 47 #[.slice A n c, .func (.func 48) #[] #[]] w (TellDs w n N Qs) := by
 have hmap : ds.map (fun d => ptrV d.1) = (ds.map (·.1)).map ptrV := by rw [List.map_map]; rfl
 have hdl : ds.length = n := by have := hr.1; rw [List.length_map] at this; omega
 rw [hmap] at hr
 obtain ⟨A', c', e, hS⟩ := Sl.of_own hr
 injection e with e1 e2 e3
 subst e1 e3
 have hol : Hid ((ds.map (·.1)).length = n) := Lib.hid (by rw [List.length_map]; exact hdl)
 obtain ⟨A2, c2, e, hle, hcm, hat⟩ := ptrs_at (by rw [hol.out]; exact hr)
 rw [hol.out] at e hle
 injection e with e1 e2 e3
 subst e1 e3
 have HC := Lib.hid (cloneP_any hS (ptrs_one _) hn)
 have HA := Lib.hid hat
 have HD := Lib.hid hd
 have hNl := hd.len
 have hQl := hd.lenQ
 have hnm : n ≤ 9223372036854775807 := by omega
 clear hS hr hat hd hcm
 go_enter Tryz.func47, Tryz.ntmps47
 go_wp2_with fail
 refine HC.out.mono ?_
 rintro e w1 ⟨Ac, cc, rfl, hO, hB1⟩
 have hM : MixP 94 w1 w.heap.size (.slice Ac n cc) n (ds.map (·.1)) [] 0 := ⟨rfl, by simpa using hO⟩
 have HM := Lib.hid (show ∃ es : List DAt, MixP 94 w1 w.heap.size (.slice Ac n cc) n (ds.map (·.1)) (es.map (·.1)) 0 ∧ Dcs w1 es (N.take 0) (Qs.take 0) ∧ ∀ d ∈ es, ∀ k, footD d k → w.heap.size ≤ k from ⟨[], hM, Dcs.nil_ _, fun d hd => by simp at hd⟩)
 clear hO HC hM
 go_wp2_with fail
 go_loopw [12] (fun i wr => ∃ k : Nat, k ≤ n ∧ i = .int .i64 k ∧ Hid (∃ es : List DAt, MixP 94 wr w.heap.size (.slice Ac n cc) n (ds.map (·.1)) (es.map (·.1)) k ∧ Dcs wr es (N.take k) (Qs.take k) ∧ ∀ d ∈ es, ∀ k, footD d k → w.heap.size ≤ k) ∧ Below w.heap.size w wr) (fun i _ => n - (intOf i).toNat)
 case atStart => exact ⟨0, Nat.zero_le _, rfl, HM, hB1⟩
 case round =>
  obtain ⟨k, hk, rfl, hO, hB⟩ := hrel
  by_cases hlt : k < n
  ·obtain ⟨es, hX, hE, hfe⟩ := hO.out
   obtain ⟨d, hdk⟩ : ∃ d, Hid (ds[k]? = some d) := ⟨_, Lib.hid (List.getElem?_eq_getElem (by omega))⟩
   obtain ⟨b, rfl, _, hbl, hcell⟩ := HA.out k d.1 (by rw [List.getElem?_map, hdk.out]; rfl)
   have g0 : wr.cell? ⟨b, k, none⟩ = some (.pointer (some ⟨d.1, 0, none⟩)) := (hB.cell (p := ⟨b, k, none⟩) hbl).trans hcell
   have hDk := (HD.out.at_ k d hdk.out).below hB
   obtain ⟨g, cg, eg⟩ : ∃ g cg, (.slice Ac n cc : Value) = .slice (some ⟨g, 0, none⟩) n cg := by
    rcases hX.2.2 with ⟨e, e0⟩ | ⟨g, cap, cur, e, _⟩
    ·omega
    ·exact ⟨g, cap, e⟩
   injection eg with eg1 eg2 eg3
   subst eg1 eg3
   have i0 : (0 : Int) ≤ (k : Int) := by omega
   have i1 : (k : Int) < (n : Int) := by omega
   have HX := Lib.hid (copy_any hDk)
   have hlo := World.ownsRow.lt hX.2
   clear hDk hcell
   go_wp2_with fail
   refine HX.out.mono ?_
   rintro e w5 ⟨g', pv', bm', rfl, hn', hb5⟩
   have hO5 := row_below hX.2 hb5
   have hE5 := hE.below hb5
   have hz := hB.size
   have hz5 := hb5.size
   obtain ⟨y, hy⟩ : ∃ y, ((es.map (·.1)).map ptrV ++ ((ds.map (·.1)).map ptrV).drop k)[k]? = some y := ⟨_, List.getElem?_eq_getElem (by have := hX.2.1; omega)⟩
   have c0 : w5.cell? ⟨g, k, none⟩ = some y := (hO5.cellAt k (by omega)).trans hy
   have f0 := hO5.frozenAt k
   have hgl := (hlo g rfl).1
   have hfd : ∀ q, footD (g', pv', bm') q → wr.heap.size ≤ q := fun q hq => (hn'.foot_base hq).1
   have hS5 := hE.snoc hb5 (d := (g', pv', bm')) (hn'.low (Nat.zero_le _)) hfd
   rw [← take_getD 0 (by omega), ← take_getD [] (by omega)] at hS5
   have hF := Lib.hid (show (∃ es : List DAt, MixP 94 (w5.setCell ⟨g, k, none⟩ (.pointer (some ⟨g', 0, none⟩))) w.heap.size (.slice (some ⟨g, 0, none⟩) n cc) n (ds.map (·.1)) (es.map (·.1)) (k + 1) ∧ Dcs (w5.setCell ⟨g, k, none⟩ (.pointer (some ⟨g', 0, none⟩))) es (N.take (k + 1)) (Qs.take (k + 1)) ∧ ∀ d ∈ es, ∀ k, footD d k → w.heap.size ≤ k) ∧ Below w.heap.size w (w5.setCell ⟨g, k, none⟩ (.pointer (some ⟨g', 0, none⟩))) from
    ⟨⟨es ++ [(g', pv', bm')], by rw [List.map_append]; exact MixP.set_ ⟨hX.1, hO5⟩ hol.out hlt, hS5.set_row hO5 (by decide) (by decide) _, fun d hd q hq => by
     rcases List.mem_append.1 hd with hd | hd
     ·exact hfe d hd q hq
     ·rw [List.mem_singleton.1 hd] at hq
      exact Nat.le_trans hz (hfd q hq)⟩, (hB.trans (hb5.mono hB.size)).setCell (p := ⟨g, k, none⟩) hgl _⟩)
   clear hO5 hO hB hb5 HX hy hX hE hfe hE5 hfd hS5 hn' hlo
   go_wp2_with fail
   go_roundw
   case rel => exact ⟨k + 1, by omega, by go_num, Lib.hid hF.out.1, hF.out.2⟩
   case measure => simp [intOf]; omega
  ·have hF := Lib.hid (show TellDs w n N Qs (.returned (.slice Ac n cc)) wr from by
    obtain ⟨es, hX, hE, hfe⟩ := hO.out
    obtain rfl : k = n := by omega
    have h2 := hX.2
    rw [List.drop_of_length_le (by rw [List.length_map, hol.out]; exact Nat.le_refl _), List.append_nil, List.map_map] at h2
    rw [List.take_of_length_le (by omega), List.take_of_length_le (by omega)] at hE
    exact ⟨⟨Ac, cc, es, rfl, h2, hE, hfe⟩, hB⟩)
   clear hO hB
   go_wp2_with fail
   go_ret
   exact hF.out
end Go.Proofs.YtmepdkdeanbbaaaGreat
namespace Go.Proofs.YtmepdkdeanbbaaaGreat
set_option maxRecDepth 100000
open Go.RowKit

section
variable {w : World} {R F : Nat → Prop} {g : Nat} {D : List PDim} {M : List Txt} {V : List (List Int)} {Qs : List (List Pth)} {Cs : List Cub} {cnt : Int}
theorem facts_any (h : Lt w R g F D M V Qs Cs cnt) : Calls Tryz.prog 24 #[.pointer (some ⟨g, 0, none⟩)] w fun e w' => e = .returned (.int .i64 cnt) ∧ w = w' := by
 obtain ⟨dv, vv, ds, vs, A1, n1, c1, A2, n2, c2, A3, n3, c3, h1, h2, h3, h4⟩ := h
 have k5 := h1.c5
 clear h1 h2 h3 h4
 go_enter Tryz.func24, Tryz.ntmps24
 go_wp2
 go_ret
 exact ⟨rfl, rfl⟩
theorem hasV_any {vv : Value} {A : Option Addr} {n c : Nat} (hv : vv = .slice A n c) (k4 : w.cell? ⟨g, 4, none⟩ = some vv) (v : Int) {r : Bool} (hr : Hid (decide (0 ≤ v ∧ v < (n : Int)) = r)) : Calls Tryz.prog 54 #[.pointer (some ⟨g, 0, none⟩), .int .i64 v] w fun e w' => e = .returned (.bool r) ∧ w = w' := by
 subst hv
 by_cases h0 : 0 ≤ v
 ·by_cases h1 : v < (n : Int)
  ·obtain rfl : r = true := hr.out.symm.trans (decide_eq_true ⟨h0, h1⟩)
   clear hr
   go_enter Tryz.func54, Tryz.ntmps54
   go_wp2
   go_ret
   exact ⟨rfl, rfl⟩
  ·obtain rfl : r = false := hr.out.symm.trans (decide_eq_false fun h => h1 h.2)
   clear hr
   go_enter Tryz.func54, Tryz.ntmps54
   go_wp2
   go_ret
   exact ⟨rfl, rfl⟩
 ·obtain rfl : r = false := hr.out.symm.trans (decide_eq_false fun h => h0 h.1)
  clear hr
  go_enter Tryz.func54, Tryz.ntmps54
  go_wp2
  go_ret
  exact ⟨rfl, rfl⟩
theorem LtM.lenV {X1 X2 X3 dv vv : Value} {ds : List DAt} {vs : List CAt} {N : List Nat} {W m : Nat} (h : LtM w g X1 X2 X3 dv vv ds vs N Qs W m Cs cnt) : ∃ A c, vv = .slice A Cs.length c ∧ vs.length = Cs.length ∧ ∀ i cc, vs[i]? = some cc → ∃ b, A = some ⟨b, 0, none⟩ ∧ vv.ownBlock = some b ∧ b < w.heap.size ∧ w.cell? ⟨b, i, none⟩ = some (.pointer (some ⟨cc.1, 0, none⟩)) := by
 have hl := h.cbs.len
 have hr := h.vr
 rw [show vs.map (fun c => ptrV c.1) = (vs.map (·.1)).map ptrV by rw [List.map_map]; rfl] at hr
 have e : (vs.map (·.1)).length = vs.length := by rw [List.length_map]
 rw [← e] at hr
 obtain ⟨A, c, ev, _, _, hat⟩ := ptrs_at hr
 rw [e] at ev
 refine ⟨A, c, by rw [ev, hl], hl, fun i cc hi => ?_⟩
 obtain ⟨b, q1, q2, q3, q4⟩ := hat i cc.1 (by rw [List.getElem?_map, hi]; rfl)
 exact ⟨b, q1, q2, q3, q4⟩
theorem LtM.lenD {X1 X2 X3 dv vv : Value} {ds : List DAt} {vs : List CAt} {N : List Nat} {W m : Nat} (h : LtM w g X1 X2 X3 dv vv ds vs N Qs W m Cs cnt) : ∃ A c, dv = .slice A N.length c ∧ ds.length = N.length ∧ ∀ i d, ds[i]? = some d → ∃ b, A = some ⟨b, 0, none⟩ ∧ dv.ownBlock = some b ∧ b < w.heap.size ∧ w.cell? ⟨b, i, none⟩ = some (.pointer (some ⟨d.1, 0, none⟩)) := by
 have hl := h.dcs.len
 have hr := h.dr
 rw [show ds.map (fun c => ptrV c.1) = (ds.map (·.1)).map ptrV by rw [List.map_map]; rfl] at hr
 have e : (ds.map (·.1)).length = ds.length := by rw [List.length_map]
 rw [← e] at hr
 obtain ⟨A, c, ev, _, _, hat⟩ := ptrs_at hr
 rw [e] at ev
 refine ⟨A, c, by rw [ev, hl], hl, fun i cc hi => ?_⟩
 obtain ⟨b, q1, q2, q3, q4⟩ := hat i cc.1 (by rw [List.getElem?_map, hi]; rfl)
 exact ⟨b, q1, q2, q3, q4⟩
theorem views_few {D : List PDim} {M : List Txt} {V : List (List Int)} (h : mayS D M V) : (viewsP D V).length ≤ 7 := by
 have := h.2.2.1
 unfold viewsP
 simp; omega
def lenA (Cs : List Cub) (v : Int) : Int × Int := if 0 ≤ v ∧ v < (Cs.length : Int) then (((Cs.getD v.toNat []).length : Int), 0) else (0, 17)
set_option maxRecDepth 100000 in
theorem lenL_any (h : Lt w R g F D M V Qs Cs cnt) (v : Int) {a b : Int} (hab : Hid (lenA Cs v = (a, b))) : Calls Tryz.prog 38 #[.pointer (some ⟨g, 0, none⟩), .int .i64 v] w fun e w' => e = .returned (.tuple #[.int .i64 a, .int .i64 b]) ∧ w = w' := by
 obtain ⟨dv, vv, ds, vs, A1, n1, c1, A2, n2, c2, A3, n3, c3, h1, h2, h3, h4, hm, hcl⟩ := h
 obtain ⟨A, c, ev, hvl, hat⟩ := h1.lenV
 have hfew := views_few hm
 have hH := Lib.hid (fun r hr => hasV_any (r := r) ev h1.c4 v hr)
 have k4 := h1.c4
 have HCb := Lib.hid h1.cbs
 have hn7 : Cs.length ≤ 7 := by omega
 have HA := Lib.hid hat
 subst ev
 clear h2 h3 h4 hm hat h1
 by_cases hv : 0 ≤ v ∧ v < (Cs.length : Int)
 ·obtain ⟨k, rfl⟩ := Int.eq_ofNat_of_zero_le hv.1
  have hk : k < Cs.length := by omega
  obtain ⟨cc, hcc⟩ : ∃ cc, Hid (vs[k]? = some cc) := ⟨_, Lib.hid (List.getElem?_eq_getElem (by omega))⟩
  obtain ⟨b', rfl, _, _, g0⟩ := HA.out k cc hcc.out
  have HX := Lib.hid (cubLen_any (HCb.out.at_ k cc hcc.out))
  have hH := Lib.hid (hH.out true (Lib.hid (decide_eq_true hv)))
  have hab2 := hab.out
  unfold lenA at hab2
  rw [if_pos hv] at hab2
  obtain ⟨ea, rfl⟩ := Prod.mk.inj hab2
  rw [show ((k : Int).toNat) = k from rfl] at ea
  rw [ea] at HX
  have i0 : (0 : Int) ≤ (k : Int) := by omega
  have i1 : (k : Int) < (Cs.length : Int) := by omega
  clear hab hab2 ea hv
  go_enter Tryz.func38, Tryz.ntmps38
  go_wp2_with fail
  refine hH.out.mono ?_
  rintro e w1 ⟨rfl, rfl⟩
  go_wp2_with fail
  refine HX.out.mono ?_
  rintro e w1 ⟨rfl, rfl⟩
  go_wp2_with fail
  go_ret2
  exact ⟨rfl, rfl⟩
 ·have hH := Lib.hid (hH.out false (Lib.hid (decide_eq_false hv)))
  have hab2 := hab.out
  unfold lenA at hab2
  rw [if_neg hv] at hab2
  obtain ⟨rfl, rfl⟩ := Prod.mk.inj hab2
  clear hab hab2 hv
  go_enter Tryz.func38, Tryz.ntmps38
  go_wp2_with fail
  refine hH.out.mono ?_
  rintro e w1 ⟨rfl, rfl⟩
  go_wp2_with fail
  go_ret2
  exact ⟨rfl, rfl⟩
end
end Go.Proofs.YtmepdkdeanbbaaaGreat
namespace Go.Proofs.YtmepdkdeanbbaaaGreat
set_option maxRecDepth 100000
open Go.RowKit

theorem step_appV {T TS : TypeId} {sz bytes : Nat} {z : Value} {w : World} {ops : Array Oper} {o : Oper} {a : Act} {Q : Exit → Act → World → Prop} {K : Act → World → Prop} {Fl : Prop} (hgd : o.guard = none) (s x : Operand)
  (ho : o.op = .call { callee := .builtin .append, args := #[s, x], argTypes := #[TS, TS] }) (hinfo : (Tryz.prog.info? T).map (fun i => (i.zero, i.size, i.bytes)) = some (some z, sz, bytes)) (hTS : Tryz.prog.underlying TS = some (.slice T)) (hzs : z.cells.size = sz) (hsz : 0 < sz ∧ sz ≤ 100 ∧ bytes ≤ 1000)
  (base : Nat) (v : Value) (n : Nat) (vs : List Value) (hs : a.eval s = v) (hr : w.ownsRow base T sz v n vs) (g : Nat) (hx : a.eval x = .slice (some ⟨g, 0, none⟩) 1 1) (us : List Value) (hus : us.length = sz)
  (hy : ∀ j u, us[j]? = some u → w.cell? ((⟨g, 0, none⟩ : Addr).add j) = some u) (hone : ∀ u ∈ us, u.oneCell' = true) (hlen : n ≤ 1000000) (hbase : base ≤ w.heap.size)
  (h : ∀ v' w', w'.ownsRow base T sz v' (n + 1) (vs ++ us) → Grew w v w' v' → K (a.put o.dst v') w') :
  if Region.wanted o (yielded ops a.tmps) = true then Oper.wp Tryz.prog o a w K Q else Fl := by
 have hw : Region.wanted o (yielded ops a.tmps) = true := by simp [Region.wanted, hgd]
 rw [if_pos hw]
 obtain ⟨i, hi, hz0, hz1, hz2⟩ := info_parts hinfo
 obtain ⟨v', w', hrun, h2, h3, _, h5⟩ := run_append_own_at (P := Tryz.prog) w base TS o.type T i _ sz bytes hTS hi hz0 hz1 hz2 hzs hsz.1 v n vs hr ⟨g, 0, none⟩ 1 1 us (by rw [hus]; omega) hy hone (by unfold maxLen; omega) (by have := Nat.mul_le_mul (show n + 1 ≤ 1000001 by omega) hsz.2.2; omega) hbase
 unfold Oper.wp execOp
 simp only [ho, resolve, invoke, builtin, Sem.run_bind, Sem.run_pure, Result.andThen_ok, List.map_toArray, List.map_cons, List.map_nil, hs, hx, hrun]
 have hG : Grew w v w' v' := ⟨h3, fun q hq => by
  rcases h5 with h5 | h5
  ·exact .inl (h5 ▸ hq)
  ·rw [h5] at hq
   injection hq with hq
   exact .inr (Nat.le_of_eq hq)⟩
 exact h v' w' h2 hG
theorem Chg.below_ {S : Nat → Prop} {w w' : World} {B : Nat} (h : Chg S w w') (hB : B ≤ w.heap.size) (hS : ∀ k, S k → B ≤ k) : Below B w w' := h.below hB hS
theorem chg_grew {w w' : World} {v v' : Value} (hG : Grew w v w' v') : Chg (fun k => v.ownBlock = some k) w w' := Chg.of_grown hG.1 fun _ hk _ => hk
theorem own_shape {w : World} {B size n : Nat} {T : TypeId} {v : Value} {vs : List Value} (h : w.ownsRow B T size v n vs) : ∃ A c, v = .slice A n c := by
 rcases h.2 with ⟨rfl, e0⟩ | ⟨g, cap, cur, rfl, _⟩
 ·exact ⟨none, 0, by rw [e0]⟩
 ·exact ⟨_, _, rfl⟩
section
variable {w y w8 : World} {g : Nat} {X1 X2 X3 dv vv v' : Value} {ds : List DAt} {vs : List CAt} {N : List Nat} {Qs : List (List Pth)} {W m : Nat} {Cs : List Cub} {cnt : Int}
def From (B g : Nat) (dv vv : Value) (ds : List DAt) (vs : List CAt) : Prop := ∀ k, footL g dv vv ds vs k → B ≤ k
theorem LtM.addD (h : LtM w g X1 X2 X3 dv vv ds vs N Qs W m Cs cnt) (hb : Below w.heap.size w y) {d : DAt} {n : Nat} {Q : List Pth} (hd : Dc y 0 d.1 d.2.1 d.2.2 n Q) (hf : ∀ k, footD d k → w.heap.size ≤ k) (hO : w8.ownsRow 0 94 1 v' (ds.length + 1) (ds.map (fun d => ptrV d.1) ++ [ptrV d.1])) (hG : Grew y dv w8 v') :
  Block w8 g 92 #[X1, X2, X3, dv, vv, .int .i64 cnt] ∧ LtM (w8.setCell ⟨g, 3, none⟩ v') g X1 X2 X3 v' vv (ds ++ [d]) vs (N ++ [n]) (Qs ++ [Q]) W m Cs cnt ∧ (∀ B, From B g dv vv ds vs → B ≤ w.heap.size → From B g v' vv (ds ++ [d]) vs ∧ Below B w (w8.setCell ⟨g, 3, none⟩ v')) := by
 have hz := hb.size
 have h1 := h.below hb
 have hc := chg_grew hG
 have b8 := h1.blk.chg hc h1.g_dv
 have hD := h.dcs.snoc hb hd hf
 have hD8 : Dcs w8 (ds ++ [d]) (N ++ [n]) (Qs ++ [Q]) := hD.chg hc fun e he k hk hdv => by
  obtain ⟨i, hi⟩ := List.getElem?_of_mem he
  exact own_not_d h1.dr (hD.at_ i e hi) (by decide) (by decide) hdv hk
 have hC8 : Cbs w8 vs W m Cs := h1.cbs.chg hc fun e he k hk hdv => by
  obtain ⟨i, hi⟩ := List.getElem?_of_mem he
  exact own_not_c h1.dr (h1.cbs.at_ i e hi) (by decide) hdv hk
 have hV8 := hc.row h1.vr fun k hk hdv => h1.dv_vv hdv hk
 have hs : Chg (fun k => k = g) w8 (w8.setCell ⟨g, 3, none⟩ v') := (Chg.refl _ w8).set_ g 3 v' fun _ => rfl
 have hvg : v'.ownBlock ≠ some g := own_ne_block hO b8 (by decide)
 refine ⟨b8, ⟨b8.set_ 3 v', ?_, ?_, hD8.chg hs ?_, hC8.chg hs ?_, ?_⟩, fun B hF hB => ⟨?_, ?_⟩⟩
 ·have := hs.row hO fun k hk e => hvg (e ▸ hk)
  simpa using this
 ·exact hs.row hV8 fun k hk e => own_ne_block hV8 b8 (by decide) (e ▸ hk)
 ·intro e he k hk hkg
  subst hkg
  obtain ⟨i, hi⟩ := List.getElem?_of_mem he
  rcases (hD8.at_ i e hi).kind hk with ⟨cs, e', fr, hh, h1'⟩ | ⟨es, clock, hh⟩
  ·have b8' : w8.heap[k]? = some (.cells _ _ _) := b8
   rw [b8'] at hh
   simp only [Option.some.injEq, Obj.cells.injEq] at hh
   rcases h1' with h1' | h1' <;> (rw [← hh.2.1] at h1'; exact absurd h1' (by decide))
  ·have b8' : w8.heap[k]? = some (.cells _ _ _) := b8
   rw [b8'] at hh; cases hh
 ·intro e he k hk hkg
  subst hkg
  obtain ⟨i, hi⟩ := List.getElem?_of_mem he
  have b8' : w8.heap[k]? = some (.cells _ _ _) := b8
  rcases (hC8.at_ i e hi).kind hk with ⟨cs, fr, hh⟩ | ⟨es, clock, hh⟩
  ·rw [b8'] at hh
   simp only [Option.some.injEq, Obj.cells.injEq] at hh
   exact absurd hh.2.1 (by decide)
  ·rw [b8'] at hh; cases hh
 ·intro e he c hc' k hk hkc
  rcases List.mem_append.1 he with he | he
  ·exact h.apart e he c hc' k hk hkc
  ·rw [List.mem_singleton.1 he] at hk
   have := hf k hk
   have := h.cbs.lt hc' hkc
   omega
 ·rintro k (rfl | hk | hk | ⟨e, he, hk⟩ | hk)
  ·exact hF _ (.inl rfl)
  ·rcases hG.2 k hk with h2 | h2
   ·exact hF _ (.inr (.inl h2))
   ·omega
  ·exact hF _ (.inr (.inr (.inl hk)))
  ·rcases List.mem_append.1 he with he | he
   ·exact hF _ (.inr (.inr (.inr (.inl ⟨e, he, hk⟩))))
   ·rw [List.mem_singleton.1 he] at hk
    have := hf k hk
    omega
  ·exact hF _ (.inr (.inr (.inr (.inr hk))))
 ·exact (((hb.mono hB).trans (hc.below_ (by omega) fun k hk => hF _ (.inr (.inl hk)))).trans (hs.below_ (by have := hc.size; omega) fun k e => by rw [e]; exact hF _ (.inl rfl)))
theorem LtM.addC (h : LtM w g X1 X2 X3 dv vv ds vs N Qs W m Cs cnt) (hb : Below w.heap.size w y) {c : CAt} {C : Cub} (hd : Cb y c.1 c.2 W m C) (hf : ∀ k, footC c k → w.heap.size ≤ k) (hO : w8.ownsRow 0 96 1 v' (vs.length + 1) (vs.map (fun d => ptrV d.1) ++ [ptrV c.1])) (hG : Grew y vv w8 v') :
  Block w8 g 92 #[X1, X2, X3, dv, vv, .int .i64 cnt] ∧ LtM (w8.setCell ⟨g, 4, none⟩ v') g X1 X2 X3 dv v' ds (vs ++ [c]) N Qs W m (Cs ++ [C]) cnt ∧ (∀ B, From B g dv vv ds vs → B ≤ w.heap.size → From B g dv v' ds (vs ++ [c]) ∧ Below B w (w8.setCell ⟨g, 4, none⟩ v')) := by
 have hz := hb.size
 have h1 := h.below hb
 have hc := chg_grew hG
 have b8 := h1.blk.chg hc h1.g_vv
 have hD := h.cbs.snoc hb hd hf
 have hC8 : Cbs w8 (vs ++ [c]) W m (Cs ++ [C]) := hD.chg hc fun e he k hk hdv => by
  obtain ⟨i, hi⟩ := List.getElem?_of_mem he
  exact own_not_c h1.vr (hD.at_ i e hi) (by decide) hdv hk
 have hD8 : Dcs w8 ds N Qs := h1.dcs.chg hc fun e he k hk hdv => by
  obtain ⟨i, hi⟩ := List.getElem?_of_mem he
  exact own_not_d h1.vr (h1.dcs.at_ i e hi) (by decide) (by decide) hdv hk
 have hV8 := hc.row h1.dr fun k hk hdv => h1.dv_vv hk hdv
 have hs : Chg (fun k => k = g) w8 (w8.setCell ⟨g, 4, none⟩ v') := (Chg.refl _ w8).set_ g 4 v' fun _ => rfl
 have hvg : v'.ownBlock ≠ some g := own_ne_block hO b8 (by decide)
 refine ⟨b8, ⟨b8.set_ 4 v', ?_, ?_, hD8.chg hs ?_, hC8.chg hs ?_, ?_⟩, fun B hF hB => ⟨?_, ?_⟩⟩
 ·exact hs.row hV8 fun k hk e => own_ne_block hV8 b8 (by decide) (e ▸ hk)
 ·have := hs.row hO fun k hk e => hvg (e ▸ hk)
  simpa using this
 ·intro e he k hk hkg
  subst hkg
  obtain ⟨i, hi⟩ := List.getElem?_of_mem he
  rcases (hD8.at_ i e hi).kind hk with ⟨cs, e', fr, hh, h1'⟩ | ⟨es, clock, hh⟩
  ·have b8' : w8.heap[k]? = some (.cells _ _ _) := b8
   rw [b8'] at hh
   simp only [Option.some.injEq, Obj.cells.injEq] at hh
   rcases h1' with h1' | h1' <;> (rw [← hh.2.1] at h1'; exact absurd h1' (by decide))
  ·have b8' : w8.heap[k]? = some (.cells _ _ _) := b8
   rw [b8'] at hh; cases hh
 ·intro e he k hk hkg
  subst hkg
  obtain ⟨i, hi⟩ := List.getElem?_of_mem he
  have b8' : w8.heap[k]? = some (.cells _ _ _) := b8
  rcases (hC8.at_ i e hi).kind hk with ⟨cs, fr, hh⟩ | ⟨es, clock, hh⟩
  ·rw [b8'] at hh
   simp only [Option.some.injEq, Obj.cells.injEq] at hh
   exact absurd hh.2.1 (by decide)
  ·rw [b8'] at hh; cases hh
 ·intro e he c' hc' k hk hkc
  rcases List.mem_append.1 hc' with hc' | hc'
  ·exact h.apart e he c' hc' k hk hkc
  ·rw [List.mem_singleton.1 hc'] at hkc
   have := hf k hkc
   have := h.dcs.lt he hk
   omega
 ·rintro k (rfl | hk | hk | hk | ⟨e, he, hk⟩)
  ·exact hF _ (.inl rfl)
  ·exact hF _ (.inr (.inl hk))
  ·rcases hG.2 k hk with h2 | h2
   ·exact hF _ (.inr (.inr (.inl h2)))
   ·omega
  ·exact hF _ (.inr (.inr (.inr (.inl hk))))
  ·rcases List.mem_append.1 he with he | he
   ·exact hF _ (.inr (.inr (.inr (.inr ⟨e, he, hk⟩))))
   ·rw [List.mem_singleton.1 he] at hk
    have := hf k hk
    omega
 ·exact (((hb.mono hB).trans (hc.below_ (by omega) fun k hk => hF _ (.inr (.inr (.inl hk))))).trans (hs.below_ (by have := hc.size; omega) fun k e => by rw [e]; exact hF _ (.inl rfl)))
end
theorem mayS_dims {D : List PDim} {M : List Txt} {V : List (List Int)} (h : mayS D M V) : 1 ≤ D.length ∧ D.length ≤ 3 ∧ 1 ≤ M.length ∧ M.length ≤ 2 := by
 obtain ⟨⟨_, h2⟩, h3, _⟩ := h
 have a := h2.1
 have b := h2.2.1
 rw [List.length_map] at a b
 exact ⟨a, b, h3.1, h3.2.1⟩
set_option maxRecDepth 100000 in
set_option maxHeartbeats 1000000 in
theorem emptyL_any {w : World} {g W m : Nat} {A1 A2 : Option Addr} {c1 c2 : Nat} (k0 : w.cell? ⟨g, 0, none⟩ = some (.slice A1 W c1)) (k1 : w.cell? ⟨g, 1, none⟩ = some (.slice A2 m c2)) (h : 1 ≤ W ∧ W ≤ 3 ∧ 1 ≤ m ∧ m ≤ 2) (hg : g < w.heap.size) :
  Calls Tryz.prog 45 #[.pointer (some ⟨g, 0, none⟩)] w fun e w' => (∃ v, e = .returned v ∧ TellN w W m [] v w') ∧ Below w.heap.size w w' := by
 obtain ⟨h1, h2, h3, h4⟩ := h
 have K : Hid (∀ y, Below w.heap.size w y → y.cell? ⟨g, 0, none⟩ = some (.slice A1 W c1) ∧ y.cell? ⟨g, 1, none⟩ = some (.slice A2 m c2)) := Lib.hid fun y hy => ⟨(hy.cell (p := ⟨g, 0, none⟩) hg).trans k0, (hy.cell (p := ⟨g, 1, none⟩) hg).trans k1⟩
 have HN := Lib.hid (cubNew_yes h1 h2 h3 h4 w.drew)
 have iW0 : (0 : Int) ≤ (W : Int) := by omega
 clear h1 h2 h3 h4
 go_enter Tryz.func45, Tryz.ntmps45
 go_wp2_with fail
 go_region_held3 (fun w' => w'.cell? ⟨g, 0, none⟩ = some (.slice A1 W c1) ∧ w'.cell? ⟨g, 1, none⟩ = some (.slice A2 m c2))
  (first
   | go_keep
   | exact K.out _ hBB1)
  (first
   | (go_at_call 96; refine HN.out.mono ?_; rintro e w1 ⟨⟨v, rfl, hT⟩, hB1⟩; have hBB1 : Below w.heap.size w w1 := ((below_drewN (Below.refl _ w) 1).trans hB1)))
 have hF := Lib.hid (show (∃ v', (Ending.returned v) = .returned v' ∧ TellN w W m [] v' w1) ∧ Below w.heap.size w w1 from ⟨⟨v, rfl, hT⟩, hBB1⟩)
 obtain ⟨gq, bq, rfl, hq⟩ := hT
 clear hq hB1 hBB1 K HN
 go_wp2_with fail
 go_ret
 exact hF.out
end Go.Proofs.YtmepdkdeanbbaaaGreat
namespace Go.Proofs.YtmepdkdeanbbaaaGreat
set_option maxRecDepth 100000
open Go.RowKit

def zOne (z : Value) (m : Nat) : Array Value := (List.replicate m z).toArray
theorem make_one {T TS : TypeId} {z : Value} {bytes : Nat} (hz0 : z.cells = #[z]) (hinfo : (Tryz.prog.info? T).map (fun i => (i.zero, i.size, i.bytes)) = some (some z, 1, bytes)) (hTS : Tryz.prog.underlying TS = some (.slice T)) (hb : bytes ≤ 1000) (m : Nat) (W : World) (hm : m ≤ 1000000) :
  (Instr.makeSlice TS (.int .i64 (m : Int)) (.int .i64 (m : Int))).run Tryz.prog W = .ok (.slice (some ⟨W.heap.size, 0, none⟩) m m) (W.alloc (.cells (zOne z m) T)) := by
 obtain ⟨i, hi, hz, hy, hx⟩ := info_parts hinfo
 have h := run_make (P := Tryz.prog) W TS T i z hTS hi hz .i64 .i64 m m (by omega) (by omega) (by rw [hx]; have h1 := Nat.mul_le_mul hb hm; have h2 : ((bytes * m : Nat) : Int) = (bytes : Int) * (m : Int) := Int.natCast_mul _ _; omega) (by omega)
 rw [hy, Nat.mul_one, Int.toNat_natCast] at h
 rw [h]
 congr 2
 congr 1
 apply Array.ext
 ·simp [zOne, madeCells]
 ·intro k h1 h2
  simp [zOne, madeCells, hz0, Nat.mod_one]
theorem own_zOne (w : World) (T : TypeId) (z : Value) (m : Nat) (hm : m ≤ 1000000) : (w.alloc (.cells (zOne z m) T)).ownsRow w.heap.size T 1 (.slice (some ⟨w.heap.size, 0, none⟩) m m) m (List.replicate m z) :=
 ⟨by simp, .inr ⟨w.heap.size, m, zOne z m, rfl, Nat.le_refl _, heap_alloc_new w _, Nat.le_refl _, by unfold maxLen; omega, by simp [zOne], by simp [zOne]⟩⟩
abbrev elPathO : ElT (List Txt) := elOwn elText 9 1
abbrev elKeyO : ElT PKey := elOwn elPathO 23 1
abbrev elRwO : ElT (PKey × PC) := elPair elKeyO 1 elCellO
theorem elPathO_ok' : elPathO.Ok := elOwn_ok elText_ok
theorem elKeyO_ok : elKeyO.Ok := elOwn_ok elPathO_ok'
theorem elRwO_ok : elRwO.Ok := elPair_ok elKeyO_ok elCellO_ok
theorem elPathO_read {w : World} {S : Nat → Prop} {us : List Value} {l : List Txt} (h : elPathO w S us l) : elPathR w S us l := elOwn_row elText_ok (fun _ _ h => h) h
theorem elKeyO_read {w : World} {S : Nat → Prop} {us : List Value} {l : PKey} (h : elKeyO w S us l) : elKeyR w S us l := elOwn_row elPathO_ok' (fun _ _ h => elPathO_read h) h
theorem elRwO_read {w : World} {S : Nat → Prop} {us : List Value} {d : PKey × PC} (h : elRwO w S us d) : elRw w S us d := ⟨elKeyO_read h.1, elCellO_read h.2⟩
set_option maxRecDepth 100000 in
set_option maxHeartbeats 2000000 in
theorem pathsL_any {w : World} {g : Nat} {X1 X2 X3 dv vv : Value} {ds : List DAt} {vs : List CAt} {N : List Nat} {Qs : List (List Pth)} {W m : Nat} {Cs : List Cub} {cnt : Int} (h : LtM w g X1 X2 X3 dv vv ds vs N Qs W m Cs cnt) (hN : N.length ≤ 3) {A : Option Addr} {n c : Nat} {K : List Int} (hK : HasI w w.heap.size A n c K) (hl : K.length = N.length) (hc : ∀ i, i < N.length → 0 ≤ K.getD i 0 ∧ K.getD i 0 ≤ ((Qs.getD i []).length : Int)) :
  Calls Tryz.prog 57 #[.pointer (some ⟨g, 0, none⟩), .slice A n c] w (Told elPathO 23 1 w (pathsK Qs K)) := by
 obtain ⟨Ad, cd, edv, hdl, hat⟩ := h.lenD
 subst edv
 have hnl : n = N.length := by rw [← hl]; exact hK.len.symm
 subst hnl
 have hlq : Qs.length = N.length := h.dcs.good.len
 have HK := Lib.hid hK
 have HM := Lib.hid h
 have HA := Lib.hid hat
 have HC := Lib.hid hc
 have HPl : Hid ((pathsK Qs K).length = N.length) := Lib.hid (by rw [pathsK_len (by omega)]; exact hlq)
 have HPg := Lib.hid (fun i (hi : i < N.length) => pathsK_get (Qs := Qs) (k := K) (i := i) (by omega) (by omega))
 have hmk : ∀ W : World, (Instr.makeSlice 69 (.int .i64 (N.length : Int)) (.int .i64 (N.length : Int))).run Tryz.prog W = .ok (.slice (some ⟨W.heap.size, 0, none⟩) N.length N.length) (W.alloc (.cells (zOne (.slice none 0 0) N.length) 23)) := fun W => make_one rfl info_rowT Tryz.underlying69 (by decide) N.length W (by omega)
 have hM0 := Lib.hid (OwnMix.begin (E := elPathO) (S := fun b => w.heap.size ≤ b) (own_zOne w 23 (.slice none 0 0) N.length (by omega)) HPl.out)
 have hb0 := below_a1 w (.cells (zOne (.slice none 0 0) N.length) 23)
 clear h hK hat hc
 go_enter Tryz.func57, Tryz.ntmps57
 go_wp2_with fail
 clear hmk
 generalize w.alloc (.cells (zOne (.slice none 0 0) N.length) 23) = W0 at hM0 hb0 ⊢
 go_loopw [13] (fun i wr => ∃ k : Nat, k ≤ N.length ∧ i = .int .i64 k ∧ Hid (OwnMix elPathO 23 1 wr w.heap.size (fun b => w.heap.size ≤ b) (.slice (some ⟨w.heap.size, 0, none⟩) N.length N.length) N.length (pathsK Qs K) (List.replicate N.length (.slice none 0 0)) k) ∧ Below w.heap.size w wr) (fun i _ => N.length - (intOf i).toNat)
 case atStart => exact ⟨0, Nat.zero_le _, rfl, hM0, hb0⟩
 case round =>
  obtain ⟨k, hk, rfl, hO, hB⟩ := hrel
  by_cases hlt : k < N.length
  ·have i0 : (0 : Int) ≤ (k : Int) := by omega
   have i1 : (k : Int) < (N.length : Int) := by omega
   obtain ⟨b, o, x, rfl, hbl, hcell, ex⟩ := HK.out.at_ hlt
   have g0 : wr.cell? ⟨b, o + k, none⟩ = some (.int .i64 x) := (hB.cell (p := ⟨b, o + k, none⟩) hbl).trans hcell
   have hx := HC.out k hlt
   rw [← ex.out] at hx
   obtain ⟨q, rfl⟩ := Int.eq_ofNat_of_zero_le hx.1
   obtain ⟨d, hdk⟩ : ∃ d, Hid (ds[k]? = some d) := ⟨_, Lib.hid (List.getElem?_eq_getElem (by omega))⟩
   obtain ⟨bd, rfl, _, hbd, hcd⟩ := HA.out k d hdk.out
   have g1 : wr.cell? ⟨bd, k, none⟩ = some (.pointer (some ⟨d.1, 0, none⟩)) := (hB.cell (p := ⟨bd, k, none⟩) hbd).trans hcd
   have c3 := (HM.out.below hB).c3
   have hpe : (pathsK Qs K)[k]? = some (pth (Qs.getD k []) q) := by
    have h1 := HPg.out k hlt
    rw [← ex.out] at h1
    rw [List.getD_eq_getElem?_getD] at h1
    obtain ⟨z, hz⟩ : ∃ z, (pathsK Qs K)[k]? = some z := ⟨_, List.getElem?_eq_getElem (by rw [HPl.out]; exact hlt)⟩
    rw [hz] at h1 ⊢
    exact congrArg some h1
   obtain ⟨p, hp⟩ : ∃ p, Hid (pth (Qs.getD k []) q = p) := ⟨_, Lib.hid rfl⟩
   rw [hp.out] at hpe
   have hpe := Lib.hid hpe
   have HX := Lib.hid (dictPath_any ((HM.out.dcs.at_ k d hdk.out).below hB) q (by omega) hp)
   clear hcell hcd hx
   go_wp2_with fail
   refine HX.out.mono ?_
   rintro e w5 ⟨v, rfl, hv, hb5⟩
   have hO5 := hO.out.below elPathO_ok' hb5
   have hlo := hO.out.lt
   have hz := hB.size
   have hE := OwnR.el elText_ok (hv.ownR (S := fun k => wr.heap.size ≤ k)) (u := .slice (some ⟨w.heap.size, 0, none⟩) N.length N.length) (fun k e => (hlo k e).2) hz
   obtain ⟨Av, cv, rfl, _⟩ := hv.form
   have c0 : w5.cell? ⟨w.heap.size, k, none⟩ = some (.slice none 0 0) := (hO5.old (j := k) (by omega) (by omega)).trans (by rw [List.getElem?_replicate, if_pos hlt])
   have f0 := hO5.free k
   have hF := Lib.hid (show OwnMix elPathO 23 1 (w5.setCell ⟨w.heap.size, k, none⟩ (.slice Av p.length cv)) w.heap.size (fun b => w.heap.size ≤ b) (.slice (some ⟨w.heap.size, 0, none⟩) N.length N.length) N.length (pathsK Qs K) (List.replicate N.length (.slice none 0 0)) (k + 1) ∧ Below w.heap.size w (w5.setCell ⟨w.heap.size, k, none⟩ (.slice Av p.length cv)) from ⟨hO5.set1 elPathO_ok' (by simp) hpe.out hE, (hB.trans (hb5.mono hB.size)).setCell (p := ⟨w.heap.size, k, none⟩) (Nat.le_refl _) _⟩)
   clear hO5 hO hB hb5 HX hv hE hlo
   go_wp2_with fail
   go_roundw
   case rel => exact ⟨k + 1, by omega, by go_num, Lib.hid hF.out.1, hF.out.2⟩
   case measure => simp [intOf]; omega
  ·have hF := Lib.hid (show OwnR elPathO 23 1 wr w.heap.size (fun b => w.heap.size ≤ b) (.slice (some ⟨w.heap.size, 0, none⟩) N.length N.length) (pathsK Qs K) ∧ Below w.heap.size w wr from ⟨hO.out.end_ (by omega) (by simp), hB⟩)
   clear hO hB
   go_wp2_with fail
   go_ret
   exact ⟨_, rfl, hF.out.1, hF.out.2⟩
end Go.Proofs.YtmepdkdeanbbaaaGreat
namespace Go.Proofs.YtmepdkdeanbbaaaGreat
set_option maxRecDepth 100000
open Go.RowKit

structure BtOk (D : List PDim) (m : Nat) (G : List Fct) : Prop where
 small : ∀ f ∈ G, SmallF f
 val : m ≤ 2 ∧ ∀ f ∈ G, isVal m f.2
 cell : ∀ f ∈ G, isCell m (oneF f)
 few : G.length ≤ 8
 len : ∀ f ∈ G, f.1.length = (levN D).length
 lev : ∀ f ∈ G, f.1.map List.length = levN D
section
variable {D : List PDim} {M : List Txt} {V : List (List Int)} {G : List Fct} {Qs Rs : List (List Pth)}
theorem levN_len (D : List PDim) : (levN D).length = D.length := by unfold levN; rw [List.length_map]
theorem bt_ok (hm : mayS D M V) (hb : mayBt D M V G = 0) : BtOk D M.length G := by
 have hd := mayS_dims hm
 have hf := mayBt_fit hb
 refine ⟨fun f h => ⟨by have := (hf f h).1.1; omega, fun p hp => by have := ((hf f h).1.2.1 p hp).1; omega, by have := (hf f h).1.2.2.1; omega⟩, ⟨hd.2.2.2, fun f h => fit_val (hf f h)⟩, fun f h => fit_cell hd.2.2.2 (hf f h), ?_, fun f h => by rw [levN_len]; exact (hf f h).2.1, fun f h => fit_lev (hf f h)⟩
 unfold mayBt at hb
 rw [if_pos hm] at hb
 exact (missP_is.1 hb).2.1
theorem bt_keys (hm : mayS D M V) (hB : BtOk D M.length G) (hg : GoodD (levN D) Qs) (ha : addsD (levN D) Qs G = (Rs, 0)) :
  (∀ (i : Nat) (f : Fct), G[i]? = some f → fullK (levN D) Rs ((keysG (levN D) Rs G).getD i []) ∧ ∀ v, LevD (levN D) v → upB Rs ((keysG (levN D) Rs G).getD i []) v = kC Rs v f) ∧ ∀ v, LevD (levN D) v → ∀ f ∈ G, isKey D.length (kC Rs v f) := by
 obtain ⟨h1, _, h3⟩ := addsD_all hg ha
 refine ⟨fun i f hi => ?_, fun v hv f hf => ?_⟩
 ·have hf := List.mem_of_getElem? hi
  have hP := h3 (bseN (levN D)) (bseN_lev _) f hf (hB.len f hf)
  rw [← bseN_is] at hP
  have hk : (keysG (levN D) Rs G).getD i [] = keyC Rs (baseP D) f.1 := by
   rw [List.getD_eq_getElem?_getD, keysG, List.getElem?_map, hi, bseN_is]
   rfl
  rw [hk]
  exact ⟨base_full h1 hP (hB.lev f hf) (lev_pos hm.1.1 (hB.lev f hf)), fun v _ => upB_key h1 hP (hB.lev f hf)⟩
 ·have hk := keyC_isKey h1 (h3 v hv f hf (hB.len f hf))
  rw [levN_len] at hk
  exact hk
end
end Go.Proofs.YtmepdkdeanbbaaaGreat
namespace Go.Proofs.YtmepdkdeanbbaaaGreat
set_option maxRecDepth 100000
open Go.RowKit

theorem flatB_len {α : Type} (f : α → List UInt8) (b : Nat) : ∀ {L : List α}, (∀ x ∈ L, (f x).length ≤ b) → (L.flatMap f).length ≤ b * L.length
 | [], _ => by simp
 | x :: L, h => by
  have h1 := flatB_len f b (L := L) fun y hy => h y (List.mem_cons_of_mem _ hy)
  have h2 := h x (by simp)
  rw [List.flatMap_cons, List.length_append, List.length_cons, Nat.mul_succ]
  omega
set_option maxRecDepth 100000 in
set_option maxHeartbeats 4000000 in
theorem putBy_any {w : World} {g : Nat} {X1 X2 X3 dv vv : Value} {ds : List DAt} {vs : List CAt} {N : List Nat} {Qs : List (List Pth)} {W m : Nat} {Cs : List Cub} {cnt : Int} (h : LtM w g X1 X2 X3 dv vv ds vs N Qs W m Cs cnt) (hN : N.length ≤ 3) (h1 : 1 ≤ Cs.length) {A : Option Addr} {n c : Nat} {l : List UInt8} (hb : HasB w w.heap.size A n c l) (hn : n ≤ 10000) :
  Calls Tryz.prog 23 #[.pointer (some ⟨g, 0, none⟩), .slice A n c] w fun e w' => ∃ v, e = .returned v ∧ OwnB w' w.heap.size 5 v (l ++ encL m Qs (Cs.getD 0 [])) ∧ Below w.heap.size w w' := by
 obtain ⟨Ad, cd, edv, hdl, hat⟩ := h.lenD
 obtain ⟨Av, cv, evv, hvl, hatv⟩ := h.lenV
 subst edv evv
 obtain ⟨nd, hnd⟩ : ∃ nd, N.length = nd := ⟨_, rfl⟩
 obtain ⟨nv, hnv⟩ : ∃ nv, Cs.length = nv := ⟨_, rfl⟩
 rw [hnd] at h hdl hN
 rw [hnv] at h hvl h1
 have HQ : Hid (Qs.length = nd) := Lib.hid (by rw [← hnd]; exact h.dcs.good.len)
 have HM := Lib.hid h
 have HA := Lib.hid hat
 have c3 := h.c3
 obtain ⟨cc, hcc⟩ : ∃ cc, Hid (vs[0]? = some cc) := ⟨_, Lib.hid (List.getElem?_eq_getElem (by omega))⟩
 obtain ⟨bv, rfl, _, hbv, hcell⟩ := hatv 0 cc hcc.out
 have KV : Hid (∀ y, Below w.heap.size w y → y.cell? ⟨g, 4, none⟩ = some (.slice (some ⟨bv, 0, none⟩) nv cv) ∧ y.cell? ⟨bv, 0, none⟩ = some (.pointer (some ⟨cc.1, 0, none⟩))) := Lib.hid fun y hy => ⟨(HM.out.below hy).c4, (hy.cell (p := ⟨bv, 0, none⟩) hbv).trans hcell⟩
 have HB := Lib.hid hb
 have HLl := Lib.hid hb.len
 have hGd : Hid (∀ Q ∈ Qs, (encD Q).length ≤ 2000) := Lib.hid fun Q hQ => by
  obtain ⟨i, hi⟩ := List.getElem?_of_mem hQ
  have hil := (List.getElem?_eq_some_iff.1 hi).1
  have h2 := h.dcs.good.get (i := i) (by rw [hnd, ← HQ.out]; exact hil)
  rw [show Qs.getD i [] = Q by rw [List.getD_eq_getElem?_getD, hi]; rfl] at h2
  exact (encD_len h2).2
 have HLe : Hid (∀ k, (l ++ (Qs.take k).flatMap encD).length ≤ 16000) := Lib.hid fun k => by
  have h2 := flatB_len encD 2000 (L := Qs.take k) fun Q hQ => hGd.out Q (List.mem_of_mem_take hQ)
  have h3 : (Qs.take k).length ≤ nd := by rw [List.length_take, HQ.out]; exact Nat.min_le_right _ _
  have h4 := HLl.out
  rw [List.length_append]
  omega
 clear h hat hatv hcell hb hnd hnv
 go_enter Tryz.func23, Tryz.ntmps23
 go_wp2_with fail
 go_loopw [1, 12] (fun v i wr => ∃ k : Nat, k ≤ nd ∧ i = .int .i64 k ∧ Hid (∃ A' n' c', v = .slice A' n' c' ∧ HasB wr wr.heap.size A' n' c' (l ++ (Qs.take k).flatMap encD)) ∧ Below w.heap.size w wr) (fun _ i _ => nd - (intOf i).toNat)
 case atStart => exact ⟨0, Nat.zero_le _, rfl, Lib.hid ⟨A, n, c, rfl, by simpa using HB.out⟩, Below.refl _ _⟩
 case round =>
  obtain ⟨k, hk, rfl, hO, hB⟩ := hrel
  obtain ⟨A', n', c', rfl, hH⟩ := hO.out
  have hnl : n' ≤ 16000 := by have h2 := hH.len; have h3 := HLe.out k; omega
  by_cases hlt : k < nd
  ·have i0 : (0 : Int) ≤ (k : Int) := by omega
   have i1 : (k : Int) < (nd : Int) := by omega
   obtain ⟨d, hdk⟩ : ∃ d, Hid (ds[k]? = some d) := ⟨_, Lib.hid (List.getElem?_eq_getElem (by omega))⟩
   obtain ⟨bd, rfl, _, hbd, hcd⟩ := HA.out k d hdk.out
   have g1 : wr.cell? ⟨bd, k, none⟩ = some (.pointer (some ⟨d.1, 0, none⟩)) := (hB.cell (p := ⟨bd, k, none⟩) hbd).trans hcd
   have HP := Lib.hid (putD_any ((HM.out.dcs.at_ k d hdk.out).below hB) hH (by omega))
   have hT : Hid (l ++ (Qs.take k).flatMap encD ++ encD (Qs.getD k []) = l ++ (Qs.take (k + 1)).flatMap encD) := Lib.hid (by
    have h2 : Qs[k]? = some (Qs.getD k []) := by rw [List.getD_eq_getElem?_getD, List.getElem?_eq_getElem (by have := HQ.out; omega)]; rfl
    rw [takeG_step h2, List.flatMap_append, List.append_assoc]
    simp)
   clear hcd hH hO
   go_wp2_with fail
   refine HP.out.mono ?_
   rintro e w5 ⟨v, rfl, hO5, hb5⟩
   rw [hT.out] at hO5
   obtain ⟨A5, n5, c5, rfl, hH5, _⟩ := hO5.formN
   have hF := Lib.hid (show HasB w5 w5.heap.size A5 n5 c5 (l ++ (Qs.take (k + 1)).flatMap encD) ∧ Below w.heap.size w w5 from ⟨hH5, hB.trans (hb5.mono hB.size)⟩)
   clear hO5 hH5 hb5 hB HP hT
   go_wp2_with fail
   go_roundw
   case rel => exact ⟨k + 1, by omega, by go_num, Lib.hid ⟨_, _, _, rfl, hF.out.1⟩, hF.out.2⟩
   case measure => simp [intOf]; omega
  ·have hall : Qs.take k = Qs := List.take_of_length_le (by have := HQ.out; omega)
   rw [hall] at hH
   obtain ⟨k4, kp⟩ := KV.out wr hB
   have HP := Lib.hid (cubPutB_any (HM.out.cbs.at_ 0 cc hcc.out |>.belowS hB) hH (by omega))
   have i1 : (0 : Int) < (nv : Int) := by omega
   clear hH hO
   go_wp2_with fail
   refine HP.out.mono ?_
   rintro e w5 ⟨v, rfl, hO5, hb5⟩
   have hF := Lib.hid (show OwnB w5 w.heap.size 5 v (l ++ encL m Qs (Cs.getD 0 [])) ∧ Below w.heap.size w w5 from ⟨by
    unfold encL
    rw [← List.append_assoc]
    exact hO5.low hB.size, hB.trans (hb5.mono hB.size)⟩)
   clear hO5 hb5 hB HP
   go_wp2_with fail
   go_ret
   exact ⟨_, rfl, hF.out.1, hF.out.2⟩
theorem putLt_any {w : World} {R F : Nat → Prop} {g : Nat} {D : List PDim} {M : List Txt} {V : List (List Int)} {Qs : List (List Pth)} {Cs : List Cub} {cnt : Int} (h : Lt w R g F D M V Qs Cs cnt) {A : Option Addr} {n c : Nat} {l : List UInt8} (hb : HasB w w.heap.size A n c l) (hn : n ≤ 10000) :
  Calls Tryz.prog 23 #[.pointer (some ⟨g, 0, none⟩), .slice A n c] w fun e w' => ∃ v, e = .returned v ∧ OwnB w' w.heap.size 5 v (l ++ encL M.length Qs (Cs.getD 0 [])) ∧ Below w.heap.size w w' := by
 obtain ⟨dv, vv, ds, vs, A1, n1, c1, A2, n2, c2, A3, n3, c3, h1, h2, h3, h4, hm, hCl⟩ := h
 have hd := mayS_dims hm
 exact putBy_any h1 (by unfold levN; rw [List.length_map]; exact hd.2.1) (by rw [hCl]; simp [viewsP]) hb hn
theorem putLt_nil {w : World} {R F : Nat → Prop} {g : Nat} {D : List PDim} {M : List Txt} {V : List (List Int)} {Qs : List (List Pth)} {Cs : List Cub} {cnt : Int} (h : Lt w R g F D M V Qs Cs cnt) :
  Calls Tryz.prog 23 #[.pointer (some ⟨g, 0, none⟩), .slice none 0 0] w fun e w' => ∃ v, e = .returned v ∧ OwnB w' w.heap.size 5 v (encL M.length Qs (Cs.getD 0 [])) ∧ Below w.heap.size w w' :=
 putLt_any (l := []) h ⟨rfl, Nat.le_refl _, Nat.zero_le _, fun _ => rfl, Has.nil_⟩ (by decide)
end Go.Proofs.YtmepdkdeanbbaaaGreat
namespace Go.Proofs.YtmepdkdeanbbaaaGreat
set_option maxRecDepth 100000
open Go.RowKit

def LxS (w : World) : World := (((((w.alloc (.cells #[.string ⟨#[108]⟩, .string ⟨#[109]⟩] 9)).alloc (.cells #[.string ⟨#[100]⟩, .slice (some ⟨w.heap.size, 0, none⟩) 2 2] 75)).alloc (.cells #[.string ⟨#[118]⟩] 9)).alloc (.cells #[.int .i64 1] 3)).alloc (.cells #[.slice (some ⟨w.heap.size + 1 + 1 + 1, 0, none⟩) 1 1] 47)).alloc (.cells #[.slice (some ⟨w.heap.size + 1, 0, none⟩) 1 1, .slice (some ⟨w.heap.size + 1 + 1, 0, none⟩) 1 1, .slice (some ⟨w.heap.size + 1 + 1 + 1 + 1, 0, none⟩) 1 1] 26)
theorem LxS_below (w : World) : Below w.heap.size w (LxS w) := below_then (below_then (below_then (below_then (below_then (below_a1 w _) (below_a1 _ _)) (below_a1 _ _)) (below_a1 _ _)) (below_a1 _ _)) (below_a1 _ _)
theorem LxS_sch (w : World) : SchR (LxS w) (fun b => b < (LxS w).heap.size) (some ⟨w.heap.size + 1, 0, none⟩) 1 1 (some ⟨w.heap.size + 1 + 1, 0, none⟩) 1 1 (some ⟨w.heap.size + 1 + 1 + 1 + 1, 0, none⟩) 1 1 LxD LxM LxV := by
 have a0 := (HasT.litAt w [[108], [109]] #[.string ⟨#[108]⟩, .string ⟨#[109]⟩] rfl 9 2 rfl (by decide) w.heap.size rfl).row
 have a1 := Row.lit (E := elDim) (sz := 2) elDim_ok (w.alloc (.cells #[.string ⟨#[108]⟩, .string ⟨#[109]⟩] 9)) #[.string ⟨#[100]⟩, .slice (some ⟨w.heap.size, 0, none⟩) 2 2] 75 1 LxD rfl rfl (by decide) (w.heap.size + 1) (by simp) (fun i x hi => by
  match i, hi with
  | 0, hi => simp [LxD] at hi; subst hi; exact ⟨rfl, _, _, _, rfl, a0⟩
  | i + 1, hi => simp [LxD] at hi)
 generalize hw2 : (w.alloc (.cells #[.string ⟨#[108]⟩, .string ⟨#[109]⟩] 9)).alloc (.cells #[.string ⟨#[100]⟩, .slice (some ⟨w.heap.size, 0, none⟩) 2 2] 75) = w2 at a1
 have z2 : w2.heap.size = w.heap.size + 1 + 1 := by rw [← hw2]; simp
 have a2 := (HasT.litAt w2 [[118]] #[.string ⟨#[118]⟩] rfl 9 1 rfl (by decide) (w.heap.size + 1 + 1) (by rw [z2])).row
 have b1 := a1.up elDim_ok (.cells #[.string ⟨#[118]⟩] 9)
 generalize hw3 : w2.alloc (.cells #[.string ⟨#[118]⟩] 9) = w3 at a2 b1
 have z3 : w3.heap.size = w.heap.size + 1 + 1 + 1 := by rw [← hw3, World.size_alloc, z2]
 have a3 := Row.lit (E := elInt) (sz := 1) elInt_ok w3 #[.int .i64 1] 3 1 [1] rfl rfl (by decide) (w.heap.size + 1 + 1 + 1) (by rw [z3]) (fun i x hi => by
  match i, hi with
  | 0, hi => simp at hi; subst hi; rfl
  | i + 1, hi => simp at hi)
 have b2 := a2.up elText_ok (.cells #[.int .i64 1] 3)
 have c1 := b1.up elDim_ok (.cells #[.int .i64 1] 3)
 generalize hw4 : w3.alloc (.cells #[.int .i64 1] 3) = w4 at a3 b2 c1
 have z4 : w4.heap.size = w.heap.size + 1 + 1 + 1 + 1 := by rw [← hw4, World.size_alloc, z3]
 have a4 := Row.lit (E := elRow elInt 1) (sz := 1) (elRow_ok elInt_ok) w4 #[.slice (some ⟨w.heap.size + 1 + 1 + 1, 0, none⟩) 1 1] 47 1 LxV rfl rfl (by decide) (w.heap.size + 1 + 1 + 1 + 1) (by rw [z4]) (fun i x hi => by
  match i, hi with
  | 0, hi => simp [LxV] at hi; subst hi; exact ⟨_, _, _, rfl, a3⟩
  | i + 1, hi => simp [LxV] at hi)
 have b3 := b2.up elText_ok (.cells #[.slice (some ⟨w.heap.size + 1 + 1 + 1, 0, none⟩) 1 1] 47)
 have d1 := c1.up elDim_ok (.cells #[.slice (some ⟨w.heap.size + 1 + 1 + 1, 0, none⟩) 1 1] 47)
 have hw : LxS w = (w4.alloc (.cells #[.slice (some ⟨w.heap.size + 1 + 1 + 1, 0, none⟩) 1 1] 47)).alloc (.cells #[.slice (some ⟨w.heap.size + 1, 0, none⟩) 1 1, .slice (some ⟨w.heap.size + 1 + 1, 0, none⟩) 1 1, .slice (some ⟨w.heap.size + 1 + 1 + 1 + 1, 0, none⟩) 1 1] 26) := by
  subst hw4 hw3 hw2
  rfl
 rw [hw]
 exact ⟨d1.up elDim_ok _, b3.up elText_ok _, a4.up (elRow_ok elInt_ok) _⟩
theorem lx_fit : FitD LxD := by
 intro d hd
 rw [List.mem_singleton.1 hd]
 exact ⟨by decide, fun s hs => by
  rcases List.mem_cons.1 hs with rfl | hs
  ·decide
  ·rw [List.mem_singleton.1 hs]; decide⟩
def lxOne (w : World) (g : Nat) (x y : Array UInt8) (v : Int) : World := ((w.alloc (.cells #[.string ⟨x⟩, .string ⟨y⟩] 9)).alloc (.cells #[.slice (some ⟨g, 0, none⟩) 2 2] 23)).alloc (.cells #[.int .i64 v] 3)
theorem lxOne_size (w : World) (g : Nat) (x y : Array UInt8) (v : Int) : (lxOne w g x y v).heap.size = w.heap.size + 1 + 1 + 1 := by simp [lxOne]
theorem lxOne_below (w : World) (g : Nat) (x y : Array UInt8) (v : Int) : Below w.heap.size w (lxOne w g x y v) := below_then (below_then (below_a1 w _) (below_a1 _ _)) (below_a1 _ _)
theorem Row.litS {α : Type} {E : ElT α} {sz : Nat} {S : Nat → Prop} (hE : E.Ok) (w : World) (C : Array Value) (T : TypeId) (n : Nat) (L : List α) (hL : L.length = n) (hC : C.size = n * sz) (hn : n ≤ 1000000) (g : Nat) (hg : g = w.heap.size) (hS : S g)
  (hx : ∀ i x, L[i]? = some x → E w S ((C.toList.drop (i * sz)).take sz) x) : Row E sz (w.alloc (.cells C T)) S (some ⟨g, 0, none⟩) n n L := by
 subst hg
 have hz : (w.alloc (.cells C T)).heap.size = w.heap.size + 1 := by simp
 refine ⟨hL, C.toList, ⟨by simpa using hC, Nat.le_refl _, by unfold maxLen; omega, (fun h => by cases h), fun _ => ⟨w.heap.size, 0, rfl, hS, by omega, fun j u hu => ?_⟩⟩, fun i x hi => hE _ _ _ _ _ _ (Mv.alloc w _ S) (hx i x hi)⟩
 rw [Nat.zero_add, cell_new]
 simpa using hu
theorem lxOne_el (w : World) (g : Nat) (hg : g = w.heap.size) (B : Nat) (hB : B ≤ w.heap.size) (x y : Txt) (v : Int) : elFct (lxOne w g x.toArray y.toArray v) (fun b => B ≤ b) [.slice (some ⟨g + 1, 0, none⟩) 1 1, .slice (some ⟨g + 1 + 1, 0, none⟩) 1 1] ([[x, y]], [v]) := by
 subst hg
 have a0 := Row.litS (S := fun b => B ≤ b) elText_ok (sz := 1) w #[.string ⟨x.toArray⟩, .string ⟨y.toArray⟩] 9 2 [x, y] rfl rfl (by decide) w.heap.size rfl hB (fun i z hi => by
  match i, hi with
  | 0, hi => simp at hi; subst hi; rfl
  | 1, hi => simp at hi; subst hi; rfl
  | i + 2, hi => simp at hi)
 have a1 := Row.litS (S := fun b => B ≤ b) (E := elRow elText 1) (sz := 1) (elRow_ok elText_ok) (w.alloc (.cells #[.string ⟨x.toArray⟩, .string ⟨y.toArray⟩] 9)) #[.slice (some ⟨w.heap.size, 0, none⟩) 2 2] 23 1 [[x, y]] rfl rfl (by decide) (w.heap.size + 1) (by simp) (by omega) (fun i z hi => by
  match i, hi with
  | 0, hi => simp at hi; subst hi; exact ⟨_, _, _, rfl, a0⟩
  | i + 1, hi => simp at hi)
 have a2 := Row.litS (S := fun b => B ≤ b) (E := elInt) (sz := 1) elInt_ok ((w.alloc (.cells #[.string ⟨x.toArray⟩, .string ⟨y.toArray⟩] 9)).alloc (.cells #[.slice (some ⟨w.heap.size, 0, none⟩) 2 2] 23)) #[.int .i64 v] 3 1 [v] rfl rfl (by decide) (w.heap.size + 1 + 1) (by simp) (by omega) (fun i z hi => by
  match i, hi with
  | 0, hi => simp at hi; subst hi; rfl
  | i + 1, hi => simp at hi)
 exact ⟨⟨_, _, _, rfl, a1.mv (elRow_ok elText_ok) (Mv.alloc _ _ _)⟩, ⟨_, _, _, rfl, a2⟩⟩
def LxW (w : World) : World := (lxOne (lxOne (lxOne w w.heap.size #[97] #[120] 5) (w.heap.size + 1 + 1 + 1) #[97] #[121] 7) (w.heap.size + 1 + 1 + 1 + 1 + 1 + 1) #[98] #[120] 1).alloc (.cells #[.slice (some ⟨w.heap.size + 1, 0, none⟩) 1 1, .slice (some ⟨w.heap.size + 1 + 1, 0, none⟩) 1 1, .slice (some ⟨w.heap.size + 1 + 1 + 1 + 1, 0, none⟩) 1 1, .slice (some ⟨w.heap.size + 1 + 1 + 1 + 1 + 1, 0, none⟩) 1 1, .slice (some ⟨w.heap.size + 1 + 1 + 1 + 1 + 1 + 1 + 1, 0, none⟩) 1 1, .slice (some ⟨w.heap.size + 1 + 1 + 1 + 1 + 1 + 1 + 1 + 1, 0, none⟩) 1 1] 83)
theorem LxW_below (w : World) : Below w.heap.size w (LxW w) := below_then (below_then (below_then (lxOne_below w _ _ _ _) (lxOne_below _ _ _ _ _)) (lxOne_below _ _ _ _ _)) (below_a1 _ _)
theorem LxW_has (w : World) : HasF (LxW w) (fun b => w.heap.size ≤ b) (some ⟨w.heap.size + 1 + 1 + 1 + 1 + 1 + 1 + 1 + 1 + 1, 0, none⟩) 3 3 LxF := by
 have z1 := lxOne_size w w.heap.size #[97] #[120] 5
 have z2 := lxOne_size (lxOne w w.heap.size #[97] #[120] 5) (w.heap.size + 1 + 1 + 1) #[97] #[121] 7
 have z3 := lxOne_size (lxOne (lxOne w w.heap.size #[97] #[120] 5) (w.heap.size + 1 + 1 + 1) #[97] #[121] 7) (w.heap.size + 1 + 1 + 1 + 1 + 1 + 1) #[98] #[120] 1
 have e1 := lxOne_el w w.heap.size rfl w.heap.size (Nat.le_refl _) [97] [120] 5
 have e2 := lxOne_el (lxOne w w.heap.size #[97] #[120] 5) (w.heap.size + 1 + 1 + 1) (by omega) w.heap.size (by omega) [97] [121] 7
 have e3 := lxOne_el (lxOne (lxOne w w.heap.size #[97] #[120] 5) (w.heap.size + 1 + 1 + 1) #[97] #[121] 7) (w.heap.size + 1 + 1 + 1 + 1 + 1 + 1) (by omega) w.heap.size (by omega) [98] [120] 1
 have b3 := lxOne_below (lxOne (lxOne w w.heap.size #[97] #[120] 5) (w.heap.size + 1 + 1 + 1) #[97] #[121] 7) (w.heap.size + 1 + 1 + 1 + 1 + 1 + 1) #[98] #[120] 1
 have m2 := elFct_ok _ _ _ _ _ _ ((Mv.belowS (lxOne_below (lxOne w w.heap.size #[97] #[120] 5) (w.heap.size + 1 + 1 + 1) #[97] #[121] 7) _).trans (Mv.belowS b3 _)) e1
 have m3 := elFct_ok _ _ _ _ _ _ (Mv.belowS b3 _) e2
 exact Row.litS (S := fun b => w.heap.size ≤ b) (E := elFct) (sz := 2) elFct_ok (lxOne (lxOne (lxOne w w.heap.size #[97] #[120] 5) (w.heap.size + 1 + 1 + 1) #[97] #[121] 7) (w.heap.size + 1 + 1 + 1 + 1 + 1 + 1) #[98] #[120] 1) _ 83 3 LxF rfl rfl (by decide) _ (by omega) (by omega) (fun i x hi => by
  match i, hi with
  | 0, hi => simp [LxF] at hi; subst hi; exact m2
  | 1, hi => simp [LxF] at hi; subst hi; exact m3
  | 2, hi => simp [LxF] at hi; subst hi; exact e3
  | i + 3, hi => simp [LxF] at hi)
end Go.Proofs.YtmepdkdeanbbaaaGreat
namespace Go.Proofs.YtmepdkdeanbbaaaGreat
set_option maxRecDepth 100000
open Go.RowKit

set_option maxRecDepth 100000 in
set_option maxHeartbeats 1000000 in
theorem refUpO_any {A : Option Addr} {n c : Nat} {L : List Txt} {w : World} (hr : HasT w w.heap.size A n c L) (m : Int) (hs : n ≤ 1000000) :
  Calls Tryz.prog 115 #[.slice A n c, .int .i64 m] w fun e w' => (∃ v, e = .returned v ∧ OwnT w' w.heap.size v (upP L m)) ∧ Below w.heap.size w w' := by
 have hn := hr.lenMax
 have HL := Lib.hid hr.len
 go_enter Tryz.func115, Tryz.ntmps115
 go_wp2
 go_loopw [5, 6] (fun v i wr => ∃ k : Nat, k ≤ n ∧ k ≤ m.toNat ∧ i = .int .i64 k ∧ OwnT wr w.heap.size v (L.take k) ∧ Below w.heap.size w wr) (fun _ i _ => n - (intOf i).toNat)
 case atStart => exact ⟨0, Nat.zero_le _, Nat.zero_le _, rfl, OwnT.nil_ w _, Below.refl _ _⟩
 case round =>
  obtain ⟨k, hk, hkm, rfl, hO, hB⟩ := hrel
  by_cases hgo : k < n ∧ (k : Int) < m
  ·obtain ⟨hlt, hltm⟩ := hgo
   obtain ⟨b, o, x, rfl, hb, hc, ex⟩ := (hr.below hB (Nat.le_refl _)).at_ hlt
   have hz := hB.size
   have hlb : Hid ((L.take k).length ≤ 1000000) := Lib.hid (Nat.le_trans (List.length_take_le k _) (by omega))
   have HT := Lib.hid (takeT_snoc (by have := HL.out; omega) ex.out)
   have hlo := fun g e => (hO.lt g e).1
   have hO1 := hO.alloc (.cells #[.string ⟨x.toArray⟩] 9)
   go_wp2_with (at_builtin; refine wpList_appT rfl _ _ rfl w.heap.size _ _ rfl hO1 _ rfl x (cell_litT _ _ _ _ (by simp)) hlb.out (by rw [World.size_alloc]; omega) ?_)
   intro v' w2 hO2 hG2
   have hB2 := Lib.hid ((hB.alloc hz (.cells #[.string ⟨x.toArray⟩] 9)).trans (hG2.below_ (by rw [World.size_alloc]; omega) hlo))
   rw [HT.out] at hO2
   have hO3 := Lib.hid hO2
   clear hO hO1 hO2 hG2 hlo hB
   go_wp2_with fail
   go_roundw
   case rel => exact ⟨k + 1, by omega, by omega, by go_num, hO3.out, hB2.out⟩
   case measure => simp [intOf]; omega
  ·have HT : Hid (L.take k = L.take m.toNat) := Lib.hid (by
    have := HL.out
    by_cases h : k < n
    ·congr 1; omega
    ·rw [List.take_of_length_le (by omega), List.take_of_length_le (by omega)])
   have hv := hO
   rw [HT.out] at hv
   clear hO
   by_cases hlt : k < n
   ·have hm : ¬ (k : Int) < m := by omega
    clear hgo
    go_wp2
    go_ret
    exact ⟨⟨_, rfl, hv⟩, hB⟩
   ·clear hgo
    go_wp2
    go_ret
    exact ⟨⟨_, rfl, hv⟩, hB⟩
theorem keyP_len : ∀ {v : List Int} {P : List Pth}, v.length ≤ P.length → (keyP v P).length = v.length
 | [], _, _ => by simp [keyP]
 | _ :: _, [], h => by simp at h
 | x :: v, p :: P, h => by
  have := keyP_len (v := v) (P := P) (by simpa using h)
  simp [keyP, this]
theorem keyP_get : ∀ {v : List Int} {P : List Pth} {i : Nat} {x : Int} {p : Pth}, v[i]? = some x → P[i]? = some p → (keyP v P)[i]? = some (upP p x)
 | [], _, _, _, _, h, _ => by simp at h
 | _ :: _, [], _, _, _, _, h => by simp at h
 | y :: v, q :: P, 0, x, p, h, h' => by
  simp at h h'
  subst h h'
  rfl
 | y :: v, q :: P, i + 1, x, p, h, h' => by
  have := keyP_get (v := v) (P := P) (i := i) (x := x) (p := p) (by simpa using h) (by simpa using h')
  simpa [keyP] using this
theorem cell_sl1 (w : World) (A : Option Addr) (n c : Nat) (t : TypeId) (g : Nat) (hg : g = w.heap.size) : ∀ j u, [Value.slice A n c][j]? = some u → (w.alloc (.cells #[.slice A n c] t)).cell? ((⟨g, 0, none⟩ : Addr).add j) = some u := by
 subst hg
 intro j u hj
 rw [add_flat, Nat.zero_add, (Block.new w t #[.slice A n c]).cell j]
 simpa using hj
theorem sl1_one (A : Option Addr) (n c : Nat) : ∀ u ∈ [Value.slice A n c], u.oneCell' = true := by
 intro u hu
 simp at hu
 subst hu
 rfl
set_option maxRecDepth 100000 in
set_option maxHeartbeats 2000000 in
theorem refKey_any {w : World} {S : Nat → Prop} {P Q Av : Option Addr} {np cp nq cq nv cv : Nat} {f : List Pth} {v : List Int} (hp : Row elPathR 1 w S P np cp f) (hv : HasI w w.heap.size Av nv cv v) (hl : nv ≤ np) (hn : nv ≤ 1000) (hs : ∀ p ∈ f, p.length ≤ 1000000) :
  Calls Tryz.prog 60 #[.agg #[.slice P np cp, .slice Q nq cq], .slice Av nv cv] w (Told elPathR 23 1 w (keyP v f)) := by
 have HVl := Lib.hid hv.len
 have HPl := Lib.hid hp.len
 have hb1 := below_a1 w (.cells #[.slice P np cp, .slice Q nq cq] 83)
 have hX := Block.new w 83 #[.slice P np cp, .slice Q nq cq]
 have HP := Lib.hid (hp.mv elPathR_ok (Mv.belowS hb1 S))
 have HV := Lib.hid (hv.belowS hb1)
 have HKl : Hid ((keyP v f).length = nv) := Lib.hid (by rw [keyP_len (by rw [HVl.out, HPl.out]; exact hl)]; exact HVl.out)
 have HS := Lib.hid hs
 clear hp hv hs
 go_enter Tryz.func60, Tryz.ntmps60
 go_wp2_with fail
 obtain ⟨bx, hbx⟩ : ∃ bx, w.heap.size = bx := ⟨_, rfl⟩
 have HB1 : Hid (Below w.heap.size w (w.alloc (.cells #[.slice P np cp, .slice Q nq cq] 83))) := Lib.hid hb1
 clear hb1
 rw [hbx] at hX ⊢
 generalize w.alloc (.cells #[.slice P np cp, .slice Q nq cq] 83) = w1 at hX HP HV HB1 ⊢
 have KX : Hid (∀ y, Below w1.heap.size w1 y → y.cell? ⟨bx, 0, none⟩ = some (.slice P np cp)) := Lib.hid fun y hy => (hX.below hy hX.lt).cell 0
 have HBx := Lib.hid hbx
 clear hX hbx
 go_loopw [5, 6] (fun u i wr => ∃ k : Nat, k ≤ nv ∧ i = .int .i64 k ∧ Hid (OwnR elPathR 23 1 wr w1.heap.size (fun b => w1.heap.size ≤ b) u ((keyP v f).take k)) ∧ Below w1.heap.size w1 wr) (fun _ i _ => nv - (intOf i).toNat)
 case atStart => exact ⟨0, Nat.zero_le _, rfl, Lib.hid (OwnR.nil_ _ _ _), Below.refl _ _⟩
 case round =>
  obtain ⟨k, hk, rfl, hO, hB⟩ := hrel
  have x0 := KX.out wr hB
  by_cases hlt : k < nv
  ·obtain ⟨b, o, A', n', c', p, rfl, _, _, gk, hr, hpe⟩ := (HP.out.mv elPathR_ok (Mv.belowS hB S)).at1 (k := k) (by omega)
   obtain ⟨b2, o2, x, rfl, hb2, gx, ex⟩ := (HV.out.belowS hB).at_ hlt
   have i0 : (0 : Int) ≤ (k : Int) := by omega
   have i1 : (k : Int) < (nv : Int) := by omega
   have i2 : (k : Int) < (np : Int) := by omega
   have hxk : v[k]? = some x := by
    have h1 : k < v.length := by rw [HVl.out]; exact hlt
    rw [ex, List.getD_eq_getElem?_getD, List.getElem?_eq_getElem h1]
    rfl
   have hT := Lib.hid (takeG_step (keyP_get hxk hpe.out))
   have hpl : n' ≤ 1000000 := by have h1 := HS.out p (List.mem_of_getElem? hpe.out); have h2 := hr.len; omega
   have HU := Lib.hid (refUpO_any (hr.hasT.drewN 1) x hpl)
   have hlo := hO.out.lt
   have hz := hB.size
   have hlb : Hid (((keyP v f).take k).length ≤ 1000000) := Lib.hid (Nat.le_trans (List.length_take_le k _) (by omega))
   clear hr hxk ex hpe
   go_wp2_with fail
   go_region_law (first
    | (refine step_appX elPathR_ok rfl _ _ rfl info_rowT Tryz.underlying69 rfl (by decide) w1.heap.size _ _ _ rfl HO7.out _ rfl [.slice Ap na ca] rfl (upP p x) HC7.out (sl1_one _ _ _) HE7.out hlb.out HS7.out ?_; intro v' w8 hO8 hG8)
    | (go_simp; go_at_call 115; refine HU.out.mono ?_; rintro e w6 ⟨⟨vp, rfl, hvp⟩, hb6⟩; have hb6' : Below wr.heap.size wr w6 := (below_drewN (Below.refl _ wr) 1).trans hb6; obtain ⟨Ap, na, ca, rfl, hrp⟩ : ∃ A n c, vp = .slice A n c ∧ Row elText 1 w6 (fun k => wr.heap.size ≤ k ∧ vp.ownBlock = some k) A n c (upP p x) := (by obtain ⟨A, c, e, h⟩ := hvp.row; exact ⟨A, _, c, e, h⟩); have hb7 := hb6'.trans ((below_a1 w6 (.cells #[.slice Ap na ca] 23)).mono hb6'.size); have HB7 := Lib.hid hb7; have HO7 := Lib.hid (hO.out.below elPathR_ok hb7); have HC7 := Lib.hid (cell_sl1 w6 Ap na ca 23 w6.heap.size rfl); have HE7 : Hid (elPathR (w6.alloc (.cells #[.slice Ap na ca] 23)) (fun b => w1.heap.size ≤ b ∧ u5.ownBlock ≠ some b) [.slice Ap na ca] (upP p x)) := Lib.hid ⟨Ap, na, ca, rfl, hrp.mv elText_ok ((Mv.alloc w6 _ _).trans (Mv.to _ fun b hb _ => ⟨Nat.le_trans hz hb.1, fun e => by have := (hlo b e).2; have := hb.1; omega⟩))⟩; have HS7 : Hid (w1.heap.size ≤ (w6.alloc (.cells #[.slice Ap na ca] 23)).heap.size) := Lib.hid (Nat.le_trans hz hb7.size); clear hvp hrp hb6 hb6' hb7))
   all_goals
    have hF := Lib.hid (show OwnR elPathR 23 1 w8 w1.heap.size (fun b => w1.heap.size ≤ b) v' ((keyP v f).take (k + 1)) ∧ Below w1.heap.size w1 w8 from ⟨by rw [hT.out]; exact hO8, (hB.trans (HB7.out.mono hz)).trans (hG8.below_ HS7.out fun j e => (hlo j e).1)⟩)
    clear hO8 hG8 HE7 HS7 HC7 HO7 HB7 x0 gk gx hO
    go_wp2_with fail
    go_roundw
    case rel => exact ⟨k + 1, by omega, by go_num, Lib.hid hF.out.1, hF.out.2⟩
    case measure => simp [intOf]; omega
  ·have hall : (keyP v f).take k = keyP v f := List.take_of_length_le (by have := HKl.out; omega)
   have hz1 : w.heap.size ≤ w1.heap.size := HB1.out.size
   have hF := Lib.hid (show OwnR elPathR 23 1 wr w.heap.size (fun b => w.heap.size ≤ b) u5 (keyP v f) ∧ Below w.heap.size w wr from ⟨by
    have h1 := hO.out
    rw [hall] at h1
    exact (h1.low hz1).to elPathR_ok fun b hb _ => Nat.le_trans hz1 hb, below_then HB1.out hB⟩)
   clear hO hall
   go_wp2_with fail
   go_ret
   exact ⟨_, rfl, hF.out.1, hF.out.2⟩
end Go.Proofs.YtmepdkdeanbbaaaGreat
namespace Go.Proofs.YtmepdkdeanbbaaaGreat
set_option maxRecDepth 100000
open Go.RowKit

theorem LtM.begin {w : World} {g : Nat} {X1 X2 X3 : Value} (W m : Nat) (h : Block w g 92 #[X1, X2, X3, .slice none 0 0, .slice none 0 0, .int .i64 0]) : LtM w g X1 X2 X3 (.slice none 0 0) (.slice none 0 0) [] [] [] [] W m [] 0 :=
 ⟨h, World.ownsRow_nil _ _ _ _, World.ownsRow_nil _ _ _ _, Dcs.nil_ w, Cbs.nil_ w W m, fun d hd => by simp at hd⟩
theorem From.begin {B g : Nat} (h : B ≤ g) : From B g (.slice none 0 0) (.slice none 0 0) [] [] := by
 rintro k (rfl | hk | hk | ⟨d, hd, _⟩ | ⟨d, hd, _⟩)
 ·exact h
 ·cases hk
 ·cases hk
 ·simp at hd
 ·simp at hd
theorem cell_oneV (w : World) (y : Value) (t : TypeId) (g : Nat) (hg : g = w.heap.size) : ∀ j u, [y][j]? = some u → (w.alloc (.cells #[y] t)).cell? ((⟨g, 0, none⟩ : Addr).add j) = some u := by
 subst hg
 intro j u hj
 match j, hj with
 | 0, hj => simp at hj; subst hj; simp [add_flat, cell_new]
 | j + 1, hj => simp at hj
theorem ptr_one (g : Nat) : ∀ u ∈ [ptrV g], u.oneCell' = true := by
 intro u hu
 rw [List.mem_singleton.1 hu]
 rfl
theorem levN_take {D : List PDim} {k : Nat} {x : Txt} {l : List Txt} (h : D[k]? = some (x, l)) : (levN D).take k ++ [l.length] = (levN D).take (k + 1) := by
 unfold levN
 rw [List.take_add_one, List.getElem?_map, h]
 rfl
def TellNew (w : World) (D : List PDim) (M : List Txt) (V : List (List Int)) (e : Ending) (w' : World) : Prop :=
 ∃ g F R, e = .returned (.tuple #[.pointer (some ⟨g, 0, none⟩), .int .i64 0]) ∧ Lt w' R g F D M V (D.map fun _ => []) ((viewsP D V).map fun _ => []) 0 ∧ (∀ k, F k → w.heap.size ≤ k) ∧ (∀ k, R k → w.heap.size ≤ k ∧ k < w'.heap.size) ∧ Below w.heap.size w w'
set_option maxRecDepth 100000 in
set_option maxHeartbeats 2000000 in
theorem newL_no {R : Nat → Prop} {A1 A2 A3 : Option Addr} {n1 c1 n2 c2 n3 c3 : Nat} {D : List PDim} {M : List Txt} {V : List (List Int)} {w : World} (h : SchR w R A1 n1 c1 A2 n2 c2 A3 n3 c3 D M V) (hf : FitD D) (hm : ∀ s ∈ M, s.length ≤ maxLen) (hn1 : n1 ≤ 1000) (hno : ¬ mayS D M V) :
  Calls Tryz.prog 16 #[schV A1 n1 c1 A2 n2 c2 A3 n3 c3] w fun e w' => e = .returned (.tuple #[.pointer none, .int .i64 11]) ∧ Below w.heap.size w w' := by
 have hb0 := (below_a1 w (.cells #[.slice A1 n1 c1, .slice A2 n2 c2, .slice A3 n3 c3] 26))
 have hbl := (Block.new w 26 #[.slice A1 n1 c1, .slice A2 n2 c2, .slice A3 n3 c3])
 have HX := Lib.hid (maySchema_any (h.belowS hb0).has hf hm hn1)
 rw [decide_eq_false hno] at HX
 have k0 := hbl.cell 0
 have k1 := hbl.cell 1
 have k2 := hbl.cell 2
 clear h hf hm hno
 go_enter Tryz.func16, Tryz.ntmps16
 go_wp2_with fail
 generalize w.alloc (.cells #[.slice A1 n1 c1, .slice A2 n2 c2, .slice A3 n3 c3] 26) = W0 at hb0 hbl HX k0 k1 k2 ⊢
 go_wp2_with fail
 refine HX.out.mono ?_
 rintro e w1 ⟨rfl, hB1⟩
 go_wp2_with fail
 go_ret2
 exact ⟨rfl, hb0.trans (hB1.mono hb0.size)⟩
end Go.Proofs.YtmepdkdeanbbaaaGreat
namespace Go.Proofs.YtmepdkdeanbbaaaGreat
set_option maxRecDepth 100000
open Go.RowKit

set_option maxRecDepth 100000 in
set_option maxHeartbeats 4000000 in
theorem newL_yes {R : Nat → Prop} {A1 A2 A3 : Option Addr} {n1 c1 n2 c2 n3 c3 : Nat} {D : List PDim} {M : List Txt} {V : List (List Int)} {w : World} (h : SchR w R A1 n1 c1 A2 n2 c2 A3 n3 c3 D M V) (hf : FitD D) (hm : ∀ s ∈ M, s.length ≤ maxLen) (hyes : mayS D M V) :
  Calls Tryz.prog 16 #[schV A1 n1 c1 A2 n2 c2 A3 n3 c3] w (TellNew w D M V) := by
 have hb0 := (below_a1 w (.cells #[.slice A1 n1 c1, .slice A2 n2 c2, .slice A3 n3 c3] 26))
 have hbl := (Block.new w 26 #[.slice A1 n1 c1, .slice A2 n2 c2, .slice A3 n3 c3])
 have hdims := mayS_dims hyes
 have hsm := mayS_small hyes
 have hn1 := h.d.len
 have hn3 := h.v.len
 have HX := Lib.hid (maySchema_any (h.belowS hb0).has hf hm (by omega))
 rw [decide_eq_true hyes] at HX
 have HS0 := Lib.hid (h.belowS hb0)
 have HL3 : Hid (∀ d ∈ D, 1 ≤ d.2.length ∧ d.2.length ≤ 3) := Lib.hid fun d hd => ⟨(hyes.1.1 d hd).1, (hyes.1.1 d hd).2.1⟩
 have HV7 := Lib.hid (views_few hyes)
 have Hn : Hid (D.length = n1 ∧ V.length = n3) := Lib.hid ⟨hn1, hn3⟩
 have hn3' : n3 ≤ 1000 := by have := hsm.v.1; omega
 have HSm := Lib.hid hsm
 have HY := Lib.hid hyes
 have k0 := hbl.cell 0
 have k1 := hbl.cell 1
 have k2 := hbl.cell 2
 have hd3 : n1 ≤ 3 := by omega
 have hdW : Hid (1 ≤ D.length ∧ D.length ≤ 3 ∧ 1 ≤ M.length ∧ M.length ≤ 2) := Lib.hid hdims
 clear h hf hm hyes hdims hsm hn1 hn3
 go_enter Tryz.func16, Tryz.ntmps16
 go_wp2_with fail
 generalize w.alloc (.cells #[.slice A1 n1 c1, .slice A2 n2 c2, .slice A3 n3 c3] 26) = W0 at hb0 hbl HX HS0 k0 k1 k2 ⊢
 go_wp2_with fail
 refine HX.out.mono ?_
 rintro e w1 ⟨rfl, hB1⟩
 have hbl1 := hbl.below hB1 hbl.lt
 have hB1' := hb0.trans (hB1.mono hb0.size)
 have k0 := hbl1.cell 0
 have k1 := hbl1.cell 1
 have k2 := hbl1.cell 2
 have HS1 := Lib.hid (HS0.out.belowS hB1)
 have HC := Lib.hid (copied_any HS1.out HSm.out)
 clear hbl HX HS0 hB1
 go_wp2_with fail
 refine HC.out.mono ?_
 rintro e w2 ⟨⟨v1, v2, v3, rfl, hO⟩, hB2⟩
 have hbl2 := hbl1.below hB2 hbl1.lt
 have hlt1 := hbl1.lt
 have hz2 := hB2.size
 have HS2 := Lib.hid ((HS1.out.belowS hB2).mv (Mv.to w2 (S' := fun b => R b ∧ b < w2.heap.size) fun b hb hl => ⟨hb, hl⟩))
 obtain ⟨B1, d1, B2, d2, B3, d3, rfl, rfl, rfl, hSR⟩ := hO.read
 have HSR := Lib.hid hSR
 have hb3 := below_a1 w2 (.cells #[.slice B1 D.length d1, .slice B2 M.length d2, .slice B3 V.length d3, .slice none 0 0, .slice none 0 0, .int .i64 0] 92)
 have hg3 := Block.new w2 92 #[.slice B1 D.length d1, .slice B2 M.length d2, .slice B3 V.length d3, .slice none 0 0, .slice none 0 0, .int .i64 0]
 have hbl3 := hbl2.below hb3 hbl2.lt
 have k0 := hbl3.cell 0
 have hLB := LtM.begin D.length M.length hg3
 have hlt2 := hbl2.lt
 have HBl2 := Lib.hid hbl2
 obtain ⟨w3, hw3⟩ : ∃ w3, w3 = w2.alloc (.cells #[.slice B1 D.length d1, .slice B2 M.length d2, .slice B3 V.length d3, .slice none 0 0, .slice none 0 0, .int .i64 0] 92) := ⟨_, rfl⟩
 have HL0 : Hid (∃ dv ds, LtM w3 w2.heap.size (.slice B1 D.length d1) (.slice B2 M.length d2) (.slice B3 V.length d3) dv (.slice none 0 0) ds [] ((levN D).take 0) (List.replicate 0 []) D.length M.length [] 0 ∧ From w2.heap.size w2.heap.size dv (.slice none 0 0) ds []) := by rw [hw3]; exact Lib.hid ⟨_, _, hLB, From.begin (Nat.le_refl _)⟩
 clear hbl1 hO hSR HC hbl2 hg3 hLB hbl3
 go_wp2_with fail
 rw [← hw3] at hb3 k0 ⊢
 clear hw3
 go_loopw [17] (fun i wr => ∃ k : Nat, k ≤ n1 ∧ i = .int .i64 k ∧ Hid (∃ dv ds, LtM wr w2.heap.size (.slice B1 D.length d1) (.slice B2 M.length d2) (.slice B3 V.length d3) dv (.slice none 0 0) ds [] ((levN D).take k) (List.replicate k []) D.length M.length [] 0 ∧ From w2.heap.size w2.heap.size dv (.slice none 0 0) ds []) ∧ Below w2.heap.size w2 wr) (fun i _ => n1 - (intOf i).toNat)
 case atStart => exact ⟨0, Nat.zero_le _, rfl, HL0, hb3⟩
 case round =>
  obtain ⟨k, hk, rfl, hO, hB⟩ := hrel
  by_cases hlt : k < n1
  ·obtain ⟨b, o, A', n', c', x, l, rfl, g0, g1, hl, he⟩ := (HS2.out.d.mv elDim_ok (Mv.below hB fun b hb => hb.2)).atD hlt
   have i0 : (0 : Int) ≤ (k : Int) := by omega
   have i1 : (k : Int) < (n1 : Int) := by omega
   obtain ⟨s1, s2⟩ := HL3.out (x, l) (List.mem_of_getElem? he.out)
   have hll := hl.len
   have hT := Lib.hid (levN_take he.out)
   obtain ⟨dv, ds, hLt, hF⟩ := hO.out
   have hdl := hLt.dcs.len
   rw [List.length_take, show (levN D).length = n1 from by unfold levN; rw [List.length_map, Hn.out.1]] at hdl
   have hdk : ds.length = k := by omega
   obtain ⟨Ad, cd, edv⟩ := own_shape hLt.dr
   rw [hdk] at edv
   subst edv
   have hb0' := below_a1 wr (.cells #[.string ⟨x.toArray⟩, .slice A' n' c'] 75)
   have hdm := dim_two wr (.string ⟨x.toArray⟩) (.slice A' n' c')
   have e0 := hdm.cell 0
   have e1 := hdm.cell 1
   have hLt0 := hLt.below hb0'
   have hB0 := hB.trans (hb0'.mono hB.size)
   have p0 := hLt0.c3
   have HLt := Lib.hid hLt0
   have HF := Lib.hid hF
   clear hl hO hB hLt hLt0 hF hdl
   go_wp2_with fail
   generalize wr.alloc (.cells #[.string ⟨x.toArray⟩, .slice A' n' c'] 75) = W at hb0' hdm hB0 e0 e1 p0 HLt ⊢
   have hn' : 1 ≤ n' ∧ n' ≤ 3 := by have h1 : 1 ≤ l.length := s1; have h2 : l.length ≤ 3 := s2; omega
   have HN := Lib.hid (new_any W.drew hn')
   have hdr := Lib.hid (show ∀ y, Below W.heap.size W y → y.ownsRow 0 94 1 (.slice Ad k cd) k (ds.map fun d => ptrV d.1) from fun y hy => by have := (HLt.out.below hy).dr; rwa [hdk] at this)
   have HB0 := Lib.hid hB0
   clear hdm hb0' hB0 hn'
   go_region_law (first
    | (refine step_appV rfl _ _ rfl info_clP Tryz.underlying89 rfl (by decide) 0 (.slice Ad k cd) k _ rfl HR7.out _ rfl [.pointer (some ⟨W.heap.size + 1, 0, none⟩)] rfl HC7.out (ptr_one _) (by omega) (Nat.zero_le _) ?_; intro v' w8 hO8 hG8; obtain ⟨A8, c8, e8⟩ := own_shape hO8; subst e8; obtain ⟨hb8, hM8, hF8⟩ := HLt.out.addD (d := (W.heap.size + 1, .slice none 0 0, W.heap.size)) (Q := []) HB7.out HD7.out HF7.out (by rw [hdk]; exact hO8) hG8; have p8 : w8.cell? ⟨w2.heap.size, 3, none⟩ = some (.slice Ad k cd) := hb8.cell 3; have f8 := hb8.free 3; have HM8 := Lib.hid hM8; have HF8 := Lib.hid (hF8 w2.heap.size HF.out HB0.out.size); clear hM8 hF8 hb8 hO8 hG8)
    | (go_simp; go_at_call 43; refine HN.out.mono ?_; rintro e w6 ⟨rfl, hd6, hB6⟩; have hb6 : Below W.heap.size W w6 := (below_drewN (Below.refl _ W) 1).trans hB6; have p6 : w6.cell? ⟨w2.heap.size, 3, none⟩ = some (.slice Ad k cd) := (HLt.out.below hb6).c3; have hb7 := hb6.trans ((below_a1 w6 (.cells #[.pointer (some ⟨W.heap.size + 1, 0, none⟩)] 94)).mono hb6.size); have HB7 := Lib.hid hb7; have pa : (w6.alloc (.cells #[.pointer (some ⟨W.heap.size + 1, 0, none⟩)] 94)).cell? ⟨w2.heap.size, 3, none⟩ = some (.slice Ad k cd) := (HLt.out.below hb7).c3; have HR7 := Lib.hid (hdr.out _ hb7); have HC7 := Lib.hid (cell_oneV w6 (.pointer (some ⟨W.heap.size + 1, 0, none⟩)) 94 w6.heap.size rfl); have HD7 := Lib.hid ((hd6.below (below_a1 w6 (.cells #[.pointer (some ⟨W.heap.size + 1, 0, none⟩)] 94))).low (Nat.zero_le _)); have HF7 : Hid (∀ q, footD (W.heap.size + 1, .slice none 0 0, W.heap.size) q → W.heap.size ≤ q) := Lib.hid (fun q hq => (hd6.foot_base hq).1); clear hd6 hB6 hb6 hb7))
   all_goals
    have hFin := Lib.hid (show (∃ dv ds, LtM (w8.setCell ⟨w2.heap.size, 3, none⟩ (.slice A8 (k + 1) c8)) w2.heap.size (.slice B1 D.length d1) (.slice B2 M.length d2) (.slice B3 V.length d3) dv (.slice none 0 0) ds [] ((levN D).take (k + 1)) (List.replicate (k + 1) []) D.length M.length [] 0 ∧ From w2.heap.size w2.heap.size dv (.slice none 0 0) ds []) ∧ Below w2.heap.size w2 (w8.setCell ⟨w2.heap.size, 3, none⟩ (.slice A8 (k + 1) c8)) from
     ⟨⟨_, _, by have h := HM8.out; rw [show (levN D).take k ++ [n'] = (levN D).take (k + 1) by rw [← hT.out, hll], show List.replicate k ([] : List Pth) ++ [[]] = List.replicate (k + 1) [] from List.replicate_succ'.symm] at h; exact h, HF8.out.1⟩, HB0.out.trans HF8.out.2⟩)
    clear HM8 HF8 p8 f8 p6 pa HB7 HR7 HC7 HD7 HF7 p0 HLt HF HN hdr HB0
    go_wp2_with fail
    go_roundw
    case rel => exact ⟨k + 1, by omega, by go_num, Lib.hid hFin.out.1, hFin.out.2⟩
    case measure => simp [intOf]; omega
  ·obtain rfl : k = n1 := by omega
   obtain ⟨dv, ds, hLt, hF⟩ := hO.out
   have hNl : (levN D).length = k := by unfold levN; rw [List.length_map, Hn.out.1]
   rw [List.take_of_length_le (by omega)] at hLt
   have hbs := HBl2.out.below hB hlt2
   have k0 := hbs.cell 0
   have k1 := hbs.cell 1
   have k2 := hbs.cell 2
   have HSr := Lib.hid (HS2.out.mv (Mv.below hB fun b hb => hb.2))
   have HVw := Lib.hid (views_any HSr.out.has (by omega) (by omega) HSm.out.v.2)
   have HLt := Lib.hid hLt
   have HF := Lib.hid hF
   clear hLt hF hO hbs
   go_wp2_with fail
   refine HVw.out.mono ?_
   rintro e w4 ⟨⟨v, rfl, hv⟩, hB4⟩
   obtain ⟨Av, cv, rfl, _⟩ := hv.form
   obtain ⟨nv, hnv⟩ : ∃ nv, Hid ((viewsP D V).length = nv) := ⟨_, Lib.hid rfl⟩
   have hnv7 : nv ≤ 7 := by have := HV7.out; rw [hnv.out] at this; exact this
   have hB5 := hB.trans (hB4.mono hB.size)
   have HL2 : Hid (∃ vv vs, LtM w4 w2.heap.size (.slice B1 D.length d1) (.slice B2 M.length d2) (.slice B3 V.length d3) dv vv ds vs (levN D) (List.replicate k []) D.length M.length (List.replicate 0 []) 0 ∧ From w2.heap.size w2.heap.size dv vv ds vs) := Lib.hid ⟨_, _, HLt.out.below hB4, HF.out⟩
   rw [hnv.out]
   clear hv HVw HLt HF hB4 hB
   go_wp2_with fail
   go_loopw [38] (fun i wr => ∃ j : Nat, j ≤ nv ∧ i = .int .i64 j ∧ Hid (∃ vv vs, LtM wr w2.heap.size (.slice B1 D.length d1) (.slice B2 M.length d2) (.slice B3 V.length d3) dv vv ds vs (levN D) (List.replicate k []) D.length M.length (List.replicate j []) 0 ∧ From w2.heap.size w2.heap.size dv vv ds vs) ∧ Below w2.heap.size w2 wr) (fun i _ => nv - (intOf i).toNat)
   case atStart => exact ⟨0, Nat.zero_le _, rfl, HL2, hB5⟩
   case round =>
    obtain ⟨j, hj, rfl, hO, hB⟩ := hrel
    by_cases hlt : j < nv
    ·have i0 : (0 : Int) ≤ (j : Int) := by omega
     have i1 : (j : Int) < (nv : Int) := by omega
     obtain ⟨vv, vs, hLt, hF⟩ := hO.out
     have hvl := hLt.cbs.len
     rw [List.length_replicate] at hvl
     obtain ⟨Ad, cd, edv⟩ := own_shape hLt.vr
     rw [hvl] at edv
     subst edv
     have p0 := hLt.c4
     have hLd := hLt.drewN 1
     have HN := Lib.hid (emptyL_any hLd.c0 hLd.c1 hdW.out (by have := hLd.blk.lt; exact this))
     have hdr := Lib.hid (show ∀ y, Below wr.heap.size wr y → y.ownsRow 0 96 1 (.slice Ad j cd) j (vs.map fun d => ptrV d.1) from fun y hy => by have := (hLt.below hy).vr; rwa [hvl] at this)
     have HLt := Lib.hid hLt
     have HF := Lib.hid hF
     have HB0 := Lib.hid hB
     clear hO hB hLt hF hLd
     go_wp2_with fail
     go_region_law (first
      | (refine step_appV rfl _ _ rfl info_clQ Tryz.underlying90 rfl (by decide) 0 (.slice Ad j cd) j _ rfl HR7.out _ rfl [.pointer (some ⟨gq, 0, none⟩)] rfl HC7.out (ptr_one _) (by omega) (Nat.zero_le _) ?_; intro v' w8 hO8 hG8; obtain ⟨A8, c8, e8⟩ := own_shape hO8; subst e8; obtain ⟨hb8, hM8, hF8⟩ := HLt.out.addC (c := (gq, bq)) (C := []) HB7.out HD7.out HF7.out (by rw [hvl]; exact hO8) hG8; have p8 : w8.cell? ⟨w2.heap.size, 4, none⟩ = some (.slice Ad j cd) := hb8.cell 4; have f8 := hb8.free 4; have HM8 := Lib.hid hM8; have HF8 := Lib.hid (hF8 w2.heap.size HF.out HB0.out.size); clear hM8 hF8 hb8 hO8 hG8)
      | (go_simp; go_at_call 45; refine HN.out.mono ?_; rintro e w6 ⟨⟨v, rfl, gq, bq, rfl, hd6, hg1, hg2⟩, hB6⟩; have hb6 : Below wr.heap.size wr w6 := (below_drewN (Below.refl _ wr) 1).trans hB6; have p6 : w6.cell? ⟨w2.heap.size, 4, none⟩ = some (.slice Ad j cd) := (HLt.out.below hb6).c4; have hb7 := hb6.trans ((below_a1 w6 (.cells #[.pointer (some ⟨gq, 0, none⟩)] 96)).mono hb6.size); have HB7 := Lib.hid hb7; have pa : (w6.alloc (.cells #[.pointer (some ⟨gq, 0, none⟩)] 96)).cell? ⟨w2.heap.size, 4, none⟩ = some (.slice Ad j cd) := (HLt.out.below hb7).c4; have HR7 := Lib.hid (hdr.out _ hb7); have HC7 := Lib.hid (cell_oneV w6 (.pointer (some ⟨gq, 0, none⟩)) 96 w6.heap.size rfl); have HD7 := Lib.hid (hd6.belowS (below_a1 w6 (.cells #[.pointer (some ⟨gq, 0, none⟩)] 96))); have HF7 : Hid (∀ q, footC (gq, bq) q → wr.heap.size ≤ q) := Lib.hid (fun q hq => by rcases hq with rfl | rfl; exact hg1; exact hg2); clear hd6 hB6 hb6 hb7 hg1 hg2))
     all_goals
      have hFin := Lib.hid (show (∃ vv vs, LtM (w8.setCell ⟨w2.heap.size, 4, none⟩ (.slice A8 (j + 1) c8)) w2.heap.size (.slice B1 D.length d1) (.slice B2 M.length d2) (.slice B3 V.length d3) dv vv ds vs (levN D) (List.replicate k []) D.length M.length (List.replicate (j + 1) []) 0 ∧ From w2.heap.size w2.heap.size dv vv ds vs) ∧ Below w2.heap.size w2 (w8.setCell ⟨w2.heap.size, 4, none⟩ (.slice A8 (j + 1) c8)) from
       ⟨⟨_, _, by have h := HM8.out; rw [show List.replicate j ([] : Cub) ++ [[]] = List.replicate (j + 1) [] from List.replicate_succ'.symm] at h; exact h, HF8.out.1⟩, HB0.out.trans HF8.out.2⟩)
      clear HM8 HF8 p8 f8 p6 pa HB7 HR7 HC7 HD7 HF7 p0 HLt HF HN hdr HB0
      go_wp2_with fail
      go_roundw
      case rel => exact ⟨j + 1, by omega, by go_num, Lib.hid hFin.out.1, hFin.out.2⟩
      case measure => simp [intOf]; omega
    ·obtain rfl : j = nv := by omega
     have hFin := Lib.hid (show TellNew w D M V (.returned (.tuple #[.pointer (some ⟨w2.heap.size, 0, none⟩), .int .i64 0])) wr from by
      obtain ⟨vv, vs, hLt, hF⟩ := hO.out
      have hw : Below w.heap.size w w2 := hB1'.trans (hB2.mono hB1'.size)
      refine ⟨w2.heap.size, footL w2.heap.size dv vv ds vs, fun q => w1.heap.size ≤ q ∧ q < w2.heap.size, rfl, ⟨dv, vv, ds, vs, B1, D.length, d1, B2, M.length, d2, B3, V.length, d3, ?_, ?_, fun _ => Iff.rfl, fun q hq hq' => ?_, HY.out, by rw [List.length_map]⟩, fun q hq => ?_, fun q hq => ⟨Nat.le_trans hB1'.size hq.1, Nat.lt_of_lt_of_le hq.2 hB.size⟩, hw.trans (hB.mono hw.size)⟩
      ·rw [show D.map (fun _ => ([] : List Pth)) = List.replicate k [] by rw [List.map_const', Hn.out.1], show (viewsP D V).map (fun _ => ([] : Cub)) = List.replicate j [] by rw [List.map_const', hnv.out]]
       exact hLt
      ·exact HSR.out.mv (Mv.below hB fun b hb => hb.2)
      ·have := hF q hq'
       omega
      ·have := hF q hq
       have := hw.size
       omega)
     clear hO hB
     go_wp2_with fail
     go_ret2
     exact hFin.out
end Go.Proofs.YtmepdkdeanbbaaaGreat
namespace Go.Proofs.YtmepdkdeanbbaaaGreat
set_option maxRecDepth 100000
open Go.RowKit

section
variable {w w' : World} {g : Nat} {X1 X2 X3 dv vv : Value} {ds : List DAt} {vs : List CAt} {N : List Nat} {Qs : List (List Pth)} {W m : Nat} {Cs : List Cub} {cnt : Int}
theorem map_set_same {α β : Type} {f : α → β} {L : List α} {i : Nat} {x y : α} (h : L[i]? = some x) (e : f y = f x) : (L.set i y).map f = L.map f := by
 refine List.ext_getElem? fun j => ?_
 rw [List.getElem?_map, List.getElem?_map, List.getElem?_set]
 by_cases hij : i = j
 ·subst hij
  rw [if_pos rfl, if_pos (List.getElem?_eq_some_iff.1 h).1, h]
  simp [e]
 ·rw [if_neg hij]
theorem LtM.setD (h : LtM w g X1 X2 X3 dv vv ds vs N Qs W m Cs cnt) {i : Nat} {d : DAt} (hi : ds[i]? = some d) (hc : Chg (footD d) w w') {pv' : Value} {Q' : List Pth} (hd : Dc w' 0 d.1 pv' d.2.2 (N.getD i 0) Q') (hf : ∀ k, pv'.ownBlock = some k → d.2.1.ownBlock = some k ∨ w.heap.size ≤ k) :
  LtM w' g X1 X2 X3 dv vv (ds.set i (d.1, pv', d.2.2)) vs N (Qs.set i Q') W m Cs cnt ∧ ∀ k, footL g dv vv (ds.set i (d.1, pv', d.2.2)) vs k → footL g dv vv ds vs k ∨ w.heap.size ≤ k := by
 have hm := List.mem_of_getElem? hi
 have hf' : ∀ k, footD (d.1, pv', d.2.2) k → footD d k ∨ w.heap.size ≤ k := by
  rintro k (hk | hk | hk)
  ·exact .inl (.inl hk)
  ·rcases hf k hk with h2 | h2
   ·exact .inl (.inr (.inl h2))
   ·exact .inr h2
  ·exact .inl (.inr (.inr hk))
 refine ⟨⟨h.blk.chg hc (h.d_g hm), ?_, hc.row h.vr fun k hk hk' => own_not_d h.vr (h.dcs.at_ i d hi) (by decide) (by decide) hk hk', h.dcs.set_ hi hc hd hf', h.cbs.chg hc fun c hc' k hk hk' => h.apart d hm c hc' k hk' hk, ?_⟩, ?_⟩
 ·rw [List.length_set, map_set_same (f := fun d : DAt => ptrV d.1) (y := (d.1, pv', d.2.2)) hi rfl]
  exact hc.row h.dr fun k hk hk' => own_not_d h.dr (h.dcs.at_ i d hi) (by decide) (by decide) hk hk'
 ·intro e he c hc' k hk hkc
  rcases List.mem_or_eq_of_mem_set he with he | rfl
  ·exact h.apart e he c hc' k hk hkc
  ·rcases hf' k hk with h2 | h2
   ·exact h.apart d hm c hc' k h2 hkc
   ·have := h.cbs.lt hc' hkc; omega
 ·rintro k (hk | hk | hk | ⟨e, he, hk⟩ | hk)
  ·exact .inl (.inl hk)
  ·exact .inl (.inr (.inl hk))
  ·exact .inl (.inr (.inr (.inl hk)))
  ·rcases List.mem_or_eq_of_mem_set he with he | rfl
   ·exact .inl (.inr (.inr (.inr (.inl ⟨e, he, hk⟩))))
   ·rcases hf' k hk with h2 | h2
    ·exact .inl (.inr (.inr (.inr (.inl ⟨d, hm, h2⟩))))
    ·exact .inr h2
  ·exact .inl (.inr (.inr (.inr (.inr hk))))
theorem own_chgD {B size n' : Nat} {e : TypeId} {v : Value} {xs : List Value} {base n : Nat} {Q : List Pth} {d : DAt} (hr : w.ownsRow B e size v n' xs) (hD : Dc w base d.1 d.2.1 d.2.2 n Q) (hc : Chg (footD d) w w') (h1 : e ≠ 160) (h2 : e ≠ 168) : w'.ownsRow B e size v n' xs := hc.row hr fun _ hk hk' => own_not_d hr hD h1 h2 hk hk'
end
structure Coming (w0 : World) (F0 : Nat → Prop) (w : World) (g : Nat) (X1 X2 X3 dv vv : Value) (ds : List DAt) (vs : List CAt) (N : List Nat) (Qs : List (List Pth)) (W m : Nat) (Cs : List Cub) (cnt : Int) : Prop where
 lt : LtM w g X1 X2 X3 dv vv ds vs N Qs W m Cs cnt
 chg : Chg F0 w0 w
 foot : ∀ k, footL g dv vv ds vs k → F0 k ∨ w0.heap.size ≤ k
section
variable {w0 w w' : World} {F0 : Nat → Prop} {g : Nat} {X1 X2 X3 dv vv : Value} {ds : List DAt} {vs : List CAt} {N : List Nat} {Qs : List (List Pth)} {W m : Nat} {Cs : List Cub} {cnt : Int}
theorem Coming.begin (h : LtM w g X1 X2 X3 dv vv ds vs N Qs W m Cs cnt) : Coming w (footL g dv vv ds vs) w g X1 X2 X3 dv vv ds vs N Qs W m Cs cnt := ⟨h, Chg.refl _ _, fun _ hk => .inl hk⟩
theorem Coming.below (h : Coming w0 F0 w g X1 X2 X3 dv vv ds vs N Qs W m Cs cnt) (hb : Below w.heap.size w w') : Coming w0 F0 w' g X1 X2 X3 dv vv ds vs N Qs W m Cs cnt :=
 ⟨h.lt.below hb, h.chg.trans (S' := fun _ => False) (Chg.of_below hb (Nat.le_refl _)) (fun _ _ h => h.elim), h.foot⟩
theorem Coming.grew (h : Coming w0 F0 w g X1 X2 X3 dv vv ds vs N Qs W m Cs cnt) {v v' : Value} {B size n : Nat} {e : TypeId} {xs : List Value} (hr : w.ownsRow B e size v n xs) (hG : Grew w v w' v') (hB : w0.heap.size ≤ B) (h1 : ¬ isLat (.cells #[] e (0, 0))) : Coming w0 F0 w' g X1 X2 X3 dv vv ds vs N Qs W m Cs cnt := by
 have hc := chg_grew hG
 refine ⟨h.lt.chg hc fun k hk hv => ?_, h.chg.trans hc fun k hk hv => ?_, h.foot⟩
 ·obtain ⟨o, ho, hl⟩ := h.lt.kind hk
  obtain ⟨cs, fr, he⟩ := own_kind hr hv
  rw [he] at ho
  rw [← Option.some.inj ho] at hl
  exact h1 hl
 ·have := (World.ownsRow.lt hr k hv).1
  omega
theorem Coming.setD (h : Coming w0 F0 w g X1 X2 X3 dv vv ds vs N Qs W m Cs cnt) {i : Nat} {d : DAt} (hi : ds[i]? = some d) (hc : Chg (footD d) w w') {pv' : Value} {Q' : List Pth} (hd : Dc w' 0 d.1 pv' d.2.2 (N.getD i 0) Q') (hf : ∀ k, pv'.ownBlock = some k → d.2.1.ownBlock = some k ∨ w.heap.size ≤ k) :
  Coming w0 F0 w' g X1 X2 X3 dv vv (ds.set i (d.1, pv', d.2.2)) vs N (Qs.set i Q') W m Cs cnt := by
 obtain ⟨h1, h2⟩ := h.lt.setD hi hc hd hf
 have hz := h.chg.size
 refine ⟨h1, h.chg.trans hc fun k hk hd' => ?_, fun k hk => ?_⟩
 ·rcases h.foot k (.inr (.inr (.inr (.inl ⟨d, List.mem_of_getElem? hi, hd'⟩)))) with h3 | h3
  ·exact h3
  ·omega
 ·rcases h2 k hk with h3 | h3
  ·exact h.foot k h3
  ·exact .inr (by omega)
theorem Coming.mv (h : Coming w0 F0 w g X1 X2 X3 dv vv ds vs N Qs W m Cs cnt) {S : Nat → Prop} (hS : ∀ b, S b → ¬ F0 b) : Mv w0 (fun b => S b ∧ b < w0.heap.size) w (fun b => S b ∧ b < w0.heap.size) := fun b hb hl => ⟨h.chg.block b hl (hS b hb.1), hb⟩
theorem Coming.far (h : Coming w0 F0 w g X1 X2 X3 dv vv ds vs N Qs W m Cs cnt) {S : Nat → Prop} (hS : ∀ b, S b → ¬ F0 b) {b : Nat} (hb : S b ∧ b < w0.heap.size) : ¬ footL g dv vv ds vs b := fun hk => by
 rcases h.foot b hk with h1 | h1
 ·exact hS b hb.1 h1
 ·omega
end
section
variable {w0 w1 w w' : World} {F0 : Nat → Prop} {g : Nat} {X1 X2 X3 dv vv : Value} {ds ds1 : List DAt} {vs : List CAt} {N : List Nat} {Qs Rs : List (List Pth)} {W m : Nat} {Cs : List Cub} {cnt : Int}
theorem Coming.trans (h : Coming w0 F0 w1 g X1 X2 X3 dv vv ds1 vs N Rs W m Cs cnt) (h' : Coming w1 (footL g dv vv ds1 vs) w g X1 X2 X3 dv vv ds vs N Qs W m Cs cnt) : Coming w0 F0 w g X1 X2 X3 dv vv ds vs N Qs W m Cs cnt := by
 have hz := h.chg.size
 refine ⟨h'.lt, h.chg.trans h'.chg fun k hk hf => ?_, fun k hk => ?_⟩
 ·rcases h.foot k hf with h1 | h1
  ·exact h1
  ·omega
 ·rcases h'.foot k hk with h1 | h1
  ·exact h.foot k h1
  ·exact .inr (by omega)
theorem own_chgL {B size n' : Nat} {e : TypeId} {v : Value} {xs : List Value} (hr : w.ownsRow B e size v n' xs) (hL : LtM w g X1 X2 X3 dv vv ds vs N Qs W m Cs cnt) (hc : Chg (footL g dv vv ds vs) w w') (h1 : ¬ isLat (.cells #[] e (0, 0))) : w'.ownsRow B e size v n' xs := hc.row hr fun k hk hk' => by
 obtain ⟨o, ho, hl⟩ := hL.kind hk'
 obtain ⟨cs, fr, he⟩ := own_kind hr hk
 rw [he] at ho
 rw [← Option.some.inj ho] at hl
 exact h1 hl
theorem noLat_int : ¬ isLat (.cells #[] 3 (0, 0)) := by unfold isLat; decide
theorem noLat_ints : ¬ isLat (.cells #[] 47 (0, 0)) := by unfold isLat; decide
theorem OwnLs.chgL {B : Nat} {v : Value} {L : List (List Int)} (h : OwnLs w B v L) (hL : LtM w g X1 X2 X3 dv vv ds vs N Qs W m Cs cnt) (hc : Chg (footL g dv vv ds vs) w w') : OwnLs w' B v L := by
 obtain ⟨xs, h1, h2⟩ := h
 exact ⟨xs, own_chgL h1 hL hc noLat_ints, fun i q hi => by
  obtain ⟨x, e, hx⟩ := h2 i q hi
  exact ⟨x, e, own_chgL hx hL hc noLat_int⟩⟩
end
end Go.Proofs.YtmepdkdeanbbaaaGreat
namespace Go.Proofs.YtmepdkdeanbbaaaGreat
set_option maxRecDepth 100000
open Go.RowKit

def ComePost (w : World) (F0 : Nat → Prop) (g : Nat) (X1 X2 X3 dv vv : Value) (vs : List CAt) (N : List Nat) (Qs : List (List Pth)) (W m : Nat) (Cs : List Cub) (cnt : Int) (G : List Fct) (e : Ending) (w' : World) : Prop :=
 ∃ ds' Qs', Coming w F0 w' g X1 X2 X3 dv vv ds' vs N Qs' W m Cs cnt ∧ (((addsD N Qs G).2 = 0 ∧ Qs' = (addsD N Qs G).1 ∧ ∃ v, e = .returned (.tuple #[v, .int .i64 0]) ∧ OwnLs w' w.heap.size v (keysG N Qs' G)) ∨ ((addsD N Qs G).2 ≠ 0 ∧ e = .returned (.tuple #[.slice none 0 0, .int .i64 (((addsD N Qs G).2 : Nat) : Int)])))
set_option maxRecDepth 100000 in
set_option maxHeartbeats 4000000 in
theorem comeL_any {w : World} {g : Nat} {X1 X2 X3 dv vv : Value} {ds : List DAt} {vs : List CAt} {N : List Nat} {Qs : List (List Pth)} {W m : Nat} {Cs : List Cub} {cnt : Int} (h : LtM w g X1 X2 X3 dv vv ds vs N Qs W m Cs cnt) {S : Nat → Prop} {A : Option Addr} {n c : Nat} {G : List Fct} (hF : HasF w S A n c G) (hS : ∀ b, S b → ¬ footL g dv vv ds vs b) (hn : n ≤ 1000) (hG : ∀ f ∈ G, f.1.length = N.length) (hN : N.length ≤ 3) :
  Calls Tryz.prog 50 #[.pointer (some ⟨g, 0, none⟩), .slice A n c] w (ComePost w (footL g dv vv ds vs) g X1 X2 X3 dv vv vs N Qs W m Cs cnt G) := by
 have HF : Hid (HasF w (fun b => S b ∧ b < w.heap.size) A n c G) := Lib.hid (hF.mv elFct_ok (Mv.to w fun b hb hl => ⟨hb, hl⟩))
 obtain ⟨F0, hF0⟩ : ∃ F0, Hid (footL g dv vv ds vs = F0) := ⟨_, Lib.hid rfl⟩
 have hC0 := Coming.begin h
 rw [hF0.out] at hC0 hS ⊢
 have HC0 := Lib.hid hC0
 have HG := Lib.hid hG
 have Hgood := Lib.hid h.dcs.good
 have HNl := Lib.hid hN
 have HS := Lib.hid hS
 have Hlen := Lib.hid hF.len
 obtain ⟨Ad, cd, edv, _, _⟩ := h.lenD
 subst edv
 clear h hF hC0 hG hS
 go_enter Tryz.func50, Tryz.ntmps50
 go_wp2_with fail
 go_loopw [6, 16] (fun kv i wr => ∃ (k : Nat) (ds1 : List DAt) (Rs : List (List Pth)), k ≤ n ∧ i = .int .i64 k ∧ Hid (Coming w F0 wr g X1 X2 X3 (.slice Ad N.length cd) vv ds1 vs N Rs W m Cs cnt ∧ addsD N Qs (G.take k) = (Rs, 0) ∧ OwnLs wr w.heap.size kv (keysG N Rs (G.take k)))) (fun _ i _ => n - (intOf i).toNat)
 case atStart => exact ⟨0, ds, Qs, Nat.zero_le _, rfl, Lib.hid ⟨HC0.out, rfl, OwnLs.nil_ _ _⟩⟩
 case round =>
  obtain ⟨k, ds1, Rs, hk, rfl, hO⟩ := hrel
  by_cases hlt : k < n
  ·obtain ⟨b, o, A1, n1, c1, A2, n2, c2, P, q, rfl, hSb, hbl, g0w, g1w, hp, _, he⟩ := HF.out.at2 hlt
   obtain ⟨hCm, hAd, hKs⟩ := hO.out
   have hkb := hCm.chg.block b hbl (HS.out b hSb.1)
   have g0 : wr.cell? ⟨b, o + k * 2, none⟩ = some (.slice A1 n1 c1) := (World.cell?_of_block hkb).trans g0w
   have g1 : wr.cell? ⟨b, o + k * 2 + 1, none⟩ = some (.slice A2 n2 c2) := (World.cell?_of_block hkb).trans g1w
   have i0 : (0 : Int) ≤ (k : Int) := by omega
   have i1 : (k : Int) < (n : Int) := by omega
   have hb1 := below_a1 wr (.cells #[.slice A1 n1 c1, .slice A2 n2 c2] 83)
   have f0 := (Block.new wr 83 #[.slice A1 n1 c1, .slice A2 n2 c2]).cell 0
   have HCm := Lib.hid (hCm.below hb1)
   have HKs := Lib.hid (hKs.below hb1)
   have hzw := hCm.chg.size
   have hzb := hb1.size
   have HAd := Lib.hid hAd
   have hPl := HG.out _ (List.mem_of_getElem? he.out)
   have hPn : n1 = N.length := by rw [← hPl]; exact hp.len.symm
   subst hPn
   have HP := Lib.hid hp
   have HPl : Hid (P.length = N.length) := Lib.hid hPl
   have hga := addsD_all Hgood.out hAd
   have HGa := Lib.hid hga
   have hRl : Hid (Rs.length = N.length) := Lib.hid hga.1.len
   clear hO hCm hAd hKs hkb g0w g1w hp hPl hga hbl
   go_wp2_with fail
   generalize wr.alloc (.cells #[.slice A1 N.length c1, .slice A2 n2 c2] 83) = W0 at hb1 f0 HCm HKs hzb ⊢
   have HL0 := Lib.hid (Coming.begin HCm.out.lt)
   go_loopw [9, 23] (fun kv2 i2 w2 => ∃ (j : Nat) (ds2 : List DAt), j ≤ N.length ∧ i2 = .int .i64 j ∧ Hid (Coming W0 (footL g (.slice Ad N.length cd) vv ds1 vs) w2 g X1 X2 X3 (.slice Ad N.length cd) vv ds2 vs N (comeD N Rs P j) W m Cs cnt ∧ (∀ i, i < j → addEj N Rs P i = 0) ∧ OwnI w2 W0.heap.size kv2 ((keyC (addD N Rs P) (bseN N) P).take j))) (fun _ i _ => N.length - (intOf i).toNat)
   case atStart => exact ⟨0, ds1, Nat.zero_le _, rfl, Lib.hid ⟨by rw [comeD_zero]; exact HL0.out, fun i hi => absurd hi (by omega), OwnI.nil_ _ _⟩⟩
   case round =>
    obtain ⟨j, ds2, hj, rfl, hO2⟩ := hrel
    by_cases hlt2 : j < N.length
    ·obtain ⟨hC2, hE2, hK2⟩ := hO2.out
     have hCC := HCm.out.trans hC2
     obtain ⟨b1, o1, A', n', c', p, rfl, hSb1, _, gp, hpp, hpe⟩ := (HP.out.mv elPath_ok (hCC.mv HS.out)).at1 hlt2
     obtain ⟨Ad', cd', edv, hdl, hat⟩ := hC2.lt.lenD
     injection edv with e1 _ e3
     subst e1 e3
     obtain ⟨d, hdk⟩ : ∃ d, Hid (ds2[j]? = some d) := ⟨_, Lib.hid (List.getElem?_eq_getElem (by omega))⟩
     obtain ⟨bd, rfl, _, _, gd⟩ := hat j d hdk.out
     have c3 := hC2.lt.c3
     have hD := hC2.lt.dcs.at_ j d hdk.out
     rw [comeD_get hRl.out HPl.out hlt2] at hD
     have epj : P.getD j [] = p := by rw [List.getD_eq_getElem?_getD, hpe.out]; rfl
     have hfar : 0 < n' → ∀ ad, A' = some ad → ¬ foot d.1 d.2.1 d.2.2 ad.block := fun hn' ad ead hf => by
      obtain ⟨b9, o9, _, _, e9, hS9, _⟩ := hpp.at_ hn'
      rw [ead] at e9
      injection e9 with e9
      rw [e9] at hf
      exact hCC.far HS.out hS9 (.inr (.inr (.inr (.inl ⟨d, List.mem_of_getElem? hdk.out, hf⟩))))
     obtain ⟨er, her⟩ : ∃ er, Hid (addE (N.getD j 0) (Rs.getD j []) p = er) := ⟨_, Lib.hid rfl⟩
     have hX := add_any hD hpp.hasT hfar
     unfold AddPost at hX
     rw [her.out] at hX
     have hej : Hid (addEj N Rs P j = er) := Lib.hid (by show addE _ _ (P.getD j []) = er; rw [epj]; exact her.out)
     have HQj : Hid (addQ (N.getD j 0) (Rs.getD j []) p = addQj N Rs P j) := Lib.hid (by show _ = addQ _ _ (P.getD j []); rw [epj])
     have j0 : (0 : Int) ≤ (j : Int) := by omega
     have j1 : (j : Int) < (N.length : Int) := by omega
     have hnj := (Hgood.out.get hlt2).lv
     have HC2 := Lib.hid hC2
     have HE2 := Lib.hid hE2
     have HK2 := Lib.hid hK2
     have HD := Lib.hid hD
     by_cases hez : er = 0
     ·subst hez
      have HX := Lib.hid hX
      clear hX hfar hO2 hC2 hE2 hK2 hD hpp hat hCC
      go_wp2_with fail
      refine HX.out.mono ?_
      rintro e w3 ⟨v3, pv3, rfl, hT3, hD3, hch3, hown3⟩
      rw [HQj.out] at hD3
      have hC3 := HC2.out.setD hdk.out hch3 hD3 hown3
      rw [comeD_succ hRl.out HPl.out hlt2] at hC3
      obtain ⟨A3, m3, c3', rfl, hI3, _⟩ := hT3.read
      obtain ⟨hl3, hv3⟩ := addC_last her.out hnj.1
      have hm3 : m3 = N.getD j 0 := by rw [← hl3]; exact hI3.len.symm
      obtain ⟨r, hr⟩ : ∃ r, Hid (N.getD j 0 = r + 1) := ⟨N.getD j 0 - 1, Lib.hid (by omega)⟩
      rw [hr.out] at hm3 hv3
      subst hm3
      rw [Nat.add_sub_cancel] at hv3
      obtain ⟨b3, o3, x3, rfl, _, gx, ex3⟩ := hI3.at_ (k := r) (by omega)
      rw [hr.out] at ex3
      have hx3 : Hid (x3 = ((fnd (addQj N Rs P j) (P.getD j []) : Nat) : Int)) := Lib.hid (by rw [ex3.out, hv3, epj, ← hr.out, HQj.out])
      have hK3 : OwnI w3 W0.heap.size u9 ((keyC (addD N Rs P) (bseN N) P).take j) := own_chgD HK2.out HD.out hch3 (by decide) (by decide)
      have hb4 := below_a1 w3 (.cells #[.int .i64 x3] 3)
      have hC4 := hC3.below hb4
      have hK4 := World.ownsRow.alloc hK3 (.cells #[.int .i64 x3] 3)
      have HC4 := Lib.hid hC4
      have HK4 : Hid (OwnI (w3.alloc (.cells #[.int .i64 x3] 3)) W0.heap.size u9 ((keyC (addD N Rs P) (bseN N) P).take j)) := Lib.hid hK4
      have hrr : (r : Int) + 1 - 1 = (r : Int) := by omega
      have hr0 : (0 : Int) ≤ (r : Int) := by omega
      have hr2 : r ≤ 2 := by have := hr.out; omega
      have hr1 : (r : Int) < (r : Int) + 1 := by omega
      have hlk : Hid (((keyC (addD N Rs P) (bseN N) P).take j).length ≤ 1000000) := Lib.hid (Nat.le_trans (List.length_take_le j _) (by have := HNl.out; omega))
      have hbs : Hid (W0.heap.size ≤ (w3.alloc (.cells #[.int .i64 x3] 3)).heap.size) := Lib.hid hC4.chg.size
      have HPlj : Hid ((P.getD j []).length = N.getD j 0) := Lib.hid (by rw [epj]; exact (addE_ok her.out).1.1)
      clear hT3 hD3 hch3 hown3 hC3 hI3 hK3 hC4 hK4 HX hv3 hl3 epj
      go_wp2_with (at_builtin; refine wpList_appI rfl _ _ rfl W0.heap.size _ _ rfl HK4.out _ rfl x3 (cell_lit _ _ _ _ rfl) hlk.out hbs.out ?_)
      intro v4 w4 hO5 hG5
      have hF5 := Lib.hid (show Coming W0 (footL g (.slice (some ⟨bd, 0, none⟩) N.length cd) vv ds1 vs) w4 g X1 X2 X3 (.slice (some ⟨bd, 0, none⟩) N.length cd) vv (ds2.set j (d.1, pv3, d.2.2)) vs N (comeD N Rs P (j + 1)) W m Cs cnt ∧ (∀ i, i < j + 1 → addEj N Rs P i = 0) ∧ OwnI w4 W0.heap.size v4 ((keyC (addD N Rs P) (bseN N) P).take (j + 1)) from
       ⟨HC4.out.grew HK4.out hG5 (Nat.le_refl _) noLat_int, fun i hi => by
        by_cases hij : i < j
        ·exact HE2.out i hij
        ·obtain rfl : i = j := by omega
         exact hej.out, by rw [← key_at hRl.out HPl.out hlt2 HPlj.out, ← hx3.out]; exact hO5⟩)
      clear hO5 hG5 hb4
      go_wp2_with fail
      go_roundw
      case rel => exact ⟨j + 1, _, by omega, by go_num, hF5⟩
      case measure => simp [intOf]; omega
     ·have hne : ((er : Int) != 0) = true := by simpa using hez
      have HX := Lib.hid hX
      have hstop : addsD N Qs G = (Rs, er) := by
       have h1 := addsD_snoc he.out HAd.out
       have h2 := errD_at hlt2 hRl.out HPl.out hE2 (by rw [hej.out]; exact hez)
       rw [h2, hej.out, if_pos hez] at h1
       have h3 := addsD_stop (N := N) (Qs := Qs) (G := G) (i := k + 1) (by rw [h1]; exact hez)
       rw [h3, h1]
      have Hst := Lib.hid hstop
      clear hX hfar hO2 hC2 hE2 hK2 hD hpp hat hCC hez hstop
      go_wp2_with fail
      refine HX.out.mono ?_
      rintro e w3 ⟨v3, pv3, rfl, hT3, hD3, hch3, hown3⟩
      have hC3 := HC2.out.setD hdk.out hch3 hD3 hown3
      have hF5 := Lib.hid (show ComePost w F0 g X1 X2 X3 (.slice (some ⟨bd, 0, none⟩) N.length cd) vv vs N Qs W m Cs cnt G (.returned (.tuple #[.slice none 0 0, .int .i64 (er : Int)])) w3 from ⟨_, _, HCm.out.trans hC3, .inr ⟨by rw [Hst.out]; intro e0; subst e0; simp at hne, by rw [Hst.out]⟩⟩)
      clear hT3 hD3 hch3 hown3 hC3 HX
      go_wp2_with fail
      go_ret2
      exact hF5.out
    ·obtain rfl : j = N.length := by omega
     obtain ⟨hC2, hE2, hK2⟩ := hO2.out
     rw [comeD_all hRl.out HPl.out] at hC2
     have hal := addD_len hRl.out HPl.out
     rw [List.take_of_length_le (by rw [keyC_len (by rw [bseN_len]; omega) (by rw [HPl.out, hal]), hal]; exact Nat.le_refl _)] at hK2
     have hed := errD_none hRl.out HPl.out hE2
     have hsn := addsD_snoc he.out HAd.out
     rw [if_neg (fun h => h hed)] at hsn
     obtain ⟨hg1, hg2, hg3⟩ := HGa.out
     have hkg : keysG N (addD N Rs P) (G.take k) = keysG N Rs (G.take k) := keysG_grown (addD_grown N Rs P) (addD_good P hg1).noNil fun f hf => hg3 _ (bseN_lev N) f hf (HG.out f (List.mem_of_mem_take hf))
     have hks := keysG_snoc (N := N) (Rs := addD N Rs P) he.out
     have hKs2 := HKs.out.chgL HL0.out.lt hC2.chg
     have hzz := hC2.chg.size
     have hK2' := OwnI.low hK2 (show w.heap.size ≤ W0.heap.size by omega)
     obtain ⟨Ak, ck, ek, _⟩ := hK2'.form
     obtain ⟨lk, hlk⟩ : ∃ lk, Hid ((keyC (addD N Rs P) (bseN N) P).length = lk) := ⟨_, Lib.hid rfl⟩
     rw [hlk.out] at ek
     subst ek
     have hb4 := below_a1 wr (.cells #[.slice Ak lk ck] 47)
     have HC4 := Lib.hid (hC2.below hb4)
     have HK4 := Lib.hid (show OwnI (wr.alloc (.cells #[.slice Ak lk ck] 47)) w.heap.size (.slice Ak lk ck) (keyC (addD N Rs P) (bseN N) P) from World.ownsRow.alloc hK2' _)
     have HKs4 := Lib.hid (hKs2.below hb4)
     have hlq : Hid ((keysG N Rs (G.take k)).length ≤ 1000000) := Lib.hid (by unfold keysG; rw [List.length_map]; exact Nat.le_trans (List.length_take_le k _) (by omega))
     have hbs : Hid (w.heap.size ≤ (wr.alloc (.cells #[.slice Ak lk ck] 47)).heap.size) := Lib.hid (by rw [World.size_alloc]; omega)
     have hEnd := Lib.hid (show keysG N Rs (G.take k) ++ [keyC (addD N Rs P) (bseN N) P] = keysG N (addD N Rs P) (G.take (k + 1)) from by rw [← hkg]; exact hks)
     have Hsn := Lib.hid hsn
     clear hO2 hC2 hE2 hK2 hK2' hKs2 hkg hks hg1 hg2 hg3 hed hsn hb4 hal
     go_wp2_with (at_builtin; refine wpList_appLs rfl _ _ rfl w.heap.size _ _ rfl HKs4.out _ rfl _ _ (cell_litT wr (.slice Ak lk ck) 47 _ rfl) HK4.out hlq.out hbs.out ?_)
     intro v4 w4 hO5 hG5
     have hrow : ∃ xs, (wr.alloc (.cells #[.slice Ak lk ck] 47)).ownsRow w.heap.size 47 1 u6 (keysG N Rs (G.take k)).length xs := by
      obtain ⟨xs, h1, _⟩ := HKs4.out
      exact ⟨xs, h1⟩
     obtain ⟨xs, hrow⟩ := hrow
     have hF5 := Lib.hid (show Coming w F0 w4 g X1 X2 X3 (.slice Ad N.length cd) vv ds2 vs N (addD N Rs P) W m Cs cnt ∧ addsD N Qs (G.take (k + 1)) = (addD N Rs P, 0) ∧ OwnLs w4 w.heap.size v4 (keysG N (addD N Rs P) (G.take (k + 1))) from
      ⟨(HCm.out.trans HC4.out).grew hrow hG5 (Nat.le_refl _) noLat_ints, Hsn.out, by rw [← hEnd.out]; exact hO5⟩)
     clear hO5 hG5 hrow
     go_wp2_with fail
     go_roundw
     case rel => exact ⟨k + 1, _, _, by omega, by go_num, hF5⟩
     case measure => simp [intOf]; omega
  ·obtain rfl : k = n := by omega
   have hF5 := Lib.hid (show ComePost w F0 g X1 X2 X3 (.slice Ad N.length cd) vv vs N Qs W m Cs cnt G (.returned (.tuple #[u6, .int .i64 0])) wr from by
    obtain ⟨hCm, hAd, hKs⟩ := hO.out
    rw [List.take_of_length_le (by have := Hlen.out; omega)] at hAd hKs
    exact ⟨_, _, hCm, .inl ⟨by rw [hAd], by rw [hAd], _, rfl, hKs⟩⟩)
   clear hO
   go_wp2_with fail
   go_ret2
   exact hF5.out
end Go.Proofs.YtmepdkdeanbbaaaGreat
namespace Go.Proofs.YtmepdkdeanbbaaaGreat
set_option maxRecDepth 100000
open Go.RowKit

theorem upA_in {Q : List Pth} {c k : Int} (hc : 0 ≤ c ∧ c ≤ (Q.length : Int)) (hk : 0 ≤ k ∧ k ≤ ((pth Q c.toNat).length : Int)) : upA Q c k = (fnd Q ((pth Q c.toNat).take k.toNat), 0) := by
 unfold upA
 rw [if_pos hc, if_pos hk]
set_option maxRecDepth 100000 in
set_option maxHeartbeats 2000000 in
theorem upL_any {w : World} {g : Nat} {X1 X2 X3 dv vv : Value} {ds : List DAt} {vs : List CAt} {N : List Nat} {Qs : List (List Pth)} {W m : Nat} {Cs : List Cub} {cnt : Int} (h : LtM w g X1 X2 X3 dv vv ds vs N Qs W m Cs cnt) (hN : N.length ≤ 3) {A A' : Option Addr} {n c n' c' : Nat} {K v : List Int} (hK : HasI w w.heap.size A n c K) (hV : HasI w w.heap.size A' n' c' v) (hf : fullK N Qs K) (hv : LevD N v) :
  Calls Tryz.prog 165 #[.pointer (some ⟨g, 0, none⟩), .slice A n c, .slice A' n' c'] w (TellJ w (upB Qs K v)) := by
 obtain ⟨Ad, cd, edv, hdl, hat⟩ := h.lenD
 subst edv
 have hnl : n = N.length := by rw [← (fullK_len hf).2]; exact hK.len.symm
 have hnl' : n' = N.length := by rw [← hv.len]; exact hV.len.symm
 subst hnl hnl'
 have HK := Lib.hid hK
 have HV := Lib.hid hV
 have HM := Lib.hid h
 have HA := Lib.hid hat
 have HPl := Lib.hid (upB_len hf hv)
 have HPg := Lib.hid (fun i (hi : i < N.length) => upB_get hf hv hi)
 have HFk := Lib.hid (fun i (hi : i < N.length) => fullK_get hf hi)
 have HLv := Lib.hid (fun i (hi : i < N.length) => hv.get hi)
 have hmk : ∀ W : World, (Instr.makeSlice 47 (.int .i64 (N.length : Int)) (.int .i64 (N.length : Int))).run Tryz.prog W = .ok (.slice (some ⟨W.heap.size, 0, none⟩) N.length N.length) (W.alloc (.cells (zOne (.int .i64 0) N.length) 3)) := fun W => make_one rfl info_int Tryz.underlying47 (by decide) N.length W (by omega)
 have hM0 := Lib.hid (OwnMix.begin (E := elInt) (S := fun b => w.heap.size ≤ b) (own_zOne w 3 (.int .i64 0) N.length (by omega)) HPl.out)
 have hb0 := below_a1 w (.cells (zOne (.int .i64 0) N.length) 3)
 clear h hK hV hat hf hv
 go_enter Tryz.func165, Tryz.ntmps165
 go_wp2_with fail
 clear hmk
 generalize w.alloc (.cells (zOne (.int .i64 0) N.length) 3) = W0 at hM0 hb0 ⊢
 go_loopw [15] (fun i wr => ∃ k : Nat, k ≤ N.length ∧ i = .int .i64 k ∧ Hid (OwnMix elInt 3 1 wr w.heap.size (fun b => w.heap.size ≤ b) (.slice (some ⟨w.heap.size, 0, none⟩) N.length N.length) N.length (upB Qs K v) (List.replicate N.length (.int .i64 0)) k) ∧ Below w.heap.size w wr) (fun i _ => N.length - (intOf i).toNat)
 case atStart => exact ⟨0, Nat.zero_le _, rfl, hM0, hb0⟩
 case round =>
  obtain ⟨k, hk, rfl, hO, hB⟩ := hrel
  by_cases hlt : k < N.length
  ·have i0 : (0 : Int) ≤ (k : Int) := by omega
   have i1 : (k : Int) < (N.length : Int) := by omega
   obtain ⟨b, o, x, rfl, hbl, hcell, ex⟩ := HK.out.at_ hlt
   have g0 : wr.cell? ⟨b, o + k, none⟩ = some (.int .i64 x) := (hB.cell (p := ⟨b, o + k, none⟩) hbl).trans hcell
   obtain ⟨b', o', y, rfl, hbl', hcell', ey⟩ := HV.out.at_ hlt
   have g2 : wr.cell? ⟨b', o' + k, none⟩ = some (.int .i64 y) := (hB.cell (p := ⟨b', o' + k, none⟩) hbl').trans hcell'
   obtain ⟨d, hdk⟩ : ∃ d, Hid (ds[k]? = some d) := ⟨_, Lib.hid (List.getElem?_eq_getElem (by omega))⟩
   obtain ⟨bd, rfl, _, hbd, hcd⟩ := HA.out k d hdk.out
   have g1 : wr.cell? ⟨bd, k, none⟩ = some (.pointer (some ⟨d.1, 0, none⟩)) := (hB.cell (p := ⟨bd, k, none⟩) hbd).trans hcd
   have c3 := (HM.out.below hB).c3
   have hfk := HFk.out k hlt
   have hlv := HLv.out k hlt
   have hpg := HPg.out k hlt
   rw [← ex.out] at hfk hpg
   rw [← ey.out] at hlv hpg
   have hup := upA_in (Q := Qs.getD k []) (c := x) (k := y) ⟨by omega, hfk.2.1⟩ ⟨hlv.1, by rw [hfk.2.2]; exact hlv.2⟩
   obtain ⟨z, hz⟩ : ∃ z, Hid (fnd (Qs.getD k []) ((pth (Qs.getD k []) x.toNat).take y.toNat) = z) := ⟨_, Lib.hid rfl⟩
   rw [hz.out] at hup hpg
   have hpe : Hid ((upB Qs K v)[k]? = some (z : Int)) := Lib.hid (by
    obtain ⟨q, hq⟩ : ∃ q, (upB Qs K v)[k]? = some q := ⟨_, List.getElem?_eq_getElem (by rw [HPl.out]; exact hlt)⟩
    rw [List.getD_eq_getElem?_getD, hq] at hpg
    rw [hq]
    exact congrArg some hpg)
   have hX := dup_any (((HM.out.dcs.at_ k d hdk.out).below hB).drewN 1) x y (Lib.hid hup)
   have HX := Lib.hid hX
   have hO1 := hO
   have hlo := hO.out.lt
   clear hcell hcell' hcd hfk hlv hpg hup hX hO
   go_wp2_with fail
   go_region_with (go_at_call 218; refine HX.out.mono ?_; rintro e w5 ⟨rfl, hb5⟩; have hb5' : Below wr.heap.size wr w5 := (below_drewN (Below.refl _ wr) 1).trans hb5; have hO5 := Lib.hid (hO1.out.below elInt_ok hb5'); have c0 : w5.cell? ⟨w.heap.size, k, none⟩ = some (.int .i64 0) := (hO5.out.old (j := k) (by omega) (by omega)).trans (by rw [List.getElem?_replicate, if_pos hlt]); have f0 := hO5.out.free k; have HB5 := Lib.hid (hB.trans (hb5'.mono hB.size)); clear hb5 hb5')
   all_goals
    have hF := Lib.hid (show OwnMix elInt 3 1 (w5.setCell ⟨w.heap.size, k, none⟩ (.int .i64 (z : Int))) w.heap.size (fun b => w.heap.size ≤ b) (.slice (some ⟨w.heap.size, 0, none⟩) N.length N.length) N.length (upB Qs K v) (List.replicate N.length (.int .i64 0)) (k + 1) ∧ Below w.heap.size w (w5.setCell ⟨w.heap.size, k, none⟩ (.int .i64 (z : Int))) from ⟨hO5.out.set1 elInt_ok (by simp) hpe.out rfl, HB5.out.setCell (p := ⟨w.heap.size, k, none⟩) (Nat.le_refl _) _⟩)
    clear hO5 HB5 c0 f0 hO1 hB HX hlo
    go_wp2_with fail
    go_roundw
    case rel => exact ⟨k + 1, by omega, by go_num, Lib.hid hF.out.1, hF.out.2⟩
    case measure => simp [intOf]; omega
  ·have hF := Lib.hid (show OwnI wr w.heap.size (.slice (some ⟨w.heap.size, 0, none⟩) N.length N.length) (upB Qs K v) ∧ Below w.heap.size w wr from ⟨(hO.out.end_ (by omega) (by simp)).ints, hB⟩)
   clear hO hB
   go_wp2_with fail
   go_ret
   exact ⟨⟨_, rfl, hF.out.1⟩, hF.out.2⟩
end Go.Proofs.YtmepdkdeanbbaaaGreat
namespace Go.Proofs.YtmepdkdeanbbaaaGreat
set_option maxRecDepth 100000
open Go.RowKit

section
variable {w y w' : World} {g : Nat} {X1 X2 X3 dv vv : Value} {ds : List DAt} {vs : List CAt} {N : List Nat} {Qs : List (List Pth)} {W m : Nat} {Cs : List Cub} {cnt : Int}
theorem set_self {α : Type} {L : List α} {i : Nat} {x : α} (h : L[i]? = some x) : L.set i x = L := by
 refine List.ext_getElem? fun j => ?_
 rw [List.getElem?_set]
 by_cases hij : i = j
 ·subst hij
  rw [if_pos rfl, if_pos (List.getElem?_eq_some_iff.1 h).1, h]
 ·rw [if_neg hij]
theorem LtM.setC (h : LtM w g X1 X2 X3 dv vv ds vs N Qs W m Cs cnt) {i : Nat} {c : CAt} {C' : Cub} (hi : vs[i]? = some c) (hc : Chg (footC c) w w') (hd : Cb w' c.1 c.2 W m C') : LtM w' g X1 X2 X3 dv vv ds vs N Qs W m (Cs.set i C') cnt := by
 have hm := List.mem_of_getElem? hi
 have hcb := h.cbs.at_ i c hi
 have hs := h.cbs.set_ hi hc hd fun k hk => .inl hk
 rw [set_self hi] at hs
 exact ⟨h.blk.chg hc (h.c_g hm), hc.row h.dr fun k hk => own_not_c h.dr hcb (by decide) hk, hc.row h.vr fun k hk => own_not_c h.vr hcb (by decide) hk, h.dcs.chg hc fun d hd' k hk hk' => h.apart d hd' c hm k hk hk', hs, h.apart⟩
theorem LtM.putC (h : LtM w g X1 X2 X3 dv vv ds vs N Qs W m Cs cnt) (hb : Below w.heap.size w y) {i b : Nat} {c c' : CAt} {C' : Cub} (hi : vs[i]? = some c) (hv : vv.ownBlock = some b) (hd : Cb y c'.1 c'.2 W m C') (hf : ∀ k, footC c' k → w.heap.size ≤ k) :
  LtM (y.setCell ⟨b, i, none⟩ (ptrV c'.1)) g X1 X2 X3 dv vv ds (vs.set i c') N Qs W m (Cs.set i C') cnt ∧ ∀ k, footL g dv vv ds (vs.set i c') k → footL g dv vv ds vs k ∨ w.heap.size ≤ k := by
 have hm := List.mem_of_getElem? hi
 have hy := h.below hb
 have hil := (List.getElem?_eq_some_iff.1 hi).1
 have hs : Chg (fun k => k = b) y (y.setCell ⟨b, i, none⟩ (ptrV c'.1)) := (Chg.refl _ y).set_ b i _ fun _ => rfl
 have hbl : b < w.heap.size := (World.ownsRow.lt h.vr b hv).2
 have h2 := h.cbs.set_ (w' := y) hi (Chg.of_below (S := footC c) hb (Nat.le_refl _)) hd fun k hk => .inr (hf k hk)
 have hnc : ∀ e ∈ vs.set i c', ∀ k, footC e k → k ≠ b := fun e he k hk hkb => by
  subst hkb
  rcases List.mem_or_eq_of_mem_set he with he | rfl
  ·obtain ⟨j, hj⟩ := List.getElem?_of_mem he
   exact own_not_c h.vr (h.cbs.at_ j e hj) (by decide) hv hk
  ·have := hf k hk; omega
 have hst : (y.setCell ⟨b, i, none⟩ (ptrV c'.1)).ownsRow 0 96 1 vv vs.length ((vs.map fun c => ptrV c.1).set i (ptrV c'.1)) := by
  have hr := hy.vr
  rcases hr.2 with ⟨e0, _⟩ | ⟨b', cap, cur, e0, _⟩
  ·rw [e0] at hv; cases hv
  ·rw [e0] at hv hr ⊢
   have e3 : b' = b := by simpa [Value.ownBlock] using hv
   subst e3
   exact (World.ownsRow.stored hr i _).1
 refine ⟨⟨hy.blk.chg hs fun e => h.g_vv (by rw [hv, e]), hs.row hy.dr fun k hk e => h.dv_vv hk (by rw [hv, e]), ?_, hy.dcs.chg hs fun d hd' k hk e => ?_, h2.chg hs fun e he k hk => hnc e he k hk, ?_⟩, ?_⟩
 ·rw [List.length_set, List.map_set]
  exact hst
 ·obtain ⟨j, hj⟩ := List.getElem?_of_mem hd'
  exact own_not_d h.vr (h.dcs.at_ j d hj) (by decide) (by decide) (by rw [hv, e]) hk
 ·intro d hd' e he k hk hke
  rcases List.mem_or_eq_of_mem_set he with he | rfl
  ·exact h.apart d hd' e he k hk hke
  ·have := h.dcs.lt hd' hk
   have := hf k hke
   omega
 ·rintro k (hk | hk | hk | hk | ⟨e, he, hk⟩)
  ·exact .inl (.inl hk)
  ·exact .inl (.inr (.inl hk))
  ·exact .inl (.inr (.inr (.inl hk)))
  ·exact .inl (.inr (.inr (.inr (.inl hk))))
  ·rcases List.mem_or_eq_of_mem_set he with he | rfl
   ·exact .inl (.inr (.inr (.inr (.inr ⟨e, he, hk⟩))))
   ·exact .inr (hf k hk)
end
end Go.Proofs.YtmepdkdeanbbaaaGreat
namespace Go.Proofs.YtmepdkdeanbbaaaGreat
set_option maxRecDepth 100000
open Go.RowKit

section
variable {w : World} {g : Nat} {X1 X2 X3 dv vv dv' : Value} {ds ds' : List DAt} {vs : List CAt} {N : List Nat} {Qs Qs' : List (List Pth)} {W m : Nat} {Cs : List Cub} {cnt : Int}
theorem LtM.swapD (h : LtM w g X1 X2 X3 dv vv ds vs N Qs W m Cs cnt) (hr : w.ownsRow 0 94 1 dv' ds'.length (ds'.map fun d => ptrV d.1)) (hd : Dcs w ds' N Qs') (hap : ∀ d ∈ ds', ∀ c ∈ vs, ∀ k, footD d k → ¬ footC c k) : LtM (w.setCell ⟨g, 3, none⟩ dv') g X1 X2 X3 dv' vv ds' vs N Qs' W m Cs cnt := by
 have hs : Chg (fun k => k = g) w (w.setCell ⟨g, 3, none⟩ dv') := (Chg.refl _ w).set_ g 3 _ fun _ => rfl
 refine ⟨h.blk.set_ 3 dv', hs.row hr fun k hk e => own_ne_block hr h.blk (by decide) (by rw [hk, e]), hs.row h.vr fun k hk e => h.g_vv (by rw [hk, e]), hd.chg hs fun d hd' k hk e => ?_, h.cbs.chg hs fun c hc k hk e => h.c_g hc (e ▸ hk), hap⟩
 subst e
 obtain ⟨i, hi⟩ := List.getElem?_of_mem hd'
 have hb : w.heap[k]? = some (.cells _ _ _) := h.blk
 rcases (hd.at_ i d hi).kind hk with ⟨cs, e, fr, he, h1⟩ | ⟨es, clock, he⟩
 ·rw [hb] at he
  simp only [Option.some.injEq, Obj.cells.injEq] at he
  rcases h1 with h1 | h1 <;> (rw [← he.2.1] at h1; exact absurd h1 (by decide))
 ·rw [hb] at he; cases he
theorem LtM.setN (h : LtM w g X1 X2 X3 dv vv ds vs N Qs W m Cs cnt) (n : Int) : LtM (w.setCell ⟨g, 5, none⟩ (.int .i64 n)) g X1 X2 X3 dv vv ds vs N Qs W m Cs n := by
 have hs : Chg (fun k => k = g) w (w.setCell ⟨g, 5, none⟩ (.int .i64 n)) := (Chg.refl _ w).set_ g 5 _ fun _ => rfl
 exact ⟨h.blk.set_ 5 _, hs.row h.dr fun k hk e => h.g_dv (by rw [hk, e]), hs.row h.vr fun k hk e => h.g_vv (by rw [hk, e]), h.dcs.chg hs fun d hd k hk e => h.d_g hd (e ▸ hk), h.cbs.chg hs fun c hc k hk e => h.c_g hc (e ▸ hk), h.apart⟩
end
end Go.Proofs.YtmepdkdeanbbaaaGreat
