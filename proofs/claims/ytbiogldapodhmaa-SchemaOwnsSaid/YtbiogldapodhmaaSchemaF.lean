/- Layer 8's statements: few of each. -/
import Derived.Test.YtbiogldapodhmaaSchemaV
import Derived.Test.YtbiogldapodhmaaSchemaA
import Derived.Deep.RegionLaw
import Derived.BigQuiet
import Derived.Deep.QuietTactic
namespace Go.Proofs.Ytbiogldapodhmaa
open Go.RowKit

def fewD (D : List PDim) (k : Nat) : List PDim := (D.take k).map fun d => (d.1, d.2.take 8)
def fewV (V : List (List Int)) (k : Nat) : List (List Int) := (V.take k).map fun l => l.take 8
theorem fewD_snoc {D : List PDim} {k : Nat} {x : Txt} {L : List Txt} (hk : k < D.length) (he : D.getD k zeroD = (x, L)) : fewD D k ++ [(x, L.take 8)] = fewD D (k + 1) := by
  have e : D[k] = (x, L) := by rw [← he, List.getD_eq_getElem?_getD, List.getElem?_eq_getElem hk]; rfl
  unfold fewD
  rw [List.take_succ_eq_append_getElem hk, List.map_append, e]
  rfl
theorem fewV_snoc {V : List (List Int)} {k : Nat} {l : List Int} (hk : k < V.length) (he : l = V.getD k []) : fewV V k ++ [l.take 8] = fewV V (k + 1) := by
  unfold fewV
  rw [List.take_succ_eq_append_getElem hk, List.map_append, he, List.getD_eq_getElem?_getD, List.getElem?_eq_getElem hk]
  rfl
theorem takeM_snoc {M : List Txt} {k : Nat} {x : Txt} (hk : k < M.length) (he : x = M.getD k []) : M.take k ++ [x] = M.take (k + 1) := by
  rw [List.take_succ_eq_append_getElem hk, he, List.getD_eq_getElem?_getD, List.getElem?_eq_getElem hk]
  rfl
theorem fewD_len {D : List PDim} {k : Nat} (h : k ≤ 8) : (fewD D k).length ≤ 1000000 := by
  have := List.length_take_le k D
  simp [fewD]; omega
theorem fewV_len {V : List (List Int)} {k : Nat} (h : k ≤ 12) : (fewV V k).length ≤ 1000000 := by
  have := List.length_take_le k V
  simp [fewV]; omega
theorem take_min {α : Type} {L : List α} {k p n : Nat} (hl : L.length = n) (hk : k ≤ n) (hp : k ≤ p) (h : ¬ (k < n ∧ k < p)) : L.take k = L.take p := by
  by_cases h1 : k = p
  · rw [h1]
  · rw [List.take_of_length_le (by omega), List.take_of_length_le (by omega)]

/-! ### The schema that is made, in its block -/
structure St (w0 : World) (o H : Nat) (w : World) (v1 v2 v3 : Value) (D : List PDim) (M : List Txt) (V : List (List Int)) : Prop where
  blk : Block w o 26 #[v1, v2, v3]
  r1 : OwnDs w (o + 1) H v1 D
  r2 : OwnT w (o + 1) v2 M
  r3 : OwnL w (o + 1) H 30 v3 V
  bel : Below o w0 w
  ho : H ≤ o
section
variable {w0 w w' : World} {o H : Nat} {v1 v2 v3 : Value} {D : List PDim} {M : List Txt} {V : List (List Int)}
theorem St.le (h : St w0 o H w v1 v2 v3 D M V) : o + 1 ≤ w.heap.size := h.blk.lt
theorem St.below (h : St w0 o H w v1 v2 v3 D M V) (hb : Below w.heap.size w w') : St w0 o H w' v1 v2 v3 D M V :=
  ⟨h.blk.below hb h.blk.lt, h.r1.below hb (Nat.le_refl _) (by have := h.le; have := h.ho; omega), OwnT.below h.r2 hb (Nat.le_refl _), h.r3.below hb (Nat.le_refl _) (by have := h.le; have := h.ho; omega), h.bel.trans (hb.mono (by have := h.le; omega)), h.ho⟩
theorem St.drewN (h : St w0 o H w v1 v2 v3 D M V) (k : Nat) : St w0 o H (w.drewN k) v1 v2 v3 D M V := h.below (below_drewN (Below.refl _ _) k)
theorem OwnDs.kept {base C : Nat} {v : Value} {D : List PDim} {row : Option Nat} (h : OwnDs w base C v D) (hg : w.grownBy w' row) (hne : v.ownBlock = none ∨ v.ownBlock ≠ row) (hC : C ≤ w.heap.size) (hr : ∀ g, row = some g → C ≤ g) : OwnDs w' base C v D := by
  obtain ⟨xs, h1, h2⟩ := h
  exact ⟨xs, h1.kept hg hne, h2.keep fun b o hb => World.cell?_of_block (hg.block b (by omega) (fun e => by have := hr _ e.symm; omega))⟩
theorem OwnL.kept2 {base C : Nat} {T : TypeId} {v : Value} {L : List (List Int)} {row : Option Nat} (h : OwnL w base C T v L) (hg : w.grownBy w' row) (hne : v.ownBlock = none ∨ v.ownBlock ≠ row) (hC : C ≤ w.heap.size) (hr : ∀ g, row = some g → C ≤ g) : OwnL w' base C T v L := by
  obtain ⟨xs, h1, h2⟩ := h
  refine ⟨xs, h1.kept hg hne, fun i l hi => ?_⟩
  obtain ⟨A, n, c, e, hh⟩ := h2 i l hi
  exact ⟨A, n, c, e, hh.keep fun b o hb => World.cell?_of_block (hg.block b (by omega) (fun e => by have := hr _ e.symm; omega))⟩
/-- The block itself is written: the rows stay. -/
theorem OwnDs.put {base C g i : Nat} {v u : Value} {D : List PDim} (h : OwnDs w base C v D) (h1 : C ≤ g) (h2 : g < base) : OwnDs (w.setCell ⟨g, i, none⟩ u) base C v D := by
  obtain ⟨xs, k1, k2⟩ := h
  refine ⟨xs, ownsRow_setCell_other k1 (a := ⟨g, i, none⟩) (fun e => by have h3 : base ≤ g := (k1.lt _ e).1; omega) u, k2.keep fun b o hb => ?_⟩
  exact World.cell?_of_block (Below.heap_setCell _ _ _ _ (by show b ≠ g; omega))
theorem OwnL.put {base C g i : Nat} {T : TypeId} {v u : Value} {L : List (List Int)} (h : OwnL w base C T v L) (h1 : C ≤ g) (h2 : g < base) : OwnL (w.setCell ⟨g, i, none⟩ u) base C T v L := by
  obtain ⟨xs, k1, k2⟩ := h
  refine ⟨xs, ownsRow_setCell_other k1 (a := ⟨g, i, none⟩) (fun e => by have h3 : base ≤ g := (k1.lt _ e).1; omega) u, fun j l hj => ?_⟩
  obtain ⟨A, n, c, e, hh⟩ := k2 j l hj
  exact ⟨A, n, c, e, hh.keep fun b o hb => World.cell?_of_block (Below.heap_setCell _ _ _ _ (by show b ≠ g; omega))⟩
theorem OwnT.put {base g i : Nat} {v u : Value} {l : List Txt} (h : OwnT w base v l) (h2 : g < base) : OwnT (w.setCell ⟨g, i, none⟩ u) base v l :=
  OwnT.other h (fun e => by have h3 : base ≤ g := (OwnT.lt h _ e).1; omega) u
theorem ne_row {base : Nat} {v : Value} {g : Nat} (hlo : ∀ k, v.ownBlock = some k → base ≤ k) (hg : g < base) : v.ownBlock ≠ some g := fun e => by have := hlo _ e; omega
theorem St.app1 {v' : Value} {D' : List PDim} (h : St w0 o H w v1 v2 v3 D M V) (hO : OwnDs w' (o + 1) H v' D') (hG : Grew w v1 w' v') : Block w' o 26 #[v1, v2, v3] ∧ St w0 o H (w'.setCell ⟨o, 0, none⟩ v') v' v2 v3 D' M V := by
  have hlo : ∀ k, v1.ownBlock = some k → o + 1 ≤ k := fun k e => (h.r1.lt k e).1
  have hs := h.le
  have hH := h.ho
  have hb : Block w' o 26 #[v1, v2, v3] := h.blk.grown hG.1 (ne_row hlo (Nat.lt_succ_self o))
  have hbe : Below o w0 w' := h.bel.trans (hG.below_ (by omega) fun k e => by have := hlo k e; omega)
  obtain ⟨xs, k1, _⟩ := h.r1
  have r2 : OwnT w' (o + 1) v2 M := World.ownsRow.kept h.r2 hG.1 (row_ne h.r2 k1 (by decide))
  have r3 : OwnL w' (o + 1) H 30 v3 V := by
    have k3 := h.r3
    obtain ⟨ys, y1, _⟩ := h.r3
    exact k3.kept2 hG.1 (row_ne y1 k1 (by decide)) (by omega) (fun g e => by have := hlo g e; omega)
  exact ⟨hb, hb.set_ 0 v', hO.put hH (Nat.lt_succ_self o), r2.put (Nat.lt_succ_self o), r3.put hH (Nat.lt_succ_self o), hbe.setCell (p := ⟨o, 0, none⟩) (Nat.le_refl _) _, hH⟩
theorem St.app2 {v' : Value} {M' : List Txt} (h : St w0 o H w v1 v2 v3 D M V) (hO : OwnT w' (o + 1) v' M') (hG : Grew w v2 w' v') : Block w' o 26 #[v1, v2, v3] ∧ St w0 o H (w'.setCell ⟨o, 1, none⟩ v') v1 v' v3 D M' V := by
  have hlo : ∀ k, v2.ownBlock = some k → o + 1 ≤ k := fun k e => (OwnT.lt h.r2 k e).1
  have hs := h.le
  have hH := h.ho
  have hb : Block w' o 26 #[v1, v2, v3] := h.blk.grown hG.1 (ne_row hlo (Nat.lt_succ_self o))
  have hbe : Below o w0 w' := h.bel.trans (hG.below_ (by omega) fun k e => by have := hlo k e; omega)
  have r1 : OwnDs w' (o + 1) H v1 D := by
    have k3 := h.r1
    obtain ⟨ys, y1, _⟩ := h.r1
    exact k3.kept hG.1 (row_ne y1 h.r2 (by decide)) (by omega) (fun g e => by have := hlo g e; omega)
  have r3 : OwnL w' (o + 1) H 30 v3 V := by
    have k3 := h.r3
    obtain ⟨ys, y1, _⟩ := h.r3
    exact k3.kept2 hG.1 (row_ne y1 h.r2 (by decide)) (by omega) (fun g e => by have := hlo g e; omega)
  exact ⟨hb, hb.set_ 1 v', r1.put hH (Nat.lt_succ_self o), hO.put (Nat.lt_succ_self o), r3.put hH (Nat.lt_succ_self o), hbe.setCell (p := ⟨o, 1, none⟩) (Nat.le_refl _) _, hH⟩
theorem St.app3 {v' : Value} {V' : List (List Int)} (h : St w0 o H w v1 v2 v3 D M V) (hO : OwnL w' (o + 1) H 30 v' V') (hG : Grew w v3 w' v') : Block w' o 26 #[v1, v2, v3] ∧ St w0 o H (w'.setCell ⟨o, 2, none⟩ v') v1 v2 v' D M V' := by
  have hlo : ∀ k, v3.ownBlock = some k → o + 1 ≤ k := fun k e => (h.r3.ltB k e).1
  have hs := h.le
  have hH := h.ho
  have hb : Block w' o 26 #[v1, v2, v3] := h.blk.grown hG.1 (ne_row hlo (Nat.lt_succ_self o))
  have hbe : Below o w0 w' := h.bel.trans (hG.below_ (by omega) fun k e => by have := hlo k e; omega)
  obtain ⟨xs, k1, _⟩ := h.r3
  have r2 : OwnT w' (o + 1) v2 M := World.ownsRow.kept h.r2 hG.1 (row_ne h.r2 k1 (by decide))
  have r1 : OwnDs w' (o + 1) H v1 D := by
    have k3 := h.r1
    obtain ⟨ys, y1, _⟩ := h.r1
    exact k3.kept hG.1 (row_ne y1 k1 (by decide)) (by omega) (fun g e => by have := hlo g e; omega)
  exact ⟨hb, hb.set_ 2 v', r1.put hH (Nat.lt_succ_self o), r2.put (Nat.lt_succ_self o), hO.put hH (Nat.lt_succ_self o), hbe.setCell (p := ⟨o, 2, none⟩) (Nat.le_refl _) _, hH⟩
end
/-- The law's cut, its answer written out. -/
theorem cutL_is {A : Option Addr} {n c B m : Nat} {L : List Int} {w : World} (h : HasI w B A n c L) (hm : Hid (m = min n 8)) :
    Calls Try.prog 14 #[.slice A n c] w fun e w' => e = .returned (.slice A m c) ∧ w = w' := by
  have hcap := h.cap
  have hcm := h.capMax
  by_cases h8 : (8 : Int) < (n : Int)
  · have h9 : (8 : Int) ≤ (c : Int) := by omega
    obtain rfl : m = 8 := by have := hm.out; omega
    clear hm
    go_enter Try.func14, Try.ntmps14
    go_wp2
    go_ret
    exact ⟨rfl, rfl⟩
  · obtain rfl : m = n := by have := hm.out; omega
    clear hm
    go_enter Try.func14, Try.ntmps14
    go_wp2
    go_ret
    exact ⟨rfl, rfl⟩
theorem HasI.cut8 {w : World} {B n c m : Nat} {A : Option Addr} {l : List Int} (h : HasI w B A n c l) (hm : Hid (m = min n 8)) : HasI w B A m c (l.take 8) := by
  by_cases h8 : 8 < n
  · obtain rfl : m = 8 := by have := hm.out; omega
    exact h.take_ 8 (by omega)
  · obtain rfl : m = n := by have := hm.out; omega
    rw [List.take_of_length_le (by have := h.len; omega)]
    exact h
end Go.Proofs.Ytbiogldapodhmaa
