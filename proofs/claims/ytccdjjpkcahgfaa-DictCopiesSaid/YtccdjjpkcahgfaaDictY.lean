/- Layer 7: Copy. -/
import Derived.Test.YtccdjjpkcahgfaaDictC
import Derived.Lib.SliceRun
import Derived.Shelf.SlMaps.Clone
import Derived.Deep.RegionHeld3
namespace Go.Proofs.Ytccdjjpkcahgfaa
open Go.RowKit

theorem OwnE.empty (w : World) : OwnE (w.alloc (.cells #[] 77)) w.heap.size (.slice (some ⟨w.heap.size, 0, none⟩) 0 0) [] :=
  ⟨rfl, .inr ⟨w.heap.size, 0, #[], rfl, Nat.le_refl _, heap_alloc_new w _, Nat.le_refl _, Nat.zero_le _, rfl, rfl⟩⟩
set_option maxRecDepth 100000 in
/-- slices.Clone of paths. -/
theorem cloneE_any {w : World} {base : Nat} {A : Option Addr} {m c : Nat} {E : List (Nat × Txt)} (h : OwnE w base (.slice A m c) E) (hm : m ≤ 1000) :
    Calls Try.prog 51 #[.slice A m c] w fun e w' => ∃ A' c', e = .returned (.slice A' m c') ∧ OwnE w' w.heap.size (.slice A' m c') E ∧ Below w.heap.size w w' := by
  obtain ⟨i0, hi, hz0, hz1, hz2⟩ := info_parts info_path
  have hform := h.2
  rcases hform with ⟨e, h0⟩ | ⟨g, cap, cur, e, hb, hg, hnc, hcm, _⟩
  · injection e with e1 e2 e3
    subst e1 e2 e3
    obtain rfl : E = [] := List.eq_nil_of_length_eq_zero h0
    have q : ∀ W, (binOp .eql 67 (.slice none 0 0) (.slice none 0 0)).run Try.prog W = .ok (.bool true) W := fun W => Lib.run_eql_slice_nil W _ _ none 0 0 0 0 Try.underlying67
    go_enter Try.func51, Try.ntmps51
    go_wp2
    go_ret
    exact ⟨none, 0, rfl, OwnE.nil_ _ _, Below.refl _ _⟩
  · injection e with e1 e2 e3
    subst e1 e3
    have q : ∀ W, (binOp .eql 67 (.slice (some ⟨g, 0, none⟩) m c) (.slice none 0 0)).run Try.prog W = .ok (.bool false) W := fun W => Lib.run_eql_slice_nil W _ _ (some ⟨g, 0, none⟩) m c 0 0 Try.underlying67
    have hcells := Lib.hid (World.ownsRow.cells (World.ownsRow.alloc h (.cells #[] 77)) (g := g) rfl)
    have hEm : E.length = m := e2.symm
    have HE := Lib.hid hEm
    clear hg hEm e2
    go_enter Try.func51, Try.ntmps51
    go_wp2_with (at_builtin; refine wpList_append_own_at _ rfl _ _ 67 rfl w.heap.size 77 i0 _ 2 24 Try.underlying67 hi hz0 hz1 hz2 rfl (by decide) _ 0 [] rfl (OwnE.empty w) ⟨g, 0, none⟩ m c (E.flatMap pcs) rfl (by rw [pcs_len, HE.out]) hcells.out (pcs_one E) (by unfold maxLen; omega) (by omega) (by simp) ?_)
    intro v2 w2 hO hG hnil _
    have hO2 : OwnE w2 w.heap.size v2 E := by unfold OwnE; rw [HE.out]; simpa using hO
    have hB2 : Below w.heap.size w w2 := ⟨hG.os, hG.tape, hG.output, Nat.le_trans (by simp) hG.size, fun k hk => (hG.block k (by simp; omega) (fun e => by simp [Value.ownBlock] at e; omega)).trans (Below.heap_alloc w _ k hk)⟩
    obtain ⟨A2, c2, rfl, _⟩ := hO2.form
    have hF := Lib.hid (show OwnE w2 w.heap.size (.slice A2 m c2) E ∧ Below w.heap.size w w2 from ⟨by have := hO2; rwa [HE.out] at this, hB2⟩)
    rw [HE.out]
    clear hO hG hnil hO2 hB2
    go_wp2
    go_ret
    exact ⟨A2, c2, rfl, hF.out.1, hF.out.2⟩
set_option maxRecDepth 100000 in
set_option maxHeartbeats 1000000 in
/-- maps.Clone. -/
theorem cloneM_any {w : World} {b : Nat} {E : List (Nat × Txt)} (h : HasM w b E) :
    Calls Try.prog 52 #[.map (some b)] w fun e w' => e = .returned (.map (some w.heap.size)) ∧ HasM w' w.heap.size E ∧ Below w.heap.size w w' := by
  obtain ⟨n, D, ⟨es, clock, hb, F, hs, hD⟩, hn, hlook⟩ := h
  have hq := fun w => run_eql_map_nil_sl (P := Try.prog) w 66 _ _ (some b) Try.underlying66
  have hF := Lib.hid (show HasM (w.alloc (.map es clock)) w.heap.size E ∧ Below w.heap.size w (w.alloc (.map es clock)) from ⟨⟨n, D, ⟨es, clock, (MapKept.heap_alloc w _).1, F, hs, hD⟩, hn, hlook⟩, below_a1 w _⟩)
  clear F hs hD hlook
  go_enter Try.func52, Try.ntmps52
  go_wp2
  rw [run_callFunc_extern Try.func64 (by kernel_rfl) (by kernel_rfl) (by kernel_rfl) (e := Extern.MapsClone.clone) (by kernel_rfl), run_maps_clone_sl w 66 hb]
  simp only [Result.andThen]
  rw [Oper.upon_value]
  go_wp2
  rw [run_typeAssert_map_sl _ 66 20 _ _ _ Try.underlying66]
  simp only [Result.andThen]
  rw [Oper.upon_value]
  go_wp2
  go_ret
  exact ⟨rfl, hF.out.1, hF.out.2⟩
set_option maxRecDepth 100000 in
set_option maxHeartbeats 2000000 in
/-- Copy. -/
theorem copy_any {w : World} {base g : Nat} {pv : Value} {bm n : Nat} {Q : List Pth} (h : Dc w base g pv bm n Q) :
    Calls Try.prog 24 #[.pointer (some ⟨g, 0, none⟩)] w fun e w' => ∃ g' pv' bm', e = .returned (.pointer (some ⟨g', 0, none⟩)) ∧ Dc w' w.heap.size g' pv' bm' n Q ∧ Below w.heap.size w w' := by
  have hgl := h.block.lt
  have hQ := h.good.size
  have HH := Lib.hid h
  have K : Hid (∀ y, Below w.heap.size w y → y.cell? ⟨g, 0, none⟩ = some (.int .i64 (n : Int)) ∧ y.cell? ⟨g, 1, none⟩ = some pv ∧ y.cell? ⟨g, 2, none⟩ = some (.map (some bm))) := Lib.hid fun y hy => ⟨(h.below hy).c0, (h.below hy).c1, (h.below hy).c2⟩
  obtain ⟨A, cap, rfl, _⟩ := h.form
  have c0 := h.c0
  have c1 := h.c1
  have c2 := h.c2
  have hrow : OwnE w.drew base (.slice A Q.length cap) (ents Q) := h.row
  have hcl := cloneE_any hrow (by omega)
  clear h
  go_enter Try.func24, Try.ntmps24
  go_wp2_with fail
  go_region_held3 (fun w' => w'.cell? ⟨g, 0, none⟩ = some (.int .i64 (n : Int)) ∧ w'.cell? ⟨g, 1, none⟩ = some (.slice A Q.length cap) ∧ w'.cell? ⟨g, 2, none⟩ = some (.map (some bm)))
    (first
      | go_keep
      | exact K.out _ hBB2
      | exact K.out _ hBB1)
    (first
      | (go_at_call 51; refine hcl.mono ?_; rintro e w1 ⟨A1, cap1, rfl, hO1, hB1⟩; have hBB1 : Below w.heap.size w w1 := ((below_drewN (Below.refl _ w) 1).trans hB1); have hM1 := (HH.out.below hBB1).map)
      | (go_at_call 52; refine (cloneM_any hM1).mono ?_; rintro e w2 ⟨rfl, hM2, hB2⟩; have hBB2 := hBB1.trans (hB2.mono hBB1.size)))
  have hs1 := hBB1.size
  have hs2 := hBB2.size
  have hF := Lib.hid (show Dc (w2.alloc (.cells #[.int .i64 (n : Int), .slice A1 Q.length cap1, .map (some w1.heap.size)] 69)) w.heap.size w2.heap.size (.slice A1 Q.length cap1) w1.heap.size n Q ∧ Below w.heap.size w (w2.alloc (.cells #[.int .i64 (n : Int), .slice A1 Q.length cap1, .map (some w1.heap.size)] 69)) from
    ⟨⟨Block.new w2 _ _, OwnE.alloc (w := w2) (OwnE.low (OwnE.below hO1 hB2) (Nat.le_refl _)) _, hM2.alloc _, hs2, hs1, HH.out.good⟩, hBB2.alloc hs2 _⟩)
  clear hO1 hB1 hB2 hM1 hM2 hBB1 hBB2
  go_wp2_with fail
  go_ret
  exact ⟨_, _, _, rfl, hF.out.1, hF.out.2⟩
end Go.Proofs.Ytccdjjpkcahgfaa
