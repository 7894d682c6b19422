/- CellE -/
import Derived.Test.YteifhgcjmjihgaaJ19
import Derived.BigRegion
import Derived.Laws.MakeOwn
import Derived.RegionTactic
namespace Go.Proofs.Yteifhgcjmjihgaa
set_option maxRecDepth 100000
open Go.RowKit

/-- Nothing but noughts. -/
def zrow (m : Nat) : Array Value := (List.replicate m (i64v 0)).toArray
theorem make_ints (m : Nat) (W : World) (hm : m ≤ 1000000) : (Instr.makeSlice 33 (.int .i64 (m : Int)) (.int .i64 (m : Int))).run Try.prog W = .ok (.slice (some ⟨W.heap.size, 0, none⟩) m m) (W.alloc (.cells (zrow m) 3)) := by
  obtain ⟨i, hi, hz, hy, hx⟩ := info_parts info_int
  have h := run_make (P := Try.prog) W 33 3 i (.int .i64 0) Try.underlying33 hi hz .i64 .i64 m m (by omega) (by omega) (by rw [hx]; omega) (by omega)
  rw [hy, Nat.mul_one, Int.toNat_natCast] at h
  rw [h]
  congr 2
  congr 1
  apply Array.ext
  · simp [zrow, madeCells]
  · intro k h1 h2
    simp [zrow, madeCells, i64v, Value.cells, Nat.mod_one]
/-- A block of noughts is a row of the call's own. -/
theorem own_zrow {w : World} {base g m : Nat} (hb : Block w g 3 (zrow m)) (h : base ≤ g) (hm : m ≤ 1000000) : OwnI w base (.slice (some ⟨g, 0, none⟩) m m) (List.replicate m 0) := by
  refine ⟨by simp, .inr ⟨g, m, zrow m, by simp, h, hb, by simp, by unfold maxLen; omega, by simp [zrow], by simp [zrow]⟩⟩
theorem blocks3 (w : World) (C : Obj) (T : TypeId) (cs : Array Value) : Block ((((w.alloc C).alloc (.cells cs T)).alloc (.cells cs T)).alloc (.cells cs T)) (w.heap.size + 1) T cs ∧ Block ((((w.alloc C).alloc (.cells cs T)).alloc (.cells cs T)).alloc (.cells cs T)) (w.heap.size + 1 + 1) T cs ∧ Block ((((w.alloc C).alloc (.cells cs T)).alloc (.cells cs T)).alloc (.cells cs T)) (w.heap.size + 1 + 1 + 1) T cs := by
  have h1 := Block.new (w.alloc C) T cs
  have h2 := Block.new ((w.alloc C).alloc (.cells cs T)) T cs
  have h3 := Block.new (((w.alloc C).alloc (.cells cs T)).alloc (.cells cs T)) T cs
  simp only [World.size_alloc] at h1 h2 h3
  exact ⟨(h1.alloc _).alloc _, h2.alloc _, h3⟩
theorem below_a4 (w : World) (o p q r : Obj) : Below w.heap.size w ((((w.alloc o).alloc p).alloc q).alloc r) := below_then (below_a3 w o p q) (below_a1 _ r)
/-- What Empty tells: three rows of noughts, each in a block of its own. -/
def TellE (w : World) (m : Nat) (e : Ending) (w' : World) : Prop :=
  (∃ g1 g2 g3 : Nat, e = .returned (.agg #[.int .i64 0, .slice (some ⟨g1, 0, none⟩) m m, .slice (some ⟨g2, 0, none⟩) m m, .slice (some ⟨g3, 0, none⟩) m m]) ∧
    OwnC w' w.heap.size (.slice (some ⟨g1, 0, none⟩) m m) (.slice (some ⟨g2, 0, none⟩) m m) (.slice (some ⟨g3, 0, none⟩) m m) (List.replicate m 0) (List.replicate m 0) (List.replicate m 0) ∧ g1 ≠ g2 ∧ g1 ≠ g3 ∧ g2 ≠ g3) ∧ Below w.heap.size w w'
set_option maxRecDepth 100000 in
set_option maxHeartbeats 2000000 in
theorem empty_any (x : Int) (w : World) {m : Nat} (hm : m = (min (max x 0) 2).toNat) :
    Calls Try.prog 27 #[.int .i64 x] w (TellE w m) := by
  have hm2 : grS x 0 = max x 0 := rfl
  have hm3 : leS (grS x 0) 2 = (m : Int) := by unfold leS grS; omega
  have HM := Lib.hid hm3
  have hm9 : m ≤ 2 := by omega
  clear hm hm2 hm3
  go_enter Try.func27, Try.ntmps27
  go_wp2_with fail
  refine (greater_any x 0 _).mono ?_
  rintro e w' ⟨rfl, rfl⟩
  go_wp2_with fail
  refine (lesser_any _ 2 _).mono ?_
  rintro e w' ⟨rfl, rfl⟩
  rw [HM.out]
  go_wp2_with fail
  have HK : ∀ W : World, (Instr.makeSlice 33 (.int .i64 (m : Int)) (.int .i64 (m : Int))).run Try.prog W = .ok (.slice (some ⟨W.heap.size, 0, none⟩) m m) (W.alloc (.cells (zrow m) 3)) := fun W => make_ints m W (by omega)
  clear HM
  go_region
  all_goals
    go_wp2_with fail
    refine bodyPost_ret (results_block1 rfl _ _ w.heap.size _ _ rfl (show Block (((((w.alloc _).alloc _).alloc _).alloc _).drew) w.heap.size 42 _ from (((Block.new w 42 _).alloc _).alloc _).alloc _) Try.underlying42 rfl info_cell) rfl ?_
    exact ⟨⟨_, _, _, rfl, ⟨own_zrow (by first | exact (blocks3 w _ _ _).1 | exact (blocks3 w _ _ _).2.1 | exact (blocks3 w _ _ _).2.2) (by omega) (by omega), own_zrow (by first | exact (blocks3 w _ _ _).1 | exact (blocks3 w _ _ _).2.1 | exact (blocks3 w _ _ _).2.2) (by omega) (by omega), own_zrow (by first | exact (blocks3 w _ _ _).1 | exact (blocks3 w _ _ _).2.1 | exact (blocks3 w _ _ _).2.2) (by omega) (by omega)⟩, by omega, by omega, by omega⟩, Below.drew (below_a4 _ _ _ _ _)⟩

/-! ### one, filled, the numbers of a cell -/
theorem filled_any (n : Int) (A1 : Option Addr) (n1 c1 : Nat) (A2 : Option Addr) (n2 c2 : Nat) (A3 : Option Addr) (n3 c3 : Nat) (w : World) {r : Bool} (hr : r = decide (0 < n)) :
    Calls Try.prog 38 #[cellV n A1 n1 c1 A2 n2 c2 A3 n3 c3] w fun e w' => e = .returned (.bool r) ∧ Below w.heap.size w w' := by
  have R := Lib.hid hr
  clear hr
  have hb := Lib.hid (below_a1 w (.cells #[.int .i64 n, .slice A1 n1 c1, .slice A2 n2 c2, .slice A3 n3 c3] 42))
  go_enter Try.func38, Try.ntmps38
  go_wp2_with fail
  go_ret
  exact ⟨bool_of R.out.symm, hb.out⟩
theorem number_count (n : Int) (A1 : Option Addr) (n1 c1 : Nat) (A2 : Option Addr) (n2 c2 : Nat) (A3 : Option Addr) (n3 c3 : Nat) (w : World) :
    Calls Try.prog 57 #[cellV n A1 n1 c1 A2 n2 c2 A3 n3 c3] w fun e w' => e = .returned (.int .i64 n) ∧ Below w.heap.size w w' := by
  have hb := Lib.hid (below_a1 w (.cells #[.int .i64 n, .slice A1 n1 c1, .slice A2 n2 c2, .slice A3 n3 c3] 42))
  go_enter Try.func57, Try.ntmps57
  go_wp2_with fail
  go_ret
  exact ⟨rfl, hb.out⟩
theorem number_sum {n : Int} {A1 : Option Addr} {n1 c1 : Nat} {A2 : Option Addr} {n2 c2 : Nat} {A3 : Option Addr} {n3 c3 : Nat} {S M X : List Int} {w : World} (h : HasC w w.heap.size A1 n1 c1 A2 n2 c2 A3 n3 c3 S M X) {i : Nat} (hi : i < n1) {B : Nat} (hB : w.cell? ⟨B, 0, none⟩ = some (.int .i64 (i : Int))) :
    Calls Try.prog 58 #[cellV n A1 n1 c1 A2 n2 c2 A3 n3 c3, .pointer (some ⟨B, 0, none⟩)] w fun e w' => e = .returned (.int .i64 (S.getD i 0)) ∧ Below w.heap.size w w' := by
  have hb := Lib.hid (below_a1 w (.cells #[.int .i64 n, .slice A1 n1 c1, .slice A2 n2 c2, .slice A3 n3 c3] 42))
  have hBl := World.block_lt_of_cell? w _ hB
  have hlm := h.s.lenMax
  obtain ⟨b, o, y, rfl, hbl, cs, es⟩ := h.s.at_ hi
  have i0 : (0 : Int) ≤ (i : Int) := by omega
  have i1 : (i : Int) < (n1 : Int) := by omega
  clear h
  rw [← es.out]
  go_enter Try.func58, Try.ntmps58
  go_wp2_with fail
  generalize hW : w.alloc (.cells #[.int .i64 n, .slice (some ⟨b, o, none⟩) n1 c1, .slice A2 n2 c2, .slice A3 n3 c3] 42) = W at hb ⊢
  have k1 : W.cell? ⟨w.heap.size, 1, none⟩ = some (.slice (some ⟨b, o, none⟩) n1 c1) := by rw [← hW]; exact (Block.new w _ _).cell 1
  have k2 : W.cell? ⟨B, 0, none⟩ = some (.int .i64 (i : Int)) := (hb.out.cell (p := ⟨B, 0, none⟩) hBl).trans hB
  have k3 : W.cell? ⟨b, o + i, none⟩ = some (.int .i64 y) := (hb.out.cell (p := ⟨b, o + i, none⟩) hbl).trans cs
  clear hW hB cs
  go_wp2_with fail
  go_ret
  exact ⟨rfl, hb.out⟩
end Go.Proofs.Yteifhgcjmjihgaa
