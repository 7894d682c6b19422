/- Layer 4: the document's examples, and the words of its statements. -/
import Derived.Test.YtdajjphgehbacaaWide2
import Derived.Test.YtdajjphgehbacaaWideTot
import Derived.Test.YtdajjphgehbacaaWideRef4
namespace Go.Proofs.Ytdajjphgehbacaa
open Go.RowKit

theorem below_drawn {w : World} (q : Nat) : Below w.heap.size w (w.drewN q) := below_drewN (Below.refl _ _) q

set_option maxRecDepth 100000 in
set_option maxHeartbeats 2000000 in
theorem is_any (b o c : Nat) (z : Int) (w : World) (hr : HasI w w.heap.size (some ⟨b, o, none⟩) 80 c (bitsOf 80 z)) (hz : wFar z) :
    Calls Try.prog 11 #[.agg #[.int .i64 (z / 4294967296), .int .i64 (z % 4294967296)], .slice (some ⟨b, o, none⟩) 80 c] w fun e w' => e = .returned (.bool true) ∧ Below w.heap.size w w' := by
  go_enter Try.func11, Try.ntmps11
  go_wp2_with fail
  refine (refParts_any b o c z _ (hr.allocS _) hz).mono ?_
  rintro e w1 ⟨rfl, q, hw1⟩
  have hb1 : Below w.heap.size w w1 := by rw [hw1]; exact below_drewN (below_a1 _ _) q
  have hbl : Block w1 w.heap.size 23 #[.int .i64 (z / 4294967296), .int .i64 (z % 4294967296)] := by rw [hw1]; exact Block.new w _ _
  have hc0 : w1.cell? ⟨w.heap.size, 0, none⟩ = some (.int .i64 (z / 4294967296)) := hbl.cell 0
  have hc1 : w1.cell? ⟨w.heap.size, 1, none⟩ = some (.int .i64 (z % 4294967296)) := hbl.cell 1
  clear hw1 hr hbl
  go_wp2_with fail
  go_ret
  exact ⟨rfl, hb1⟩

set_option maxRecDepth 100000 in
set_option maxHeartbeats 2000000 in
theorem right_any (b o c : Nat) (z : Int) (w : World) (hr : HasI w w.heap.size (some ⟨b, o, none⟩) 80 c (bitsOf 80 z)) (hz : wFar z) (H L x : Int)
    (hs : (wIn z ∧ H = z / 4294967296 ∧ L = z % 4294967296 ∧ x = 0) ∨ (¬ wIn z ∧ H = 0 ∧ L = 0 ∧ x = 14)) :
    Calls Try.prog 19 #[.agg #[.int .i64 H, .int .i64 L], .int .i64 x, .slice (some ⟨b, o, none⟩) 80 c] w fun e w' => e = .returned (.bool true) ∧ Below w.heap.size w w' := by
  have hs0 := Lib.hid hs
  clear hs
  go_enter Try.func19, Try.ntmps19
  go_wp2_with fail
  refine (refParts_any b o c z _ (hr.allocS _) hz).mono ?_
  rintro e w1 ⟨rfl, q, hw1⟩
  have hb1 : Below w.heap.size w w1 := by rw [hw1]; exact below_drewN (below_a1 _ _) q
  have hbl : Block w1 w.heap.size 23 #[.int .i64 H, .int .i64 L] := by rw [hw1]; exact Block.new w _ _
  have hc0 : w1.cell? ⟨w.heap.size, 0, none⟩ = some (.int .i64 H) := hbl.cell 0
  have hc1 : w1.cell? ⟨w.heap.size, 1, none⟩ = some (.int .i64 L) := hbl.cell 1
  clear hw1 hr hbl
  go_wp2_with fail
  refine (refMay_any (z / 4294967296) (z % 4294967296) _).mono ?_
  rintro e w2 ⟨rfl, rfl⟩
  rcases hs0.out with ⟨hm, rfl, rfl, rfl⟩ | ⟨hm, rfl, rfl, rfl⟩
  case' inl => rw [decide_eq_true (show wMay (z / 4294967296) (z % 4294967296) from (wIn_may z).2 hm)]
  case' inr => rw [decide_eq_false (show ¬ wMay (z / 4294967296) (z % 4294967296) from fun h => hm ((wIn_may z).1 h))]
  all_goals
    clear hm hs0
    go_wp2_with fail
    go_ret
    exact ⟨rfl, hb1⟩

set_option maxRecDepth 100000 in
set_option maxHeartbeats 2000000 in
theorem lives_any (w : World) :
    Calls Try.prog 14 #[] w fun e w' => e = .returned (.bool true) ∧ Below w.heap.size w w' := by
  go_enter Try.func14, Try.ntmps14
  go_wp2_with fail
  refine (total_any _ 3 3 [9223372036854775807, 1, 1] _ (HasI.litAt _ [9223372036854775807, 1, 1] _ (by simp [i64v]) _ _ 3 rfl (by decide) _ rfl |>.more (by simp)) (by decide) (by decide) 2147483648 1 0 (.inl ⟨by unfold wIn; decide, by decide, by decide, rfl⟩)).mono ?_
  rintro e w1 ⟨rfl, hb1⟩
  have hbe1 := below_then (below_a1 _ _) hb1
  clear hb1
  go_wp2_with fail
  refine (int_sum 2147483648 0 _ (by decide) 0 14 (.inr ⟨by decide, rfl, rfl⟩)).mono ?_
  rintro e w2 ⟨rfl, hb2⟩
  have hbl := block_new hb2 (g := w1.heap.size) rfl
  have hbe2 := below_then hbe1 (below_then (below_a1 _ _) hb2)
  clear hb2 hbe1
  go_wp2_with fail
  refine (int_arg 0 (-1) _ (by decide)).mono ?_
  rintro e w3 ⟨rfl, hb3⟩
  have hbl3 := hbl.below hb3 hbl.lt
  have hbe3 := below_then hbe2 hb3
  clear hb3 hbe2 hbl
  go_wp2_with fail
  refine (of_any (-1) _ (by decide) (by decide)).mono ?_
  rintro e w4 ⟨rfl, hb4⟩
  have hbl4 := hbl3.below hb4 hbl3.lt
  have hbe4 := below_then hbe3 hb4
  have hc0 : w4.cell? ⟨w1.heap.size, 0, none⟩ = some (.int .i64 2147483648) := hbl4.cell 0
  have hc1 : w4.cell? ⟨w1.heap.size, 1, none⟩ = some (.int .i64 1) := hbl4.cell 1
  clear hb4 hbe3 hbl3
  go_wp2_with fail
  go_ret
  exact ⟨rfl, hbe4⟩
end Go.Proofs.Ytdajjphgehbacaa
