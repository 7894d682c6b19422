/- Wide2 -/
import Derived.Test.YteifhgcjmjihgaaJ10
import Derived.BigQuiet
import Derived.Deep.QuietTactic
import Derived.Deep.RegionHeld3
namespace Go.Proofs.Yteifhgcjmjihgaa
set_option maxRecDepth 100000
open Go.RowKit

theorem int_arg (hi lo : Int) (w : World) (h : ¬ wMay hi lo) :
    Calls Try.prog 69 #[.agg #[.int .i64 hi, .int .i64 lo]] w fun e w' => e = .returned (.tuple #[.int .i64 0, .int .i64 1]) ∧ Below w.heap.size w w' := by
  have h' : decide (wMay hi lo) = false := decide_eq_false h
  go_enter Try.func69, Try.ntmps69
  go_wp2_with fail
  refine (wmay_any hi lo _).mono ?_
  rintro e w1 ⟨rfl, hb⟩
  rw [h']
  have hbe := below_then (below_a1 _ _) hb
  go_wp2_with fail
  go_ret2
  exact ⟨rfl, hbe⟩
theorem int_sum (hi lo : Int) (w : World) (h : wMay hi lo) (n x : Int)
    (hs : (-9223372036854775808 ≤ wNum hi lo ∧ wNum hi lo ≤ 9223372036854775807 ∧ n = wNum hi lo ∧ x = 0) ∨ (¬ (-9223372036854775808 ≤ wNum hi lo ∧ wNum hi lo ≤ 9223372036854775807) ∧ n = 0 ∧ x = 14)) :
    Calls Try.prog 69 #[.agg #[.int .i64 hi, .int .i64 lo]] w fun e w' => e = .returned (.tuple #[.int .i64 n, .int .i64 x]) ∧ Below w.heap.size w w' := by
  have h' : decide (wMay hi lo) = true := decide_eq_true h
  go_enter Try.func69, Try.ntmps69
  go_wp2_with fail
  refine (wmay_any hi lo _).mono ?_
  rintro e w1 ⟨rfl, hb⟩
  rw [h']
  have hba := block_new hb (g := w.heap.size) rfl
  have hg0 : w1.cell? ⟨w.heap.size, 0, none⟩ = some (.int .i64 hi) := hba.cell 0
  have hg1 : w1.cell? ⟨w.heap.size, 1, none⟩ = some (.int .i64 lo) := hba.cell 1
  have hbe := below_then (below_a1 _ _) hb
  clear hb h'
  obtain ⟨m, hor, hm0, hm1, hlo, hhi⟩ : ∃ m : Int, bits .or .i64 (wrap64 (hi * 4294967296)) lo = m ∧ -9223372036854775808 ≤ m ∧ m ≤ 9223372036854775807 ∧ Hid (m % 4294967296 = lo) ∧ Hid ((-9223372036854775808 ≤ wNum hi lo ∧ wNum hi lo ≤ 9223372036854775807 → m = wNum hi lo) ∧ (¬ (-9223372036854775808 ≤ wNum hi lo ∧ wNum hi lo ≤ 9223372036854775807) → m / 4294967296 ≠ hi)) := by
    unfold wMay at h
    refine ⟨_, rfl, ?_⟩
    rw [i64_or_lo _ _ (by unfold wrap64; omega) (by omega) (by omega), IntKind.wrap_i64]
    unfold wNum wrap64
    exact ⟨by omega, by omega, Lib.hid (by omega), Lib.hid ⟨by omega, by omega⟩⟩
  have Hs := Lib.hid hs
  clear h hs
  have hz : w.heap.size < w1.heap.size := hba.lt
  rcases Hs.out with ⟨h1, h2, rfl, rfl⟩ | ⟨h1, rfl, rfl⟩
  case' inl => have hq : ((m / 4294967296 : Int) == hi) = true := by have h3 := hhi.out.1 ⟨h1, h2⟩; have h4 := hlo.out; unfold wNum at h3; simp; omega
  case' inl => have hnm := Lib.hid (hhi.out.1 ⟨h1, h2⟩)
  case' inr => have hq : ((m / 4294967296 : Int) == hi) = false := by have h3 := hhi.out.2 h1; simp; exact h3
  case' inr => have hnm : True := trivial
  all_goals
    have hr : ((m % 4294967296 : Int) == lo) = true := by have h4 := hlo.out; simp; omega
    clear h1 hhi hlo Hs
    go_wp2_with fail
    go_region_held3 (fun w' => w'.cell? ⟨w.heap.size, 0, none⟩ = some (.int .i64 hi) ∧ w'.cell? ⟨w.heap.size, 1, none⟩ = some (.int .i64 lo))
      (first
        | exact ⟨hg0, hg1⟩
        | exact ⟨hk0, hk1⟩)
      (first
        | (go_at_call 80; refine (of_any m _ hm0 hm1).mono ?_; rintro e w3 ⟨rfl, hbc⟩; have hk0 := (hbc.cell (p := ⟨w.heap.size, 0, none⟩) hz).trans hg0; have hk1 := (hbc.cell (p := ⟨w.heap.size, 1, none⟩) hz).trans hg1))
    have hbe3 : Below w.heap.size w w3 := below_then (Below.drew hbe) hbc
    clear hbc hba hg0 hg1 hk0 hk1 hbe
    go_wp2_with fail
    go_ret2
    first
      | exact ⟨rfl, hbe3⟩
      | exact ⟨by rw [hnm.out]; rfl, hbe3⟩
end Go.Proofs.Yteifhgcjmjihgaa
