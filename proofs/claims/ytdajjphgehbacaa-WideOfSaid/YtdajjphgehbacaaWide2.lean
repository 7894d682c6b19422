/- Layer 4: Add, Int and Total. -/
import Derived.Test.YtdajjphgehbacaaWide
import Derived.BigQuiet
import Derived.Deep.QuietTactic
import Derived.Deep.RegionHeld3
namespace Go.Proofs.Ytdajjphgehbacaa
open Go.RowKit

theorem add_first (ah al bh bl : Int) (w : World) (h : ¬ wMay ah al) :
    Calls Try.prog 18 #[.agg #[.int .i64 ah, .int .i64 al], .agg #[.int .i64 bh, .int .i64 bl]] w fun e w' => e = .returned (.tuple #[.agg #[.int .i64 0, .int .i64 0], .int .i64 1]) ∧ Below w.heap.size w w' := by
  have h' : decide (wMay ah al) = false := decide_eq_false h
  go_enter Try.func18, Try.ntmps18
  go_wp2_with fail
  refine (wmay_any ah al _).mono ?_
  rintro e w1 ⟨rfl, hb⟩
  rw [h']
  have hbl := block_new hb (g := w.heap.size + 1 + 1) (by simp)
  have hd0 : w1.cell? ⟨w.heap.size + 1 + 1, 0, none⟩ = some (.int .i64 0) := hbl.cell 0
  have hd1 : w1.cell? ⟨w.heap.size + 1 + 1, 1, none⟩ = some (.int .i64 0) := hbl.cell 1
  have hf0 := hbl.free 0
  have hf1 := hbl.free 1
  have hbe := below_then (below_a3 _ _ _ _) hb
  clear hb h h'
  go_wp2_with fail
  refine bodyPost_ret (results_block2 rfl _ _ (w.heap.size + 1 + 1) _ _ rfl ((hbl.set_ 0 _).set_ 1 _) Try.underlying23 rfl info_wide) rfl ?_
  exact ⟨rfl, (hbe.setCell (p := ⟨w.heap.size + 1 + 1, 0, none⟩) (by simp; omega) _).setCell (p := ⟨w.heap.size + 1 + 1, 1, none⟩) (by simp; omega) _⟩
theorem add_second (ah al bh bl : Int) (w : World) (h : wMay ah al) (k : ¬ wMay bh bl) :
    Calls Try.prog 18 #[.agg #[.int .i64 ah, .int .i64 al], .agg #[.int .i64 bh, .int .i64 bl]] w fun e w' => e = .returned (.tuple #[.agg #[.int .i64 0, .int .i64 0], .int .i64 1]) ∧ Below w.heap.size w w' := by
  have h' : decide (wMay ah al) = true := decide_eq_true h
  have k' : decide (wMay bh bl) = false := decide_eq_false k
  go_enter Try.func18, Try.ntmps18
  go_wp2_with fail
  refine (wmay_any ah al _).mono ?_
  rintro e w1 ⟨rfl, hb⟩
  rw [h']
  have hbb := Block.below (Block.alloc (Block.new (w.alloc (.cells #[.int .i64 ah, .int .i64 al] 23)) 23 #[.int .i64 bh, .int .i64 bl]) (.cells #[.int .i64 0, .int .i64 0] 23)) hb (by simp)
  rw [show (w.alloc (.cells #[.int .i64 ah, .int .i64 al] 23)).heap.size = w.heap.size + 1 from by simp] at hbb
  have he0 : w1.cell? ⟨w.heap.size + 1, 0, none⟩ = some (.int .i64 bh) := hbb.cell 0
  have he1 : w1.cell? ⟨w.heap.size + 1, 1, none⟩ = some (.int .i64 bl) := hbb.cell 1
  have hbl := block_new hb (g := w.heap.size + 1 + 1) (by simp)
  have hbe := below_then (below_a3 _ _ _ _) hb
  clear hb h h' k
  go_wp2_with fail
  refine (wmay_any bh bl _).mono ?_
  rintro e w2 ⟨rfl, hb⟩
  rw [k']
  have hbl2 := hbl.below hb hbl.lt
  have hbe2 := below_then hbe hb
  have hd0 : w2.cell? ⟨w.heap.size + 1 + 1, 0, none⟩ = some (.int .i64 0) := hbl2.cell 0
  have hd1 : w2.cell? ⟨w.heap.size + 1 + 1, 1, none⟩ = some (.int .i64 0) := hbl2.cell 1
  have hf0 := hbl2.free 0
  have hf1 := hbl2.free 1
  clear hb k' hbe
  go_wp2_with fail
  refine bodyPost_ret (results_block2 rfl _ _ (w.heap.size + 1 + 1) _ _ rfl ((hbl2.set_ 0 _).set_ 1 _) Try.underlying23 rfl info_wide) rfl ?_
  exact ⟨rfl, (hbe2.setCell (p := ⟨w.heap.size + 1 + 1, 0, none⟩) (by simp; omega) _).setCell (p := ⟨w.heap.size + 1 + 1, 1, none⟩) (by simp; omega) _⟩
/-- Two that may be: their sum, or that it may not be. -/
theorem add_sum (ah al bh bl : Int) (w : World) (h : wMay ah al) (k : wMay bh bl) (H L x : Int)
    (hs : (wMay (ah + bh + (al + bl) / 4294967296) ((al + bl) % 4294967296) ∧ H = ah + bh + (al + bl) / 4294967296 ∧ L = (al + bl) % 4294967296 ∧ x = 0) ∨ (¬ wMay (ah + bh + (al + bl) / 4294967296) ((al + bl) % 4294967296) ∧ H = 0 ∧ L = 0 ∧ x = 14)) :
    Calls Try.prog 18 #[.agg #[.int .i64 ah, .int .i64 al], .agg #[.int .i64 bh, .int .i64 bl]] w fun e w' => e = .returned (.tuple #[.agg #[.int .i64 H, .int .i64 L], .int .i64 x]) ∧ Below w.heap.size w w' := by
  have h' : decide (wMay ah al) = true := decide_eq_true h
  have k' : decide (wMay bh bl) = true := decide_eq_true k
  have H0 := Lib.hid h
  have K0 := Lib.hid k
  have hs0 := Lib.hid hs
  go_enter Try.func18, Try.ntmps18
  go_wp2_with fail
  refine (wmay_any ah al _).mono ?_
  rintro e w1 ⟨rfl, hb⟩
  rw [h']
  have hbb := Block.below (Block.alloc (Block.new (w.alloc (.cells #[.int .i64 ah, .int .i64 al] 23)) 23 #[.int .i64 bh, .int .i64 bl]) (.cells #[.int .i64 0, .int .i64 0] 23)) hb (by simp)
  rw [show (w.alloc (.cells #[.int .i64 ah, .int .i64 al] 23)).heap.size = w.heap.size + 1 from by simp] at hbb
  have hba := Block.below (Block.alloc (Block.alloc (Block.new w 23 #[.int .i64 ah, .int .i64 al]) (.cells #[.int .i64 bh, .int .i64 bl] 23)) (.cells #[.int .i64 0, .int .i64 0] 23)) hb (by simp; omega)
  have he0 : w1.cell? ⟨w.heap.size + 1, 0, none⟩ = some (.int .i64 bh) := hbb.cell 0
  have he1 : w1.cell? ⟨w.heap.size + 1, 1, none⟩ = some (.int .i64 bl) := hbb.cell 1
  have hbl := block_new hb (g := w.heap.size + 1 + 1) (by simp)
  have hbe := below_then (below_a3 _ _ _ _) hb
  clear hb h h' k hs
  go_wp2_with fail
  refine (wmay_any bh bl _).mono ?_
  rintro e w2 ⟨rfl, hb⟩
  rw [k']
  have hbl2 := hbl.below hb hbl.lt
  have hba2 := hba.below hb hba.lt
  have hbb2 := hbb.below hb hbb.lt
  have hbe2 := below_then hbe hb
  clear hb k' hbe hbl hba hbb he0 he1
  have he0 : w2.cell? ⟨w.heap.size + 1, 0, none⟩ = some (.int .i64 bh) := hbb2.cell 0
  have he1 : w2.cell? ⟨w.heap.size + 1, 1, none⟩ = some (.int .i64 bl) := hbb2.cell 1
  have hg0 : w2.cell? ⟨w.heap.size, 0, none⟩ = some (.int .i64 ah) := hba2.cell 0
  have hg1 : w2.cell? ⟨w.heap.size, 1, none⟩ = some (.int .i64 al) := hba2.cell 1
  go_wp2_with fail
  have h1 := H0.out
  have h2 := K0.out
  unfold wMay at h1 h2
  refine (plus_any ah al bh bl _ (by omega) (by omega) (by omega) (by omega) (by omega) (by omega) (by omega) (by omega)).mono ?_
  rintro e w3 ⟨rfl, hb⟩
  clear h1 h2
  have hbl3 := hbl2.below hb hbl2.lt
  have hbe3 := below_then hbe2 hb
  clear hb hbe2 hbl2 hba2 hbb2 he0 he1 hg0 hg1
  rcases hs0.out with ⟨hm, rfl, rfl, rfl⟩ | ⟨hm, rfl, rfl, rfl⟩
  case' inl => have hM := Lib.hid (ranged_ok _ _ w3 hm)
  case' inr => have hM := Lib.hid (ranged_no _ _ w3 hm)
  all_goals
    clear hm
    go_wp2_with fail
    refine hM.out.mono ?_
    rintro e w4 ⟨rfl, hb⟩
    have hbl4 := hbl3.below hb hbl3.lt
    have hbe4 := below_then hbe3 hb
    have hd0 : w4.cell? ⟨w.heap.size + 1 + 1, 0, none⟩ = some (.int .i64 0) := hbl4.cell 0
    have hd1 : w4.cell? ⟨w.heap.size + 1 + 1, 1, none⟩ = some (.int .i64 0) := hbl4.cell 1
    have hf0 := hbl4.free 0
    have hf1 := hbl4.free 1
    clear hb hbe3 hbl3
    go_wp2_with fail
    refine bodyPost_ret (results_block2 rfl _ _ (w.heap.size + 1 + 1) _ _ rfl ((hbl4.set_ 0 _).set_ 1 _) Try.underlying23 rfl info_wide) rfl ?_
    exact ⟨rfl, (hbe4.setCell (p := ⟨w.heap.size + 1 + 1, 0, none⟩) (by simp; omega) _).setCell (p := ⟨w.heap.size + 1 + 1, 1, none⟩) (by simp; omega) _⟩

theorem int_arg (hi lo : Int) (w : World) (h : ¬ wMay hi lo) :
    Calls Try.prog 10 #[.agg #[.int .i64 hi, .int .i64 lo]] w fun e w' => e = .returned (.tuple #[.int .i64 0, .int .i64 1]) ∧ Below w.heap.size w w' := by
  have h' : decide (wMay hi lo) = false := decide_eq_false h
  go_enter Try.func10, Try.ntmps10
  go_wp2_with fail
  refine (wmay_any hi lo _).mono ?_
  rintro e w1 ⟨rfl, hb⟩
  rw [h']
  have hbe := below_then (below_a1 _ _) hb
  go_wp2_with fail
  go_ret2
  exact ⟨rfl, hbe⟩
theorem int_sum (hi lo : Int) (w : World) (h : wMay hi lo) (n x : Int)
    (hs : (-9223372036854775808 ≤ wNum hi lo ∧ wNum hi lo ≤ 9223372036854775807 ∧ n = wNum hi lo ∧ x = 0) ∨ (¬ (-9223372036854775808 ≤ wNum hi lo ∧ wNum hi lo ≤ 9223372036854775807) ∧ n = 0 ∧ x = 14)) :
    Calls Try.prog 10 #[.agg #[.int .i64 hi, .int .i64 lo]] w fun e w' => e = .returned (.tuple #[.int .i64 n, .int .i64 x]) ∧ Below w.heap.size w w' := by
  have h' : decide (wMay hi lo) = true := decide_eq_true h
  go_enter Try.func10, Try.ntmps10
  go_wp2_with fail
  refine (wmay_any hi lo _).mono ?_
  rintro e w1 ⟨rfl, hb⟩
  rw [h']
  have hba := block_new hb (g := w.heap.size) rfl
  have hg0 : w1.cell? ⟨w.heap.size, 0, none⟩ = some (.int .i64 hi) := hba.cell 0
  have hg1 : w1.cell? ⟨w.heap.size, 1, none⟩ = some (.int .i64 lo) := hba.cell 1
  have hbe := below_then (below_a1 _ _) hb
  clear hb h'
  obtain ⟨m, hor, hm0, hm1, hlo, hhi⟩ : ∃ m : Int, bits .or .i64 (wrap64 (hi * 4294967296)) lo = m ∧ -9223372036854775808 ≤ m ∧ m ≤ 9223372036854775807 ∧ Hid (m % 4294967296 = lo) ∧ Hid ((-9223372036854775808 ≤ wNum hi lo ∧ wNum hi lo ≤ 9223372036854775807 → m = wNum hi lo) ∧ (¬ (-9223372036854775808 ≤ wNum hi lo ∧ wNum hi lo ≤ 9223372036854775807) → m / 4294967296 ≠ hi)) := by
    unfold wMay at h
    refine ⟨_, rfl, ?_⟩
    rw [i64_or_lo _ _ (by unfold wrap64; omega) (by omega) (by omega), IntKind.wrap_i64]
    unfold wNum wrap64
    exact ⟨by omega, by omega, Lib.hid (by omega), Lib.hid ⟨by omega, by omega⟩⟩
  have Hs := Lib.hid hs
  clear h hs
  have hz : w.heap.size < w1.heap.size := hba.lt
  rcases Hs.out with ⟨h1, h2, rfl, rfl⟩ | ⟨h1, rfl, rfl⟩
  case' inl => have hq : ((m / 4294967296 : Int) == hi) = true := by have h3 := hhi.out.1 ⟨h1, h2⟩; have h4 := hlo.out; unfold wNum at h3; simp; omega
  case' inl => have hnm := Lib.hid (hhi.out.1 ⟨h1, h2⟩)
  case' inr => have hq : ((m / 4294967296 : Int) == hi) = false := by have h3 := hhi.out.2 h1; simp; exact h3
  case' inr => have hnm : True := trivial
  all_goals
    have hr : ((m % 4294967296 : Int) == lo) = true := by have h4 := hlo.out; simp; omega
    clear h1 hhi hlo Hs
    go_wp2_with fail
    go_region_held3 (fun w' => w'.cell? ⟨w.heap.size, 0, none⟩ = some (.int .i64 hi) ∧ w'.cell? ⟨w.heap.size, 1, none⟩ = some (.int .i64 lo))
      (first
        | exact ⟨hg0, hg1⟩
        | exact ⟨hk0, hk1⟩)
      (first
        | (go_at_call 9; refine (of_any m _ hm0 hm1).mono ?_; rintro e w3 ⟨rfl, hbc⟩; have hk0 := (hbc.cell (p := ⟨w.heap.size, 0, none⟩) hz).trans hg0; have hk1 := (hbc.cell (p := ⟨w.heap.size, 1, none⟩) hz).trans hg1))
    have hbe3 : Below w.heap.size w w3 := below_then (Below.drew hbe) hbc
    clear hbc hba hg0 hg1 hk0 hk1 hbe
    go_wp2_with fail
    go_ret2
    first
      | exact ⟨rfl, hbe3⟩
      | exact ⟨by rw [hnm.out]; rfl, hbe3⟩
end Go.Proofs.Ytdajjphgehbacaa
