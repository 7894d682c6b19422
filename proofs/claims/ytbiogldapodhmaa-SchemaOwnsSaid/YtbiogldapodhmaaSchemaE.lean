/- Layer 8's statements: the document's examples, the walk. -/
import Derived.Test.YtbiogldapodhmaaSchemaL
namespace Go.Proofs.Ytbiogldapodhmaa
open Go.RowKit

theorem num_base : numberP D0 M0 V0 [2, 3] = (0, 0) := by decide +kernel
theorem num_zero : numberP D0 M0 V0 [0, 0] = (1, 0) := by decide +kernel
theorem may_D0 : decide (mayS D0 M0 V0) = true := by decide +kernel
theorem join_D0 : joinP [2, 0] [1, 1] = [2, 1] := by decide +kernel
theorem corners_D0 : cornersP D0 = 12 := by decide +kernel
theorem corner_D0 : decide (cornerP D0 [0, 4]) = false := by decide +kernel
theorem cov_1 : decide (coversP [2, 1] [1, 1]) = true := by decide +kernel
theorem cov_2 : decide (coversP [2, 0] [1, 1]) = false := by decide +kernel
set_option maxRecDepth 100000 in
set_option maxHeartbeats 4000000 in
theorem schemaLives_any (w : World) : Calls Try.prog 13 #[] w fun e w' => e = .returned (.bool true) ∧ Below w.heap.size w w' := by
  have hB := W0_below w
  have hS := W0_has w
  have hX := W0_box w
  go_enter Try.func13, Try.ntmps13
  go_wp2_with fail
  have e0 : (((((((w).alloc (.cells #[.string ⟨#[120]⟩, .string ⟨#[121]⟩] 9)).alloc (.cells #[.string ⟨#[120]⟩, .string ⟨#[121]⟩, .string ⟨#[122]⟩] 9)).alloc (.cells #[.string ⟨#[97]⟩, .slice (some ⟨w.heap.size, 0, none⟩) 2 2, .string ⟨#[98]⟩, .slice (some ⟨w.heap.size + 1, 0, none⟩) 3 3] 42)).alloc (.cells #[.string ⟨#[109]⟩] 9)).alloc (.cells #[.int .i64 0, .int .i64 0] 3)).alloc (.cells #[.slice (some ⟨w.heap.size + 1 + 1 + 1 + 1, 0, none⟩) 2 2] 30)).alloc (.cells #[.slice (some ⟨w.heap.size + 1 + 1, 0, none⟩) 2 2, .slice (some ⟨w.heap.size + 1 + 1 + 1, 0, none⟩) 1 1, .slice (some ⟨w.heap.size + 1 + 1 + 1 + 1 + 1, 0, none⟩) 1 1] 26) = W0 w := rfl
  rw [e0]
  clear e0
  generalize W0 w = w0 at hB hS hX ⊢
  have K := Lib.hid (show ∀ W, Below w0.heap.size w0 W → (W.cell? ⟨w.heap.size + 1 + 1 + 1 + 1 + 1 + 1, 0, none⟩ = some (.slice (some ⟨w.heap.size + 1 + 1, 0, none⟩) 2 2) ∧ W.cell? ⟨w.heap.size + 1 + 1 + 1 + 1 + 1 + 1, 1, none⟩ = some (.slice (some ⟨w.heap.size + 1 + 1 + 1, 0, none⟩) 1 1) ∧ W.cell? ⟨w.heap.size + 1 + 1 + 1 + 1 + 1 + 1, 2, none⟩ = some (.slice (some ⟨w.heap.size + 1 + 1 + 1 + 1 + 1, 0, none⟩) 1 1)) ∧ HasS W W.heap.size (some ⟨w.heap.size + 1 + 1, 0, none⟩) 2 2 (some ⟨w.heap.size + 1 + 1 + 1, 0, none⟩) 1 1 (some ⟨w.heap.size + 1 + 1 + 1 + 1 + 1, 0, none⟩) 1 1 D0 M0 V0 from fun W hW => by
    have hXW := hX.below hW hX.lt
    exact ⟨⟨hXW.cell 0, hXW.cell 1, hXW.cell 2⟩, (hS.below hW (Nat.le_refl _)).more hW.size⟩)
  clear hX hS
  -- the base
  refine (base_any (K.out w0 (Below.refl _ _)).2.d (by decide)).mono ?_
  rintro e w1 ⟨⟨vb, rfl, hO⟩, hb1⟩
  rw [base0] at hO
  obtain ⟨gb, cb, rfl, hgb, hgs, hcb, hcm, hcell⟩ := hO.formP (by decide)
  clear hO
  have b1 : w1.cell? ⟨gb, 1, none⟩ = some (.int .i64 3) := hcell 1 (by decide)
  have hc2 : (2 : Int) ≤ (cb : Int) := by have : [2, 3].length ≤ cb := hcb; simp at this; omega
  have KB := Lib.hid (show ∀ W, Below w1.heap.size w1 W → W.cell? ⟨gb, 1, none⟩ = some (.int .i64 3) from fun W hW => (hW.cell (p := ⟨gb, 1, none⟩) hgs).trans b1)
  clear b1 hcell hcb hgb
  -- its number
  obtain ⟨⟨s0, s1, s2⟩, _⟩ := K.out w1 hb1
  have hN := (K.out _ (hb1.trans ((below_a1 w1 (.cells #[.int .i64 2, .int .i64 3] 3)).mono hb1.size))).2
  have hI := lit2I w1 2 3 w1.heap.size rfl
  have HN := Lib.hid (number_any hN hI fitD0 fitM0 (by decide) (by decide) fitV0 (Lib.hid num_base))
  have hba := below_a1 w1 (.cells #[.int .i64 2, .int .i64 3] 3)
  clear hN hI
  go_wp2_with fail
  refine HN.out.mono ?_
  rintro e w2 ⟨rfl, hb2⟩
  have hC := below_then hba hb2
  clear HN hba hb2 s0 s1 s2
  -- the view's
  obtain ⟨⟨s0, s1, s2⟩, _⟩ := K.out w2 (hb1.trans (hC.mono hb1.size))
  have hba := below_then hC (below_a1 w2 (.cells #[.int .i64 0, .int .i64 0] 3))
  have hN := (K.out _ (hb1.trans (hba.mono hb1.size))).2
  have hI := lit2I w2 0 0 w2.heap.size rfl
  have HN := Lib.hid (number_any hN hI fitD0 fitM0 (by decide) (by decide) fitV0 (Lib.hid num_zero))
  clear hN hI hC
  go_wp2_with fail
  refine HN.out.mono ?_
  rintro e w3 ⟨rfl, hb3⟩
  have hC := hba.trans (hb3.mono hba.size)
  clear HN hba hb3 s0 s1 s2
  -- joined
  have hba := hC.trans ((below_a2 w3 (.cells #[.int .i64 2, .int .i64 0] 3) (.cells #[.int .i64 1, .int .i64 1] 3)).mono hC.size)
  have hI := (lit2I w3 2 0 w3.heap.size rfl).allocS (.cells #[.int .i64 1, .int .i64 1] 3)
  have hI2 := lit2I (w3.alloc (.cells #[.int .i64 2, .int .i64 0] 3)) 1 1 (w3.heap.size + 1) (by simp)
  have HJ := Lib.hid (join_any hI hI2 (by decide))
  rw [join_D0] at HJ
  clear hI hI2 hC
  go_wp2_with fail
  refine HJ.out.mono ?_
  rintro e w4 ⟨⟨vj, rfl, hO⟩, hb4⟩
  obtain ⟨gj, cj, rfl, hgj, hgs2, hcj, hcm2, hcell⟩ := hO.formP (by decide)
  have hj0 : w4.cell? ⟨gj, 0, none⟩ = some (.int .i64 2) := hcell 0 (by decide)
  have hj1 : w4.cell? ⟨gj, 1, none⟩ = some (.int .i64 1) := hcell 1 (by decide)
  have hc3 : (2 : Int) ≤ (cj : Int) := by have : [2, 1].length ≤ cj := hcj; simp at this; omega
  have KJ := Lib.hid (show ∀ W, Below w4.heap.size w4 W → W.cell? ⟨gj, 0, none⟩ = some (.int .i64 2) ∧ W.cell? ⟨gj, 1, none⟩ = some (.int .i64 1) from fun W hW => ⟨(hW.cell (p := ⟨gj, 0, none⟩) hgs2).trans hj0, (hW.cell (p := ⟨gj, 1, none⟩) hgs2).trans hj1⟩)
  have hC := hba.trans (hb4.mono hba.size)
  clear HJ hba hb4 hO hcell hj0 hj1 hcj hgj
  -- May
  obtain ⟨⟨s0, s1, s2⟩, hN⟩ := K.out w4 (hb1.trans (hC.mono hb1.size))
  have HM := Lib.hid (maySchema_any hN fitD0 fitM0 (by decide))
  rw [may_D0] at HM
  clear hN
  go_wp2_with fail
  refine HM.out.mono ?_
  rintro e w5 ⟨rfl, hb5⟩
  have hC5 := hC.trans (hb5.mono hC.size)
  clear HM s0 s1 s2
  obtain ⟨⟨s0, s1, s2⟩, hN⟩ := K.out w5 (hb1.trans (hC5.mono hb1.size))
  have b1 := KB.out w5 hC5
  have HQ := Lib.hid (corners_any (A2 := some ⟨w.heap.size + 1 + 1 + 1, 0, none⟩) (n2 := 1) (c2 := 1) (A3 := some ⟨w.heap.size + 1 + 1 + 1 + 1 + 1, 0, none⟩) (n3 := 1) (c3 := 1) hN.d)
  rw [corners_D0] at HQ
  clear hN
  go_wp2_with fail
  refine HQ.out.mono ?_
  rintro e w6 ⟨rfl, hb6⟩
  have hD6 := below_then hb5 hb6
  have hC6 := hC.trans (hD6.mono hC.size)
  clear HQ s0 s1 s2 b1 hb5 hb6 hC5
  obtain ⟨⟨s0, s1, s2⟩, _⟩ := K.out w6 (hb1.trans (hC6.mono hb1.size))
  obtain ⟨j0, j1⟩ := KJ.out w6 hD6
  have hba := below_then hD6 (below_a1 w6 (.cells #[.int .i64 0, .int .i64 4] 3))
  have hN := (K.out _ (hb1.trans ((hC.trans (hba.mono hC.size)).mono hb1.size))).2
  have hI := lit2I w6 0 4 w6.heap.size rfl
  have HQ := Lib.hid (corner_any (A2 := some ⟨w.heap.size + 1 + 1 + 1, 0, none⟩) (n2 := 1) (c2 := 1) (A3 := some ⟨w.heap.size + 1 + 1 + 1 + 1 + 1, 0, none⟩) (n3 := 1) (c3 := 1) hN.d hI)
  rw [corner_D0] at HQ
  clear hN hI
  go_wp2_with fail
  refine HQ.out.mono ?_
  rintro e w7 ⟨rfl, hb7⟩
  have hD7 := hba.trans (hb7.mono hba.size)
  clear HQ s0 s1 s2 j0 j1 hba hb7 hD6 hC6
  have hba := hD7.trans ((below_a2 w7 (.cells #[.int .i64 2, .int .i64 1] 3) (.cells #[.int .i64 1, .int .i64 1] 3)).mono hD7.size)
  have hI := (lit2I w7 2 1 w7.heap.size rfl).allocS (.cells #[.int .i64 1, .int .i64 1] 3)
  have hI2 := lit2I (w7.alloc (.cells #[.int .i64 2, .int .i64 1] 3)) 1 1 (w7.heap.size + 1) (by simp)
  have HQ := Lib.hid (covers_any hI hI2)
  rw [cov_1] at HQ
  clear hI hI2
  go_wp2_with fail
  refine HQ.out.mono ?_
  rintro e w8 ⟨rfl, q, rfl⟩
  have hD8 := below_drewN hba q
  clear HQ hD7 hba
  generalize ((w7.alloc (.cells #[.int .i64 2, .int .i64 1] 3)).alloc (.cells #[.int .i64 1, .int .i64 1] 3)).drewN q = w9 at hD8 ⊢
  have hba := hD8.trans ((below_a2 w9 (.cells #[.int .i64 2, .int .i64 0] 3) (.cells #[.int .i64 1, .int .i64 1] 3)).mono hD8.size)
  have hI := (lit2I w9 2 0 w9.heap.size rfl).allocS (.cells #[.int .i64 1, .int .i64 1] 3)
  have hI2 := lit2I (w9.alloc (.cells #[.int .i64 2, .int .i64 0] 3)) 1 1 (w9.heap.size + 1) (by simp)
  have HQ := Lib.hid (covers_any hI hI2)
  rw [cov_2] at HQ
  clear hI hI2
  go_wp2_with fail
  refine HQ.out.mono ?_
  rintro e w10 ⟨rfl, q2, rfl⟩
  have hF := Lib.hid (below_then hB (below_then hb1 (hC.trans ((below_drewN hba q2).mono hC.size))))
  clear HQ hD8 hba hC hb1 hB
  go_wp2_with fail
  go_ret
  exact ⟨rfl, hF.out⟩
end Go.Proofs.Ytbiogldapodhmaa
