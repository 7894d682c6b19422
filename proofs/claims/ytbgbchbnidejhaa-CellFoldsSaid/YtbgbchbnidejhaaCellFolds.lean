/-
  Proved: of any values (the first 60, of each the first five numbers) and any number of measures, cell.Fold answers just the document's cell, or refuses them as it says; the document's examples hold, and nothing that was handed in changes. No condition.
-/
import Derived.Test.YtbgbchbnidejhaaRows
import Derived.Test.YtbgbchbnidejhaaCellL
import Derived.Test.YtbgbchbnidejhaaCellRF
import Derived.WalkKit
import Derived.ProofKit
import Derived.OpenShut
import Derived.ShutString
import Derived.ChangeOld
import Derived.Below
namespace Go.Proofs.Ytbgbchbnidejhaa.cellFolds
open Go.ChangeShapes Go.WideShapes Go.ChangeAt Go.RowKit
open Go.ChangeMaps (open_string shut_string)
set_option linter.unusedVariables false

theorem own : ownKnob Try.prog.godebug = none := by kernel_rfl
theorem laidOut : laidOutB Try.prog = true := by kernel_rfl

def IsRow (k : IntKind) (w : World) (a : Option Addr) (len cap : Nat) (zs : List Int) : Prop :=
  (a = none ∧ len = 0 ∧ cap = 0 ∧ zs = []) ∨
  ∃ x, a = some x ∧ len ≤ cap ∧ cap ≤ maxLen ∧ zs.length = cap ∧ (∀ i, i < zs.length → w.cell? (x.add i) = some (.int k (zs.getD i 0))) ∧ ∀ n ∈ zs, (Lit.int k n).wf = true

set_option maxRecDepth 100000 in
set_option maxHeartbeats 2000000 in
theorem walk (a0 : Int) (a1 : Option Addr) (len1 cap1 : Nat) (w : World) (w0 : (Lit.int .i64 a0).wf = true) (w1 : RC Try.prog w 22 [.slice a1 len1 cap1]) :
    Calls Try.prog 3 #[.int .i64 a0, .slice a1 len1 cap1] w fun e w' => e = .returned (.bool true) ∧ Below w.heap.size w w' := by
  obtain ⟨L, hL, _⟩ := w1.lists Try.underlying22 Try.underlying24 Try.underlying3 cells_intsC cells_intC
  clear w1
  go_enter Try.func3, Try.ntmps3
  go_wp2_with fail
  refine (fewL_any hL 60 (by decide)).mono ?_
  rintro e v1 ⟨⟨A', n', c', rfl, hF, hn⟩, HB⟩
  obtain ⟨q, S, M, X, y, hr⟩ : ∃ q S M X y, Hid (cFold a0 (fewL L 60) = ((q, S, M, X), y)) := ⟨_, _, _, _, _, Lib.hid rfl⟩
  clear hL
  go_wp2_with fail
  refine (fold_any a0 hF (by omega)).mono ?_
  rintro e v2 he
  obtain ⟨P1, Pn1, Pc1, P2, Pn2, Pc2, P3, Pn3, Pc3, rfl, hP, hb1⟩ := (TellC.toH he).of hr.out
  have HB := below_then (below_then HB hb1) (below_a1 v2 (.cells #[.int .i64 q, .slice P1 Pn1 Pc1, .slice P2 Pn2 Pc2, .slice P3 Pn3 Pc3] 26))
  have hP := hP.allocS (.cells #[.int .i64 q, .slice P1 Pn1 Pc1, .slice P2 Pn2 Pc2, .slice P3 Pn3 Pc3] 26)
  have hBP := Block.new v2 26 #[.int .i64 q, .slice P1 Pn1 Pc1, .slice P2 Pn2 Pc2, .slice P3 Pn3 Pc3]
  have hF := (hF.belowS hb1).belowS (below_a1 v2 (.cells #[.int .i64 q, .slice P1 Pn1 Pc1, .slice P2 Pn2 Pc2, .slice P3 Pn3 Pc3] 26))
  clear he hb1
  go_wp2_with fail
  refine (refFold_any a0 hF (by omega)).mono ?_
  rintro e v3 he
  obtain ⟨Q1, Qn1, Qc1, Q2, Qn2, Qc2, Q3, Qn3, Qc3, rfl, hQ, hb1⟩ := (TellC.toH he).of hr.out
  have hbb := below_then hb1 (below_a1 v3 (.cells #[.int .i64 q, .slice Q1 Qn1 Qc1, .slice Q2 Qn2 Qc2, .slice Q3 Qn3 Qc3] 26))
  have HB := below_then HB hbb
  have hP := hP.belowS hbb
  have hBP := hBP.below hbb hBP.lt
  have hQ := hQ.allocS (.cells #[.int .i64 q, .slice Q1 Qn1 Qc1, .slice Q2 Qn2 Qc2, .slice Q3 Qn3 Qc3] 26)
  have hBQ := Block.new v3 26 #[.int .i64 q, .slice Q1 Qn1 Qc1, .slice Q2 Qn2 Qc2, .slice Q3 Qn3 Qc3]
  clear he hb1 hbb hF
  have g0 : (v3.alloc (.cells #[.int .i64 q, .slice Q1 Qn1 Qc1, .slice Q2 Qn2 Qc2, .slice Q3 Qn3 Qc3] 26)).cell? ⟨v2.heap.size, 0, none⟩ = some (.int .i64 q) := hBP.cell 0
  have g1 : (v3.alloc (.cells #[.int .i64 q, .slice Q1 Qn1 Qc1, .slice Q2 Qn2 Qc2, .slice Q3 Qn3 Qc3] 26)).cell? ⟨v2.heap.size, 1, none⟩ = some (.slice P1 Pn1 Pc1) := hBP.cell 1
  have g2 : (v3.alloc (.cells #[.int .i64 q, .slice Q1 Qn1 Qc1, .slice Q2 Qn2 Qc2, .slice Q3 Qn3 Qc3] 26)).cell? ⟨v2.heap.size, 2, none⟩ = some (.slice P2 Pn2 Pc2) := hBP.cell 2
  have g3 : (v3.alloc (.cells #[.int .i64 q, .slice Q1 Qn1 Qc1, .slice Q2 Qn2 Qc2, .slice Q3 Qn3 Qc3] 26)).cell? ⟨v2.heap.size, 3, none⟩ = some (.slice P3 Pn3 Pc3) := hBP.cell 3
  have k0 : (v3.alloc (.cells #[.int .i64 q, .slice Q1 Qn1 Qc1, .slice Q2 Qn2 Qc2, .slice Q3 Qn3 Qc3] 26)).cell? ⟨v3.heap.size, 0, none⟩ = some (.int .i64 q) := hBQ.cell 0
  have k1 : (v3.alloc (.cells #[.int .i64 q, .slice Q1 Qn1 Qc1, .slice Q2 Qn2 Qc2, .slice Q3 Qn3 Qc3] 26)).cell? ⟨v3.heap.size, 1, none⟩ = some (.slice Q1 Qn1 Qc1) := hBQ.cell 1
  have k2 : (v3.alloc (.cells #[.int .i64 q, .slice Q1 Qn1 Qc1, .slice Q2 Qn2 Qc2, .slice Q3 Qn3 Qc3] 26)).cell? ⟨v3.heap.size, 2, none⟩ = some (.slice Q2 Qn2 Qc2) := hBQ.cell 2
  have k3 : (v3.alloc (.cells #[.int .i64 q, .slice Q1 Qn1 Qc1, .slice Q2 Qn2 Qc2, .slice Q3 Qn3 Qc3] 26)).cell? ⟨v3.heap.size, 3, none⟩ = some (.slice Q3 Qn3 Qc3) := hBQ.cell 3
  have hyy : ((y : Int) == y) = true := by simp
  have HS := Lib.hid (refSame_any (n := q) (n' := q) hP hQ (r := true) (by simp))
  clear hBP hBQ hP hQ
  go_wp2_with fail
  refine HS.out.mono ?_
  rintro e v4 ⟨rfl, hb4⟩
  have HB := below_then HB hb4
  clear HS hb4 g0 g1 g2 g3 k0 k1 k2 k3
  go_wp2_with fail
  refine (cellLives_any _).mono ?_
  rintro e vz ⟨rfl, hbz⟩
  have HB := below_then HB hbz
  go_wp2_with fail
  go_ret
  exact ⟨rfl, HB⟩

set_option maxRecDepth 100000 in
theorem lifted (os : Os) (started : os.Started) (H : Type) (enc : TypeId × Value → H) :
    ReturnsInHanded {} Try.checked os 3 .any (Rows.cellFoldsSpec.pre6 enc Try.prog Try.f3 Rows.cellFoldsRow.domain false) (Rows.cellFoldsSpec.post enc Try.prog Try.f3 false true false false) := by
  refine returnsInHanded_of_change (C := Try.checked) own started (by kernel_rfl) Try.func3
    (ChangeSpec.witness6 (enc := enc) (C := Try.checked) false ⟨#[], #[.int .i64 0, .slice none 0 0], []⟩ 8 (by kernel_rfl) (by kernel_rfl) (by kernel_rfl) (by kernel_rfl)) ?_
  intro W base args ds gs before hval0 hW hcnd _
  have hval : ∀ (j : Nat) t v, Try.f3.params[j]? = some t → args[j]? = some v → Value.okWide Try.prog W .any base t v := hval0
  have hW' := hW
  obtain ⟨p, q, hA0, hV, rfl, hfz, hnd⟩ := hW
  have hA : DataW.TrodAll enc Try.prog W 0 (fun _ => true) true Try.f3.params.toList args.toList ds p := hA0
  rw [Try.params3] at hA hval
  obtain ⟨v0, vs0, d0, ds0, p0, q0, hargs, rfl, rfl, h0, r0⟩ := trodAll_cons hA
  obtain ⟨v1, vs1, d1, ds1, p1, q1, rfl, rfl, rfl, h1, r1⟩ := trodAll_cons r0
  obtain ⟨rfl, rfl, rfl⟩ := trodAll_nil r1
  obtain rfl : args = #[v0, v1] := by cases args; simp_all
  obtain ⟨rfl, rfl⟩ := trodVars_none hV
  obtain ⟨a0, rfl, rfl, rfl, w0⟩ := open_int Try.underlying3 (hval 0 3 v0 rfl rfl) h0
  obtain ⟨a1, len1, cap1, rfl⟩ := okWide_slice Try.underlying22 (hval 1 22 v1 rfl rfl)
  have k1 := h1
  have lt1 : ∀ x ∈ p1, x.block < W.heap.size := by obtain ⟨m, hm⟩ := k1; exact DataW.trod_lt m _ _ _ hm
  have w1 : RC Try.prog W 22 [.slice a1 len1 cap1] := by
    obtain ⟨fuel, hf⟩ := h1
    exact ⟨_, _, _, _, _, fuel, _, hf⟩
  clear hA0 hval0
  refine (walk a0 a1 len1 cap1 W w0 w1).mono fun e W' ⟨he, bel⟩ => ?_
  subst he
  exact ⟨_, rfl, _, _, _, [], _, [], hW', trodAll_mk1 (shut_bool Try.underlying4 _), (trodAll_cons_mk (shut_int Try.underlying3 w0) (trodAll_cons_mk (Below.trod laidOut (by kernel_rfl) (of_decide_eq_true (by kernel_rfl)) k1 bel lt1) trodAll_mk0)), rfl, bel.frame _, fun h => by cases h⟩

theorem over : Rows.cellFoldsRow.holds Try.pinned (OpenSpec.ofChange Rows.cellFoldsSpec) :=
  OpenClaim.holds_of_wide 3 Try.f3 rfl rfl rfl rfl rfl rfl rfl ⟨rfl, rfl, rfl, rfl, rfl⟩ rfl rfl rfl rfl rfl (by kernel_rfl) Try.func3 (by kernel_rfl)
    (of_decide_eq_true (by kernel_rfl)) (by unfold Func.isWrapper; first | (rw [if_pos (by decide +kernel)]; kernel_rfl) | (rw [if_neg (by decide +kernel)]; exact ⟨rfl, rfl⟩))
    (fun os started H enc _ => lifted os started H enc)

theorem proved : Rows.CellFoldsSaid := over
end Go.Proofs.Ytbgbchbnidejhaa.cellFolds
