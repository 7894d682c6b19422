/-
  Proved: of any two cells cell.Merge answers just the document's cell, or refuses them as it says; the document's examples hold, and nothing that was handed in changes. No condition.
-/
import Derived.Test.YtbgbchbnidejhaaRows
import Derived.Test.YtbgbchbnidejhaaCellL
import Derived.Test.YtbgbchbnidejhaaCellRF
import Derived.WalkKit
import Derived.ProofKit
import Derived.OpenShut
import Derived.ShutString
import Derived.ChangeOld
import Derived.Below
namespace Go.Proofs.Ytbgbchbnidejhaa.cellMerges
open Go.ChangeShapes Go.WideShapes Go.ChangeAt Go.RowKit
open Go.ChangeMaps (open_string shut_string)
set_option linter.unusedVariables false

theorem own : ownKnob Try.prog.godebug = none := by kernel_rfl
theorem laidOut : laidOutB Try.prog = true := by kernel_rfl

def IsRow (k : IntKind) (w : World) (a : Option Addr) (len cap : Nat) (zs : List Int) : Prop :=
  (a = none ∧ len = 0 ∧ cap = 0 ∧ zs = []) ∨
  ∃ x, a = some x ∧ len ≤ cap ∧ cap ≤ maxLen ∧ zs.length = cap ∧ (∀ i, i < zs.length → w.cell? (x.add i) = some (.int k (zs.getD i 0))) ∧ ∀ n ∈ zs, (Lit.int k n).wf = true

set_option maxRecDepth 100000 in
set_option maxHeartbeats 2000000 in
theorem walk (cs0 : Array Value) (cs1 : Array Value) (w : World) (w0 : RC Try.prog w 26 cs0.toList) (w1 : RC Try.prog w 26 cs1.toList) :
    Calls Try.prog 4 #[.agg cs0, .agg cs1] w fun e w' => e = .returned (.bool true) ∧ Below w.heap.size w w' := by
  obtain ⟨qa, A1, An1, Ac1, A2, An2, Ac2, A3, An3, Ac3, SA, MA, XA, ea, hA, _⟩ := cell_of w0
  obtain ⟨qb, B1, Bn1, Bc1, B2, Bn2, Bc2, B3, Bn3, Bc3, SB, MB, XB, eb, hB, _⟩ := cell_of w1
  obtain rfl : cs0 = #[.int .i64 qa, .slice A1 An1 Ac1, .slice A2 An2 Ac2, .slice A3 An3 Ac3] := by rw [← Array.toArray_toList (xs := cs0), ea]
  obtain rfl : cs1 = #[.int .i64 qb, .slice B1 Bn1 Bc1, .slice B2 Bn2 Bc2, .slice B3 Bn3 Bc3] := by rw [← Array.toArray_toList (xs := cs1), eb]
  clear w0 w1 ea eb
  have HB := below_a2 w (.cells #[.int .i64 qa, .slice A1 An1 Ac1, .slice A2 An2 Ac2, .slice A3 An3 Ac3] 26) (.cells #[.int .i64 qb, .slice B1 Bn1 Bc1, .slice B2 Bn2 Bc2, .slice B3 Bn3 Bc3] 26)
  have hA := hA.belowS HB
  have hB := hB.belowS HB
  have hBA := (Block.new w 26 #[.int .i64 qa, .slice A1 An1 Ac1, .slice A2 An2 Ac2, .slice A3 An3 Ac3]).alloc (.cells #[.int .i64 qb, .slice B1 Bn1 Bc1, .slice B2 Bn2 Bc2, .slice B3 Bn3 Bc3] 26)
  have hBB := Block.new (w.alloc (.cells #[.int .i64 qa, .slice A1 An1 Ac1, .slice A2 An2 Ac2, .slice A3 An3 Ac3] 26)) 26 #[.int .i64 qb, .slice B1 Bn1 Bc1, .slice B2 Bn2 Bc2, .slice B3 Bn3 Bc3]
  rw [World.size_alloc] at hBB
  obtain ⟨q, S, M, X, y, hr⟩ : ∃ q S M X y, Hid (cMerge (qa, SA, MA, XA) (qb, SB, MB, XB) = ((q, S, M, X), y)) := ⟨_, _, _, _, _, Lib.hid rfl⟩
  go_enter Try.func4, Try.ntmps4
  go_wp2_with fail
  generalize (w.alloc (.cells #[.int .i64 qa, .slice A1 An1 Ac1, .slice A2 An2 Ac2, .slice A3 An3 Ac3] 26)).alloc (.cells #[.int .i64 qb, .slice B1 Bn1 Bc1, .slice B2 Bn2 Bc2, .slice B3 Bn3 Bc3] 26) = v1 at HB hA hB hBA hBB ⊢
  refine (merge_any hA hB).mono ?_
  rintro e v2 he
  obtain ⟨P1, Pn1, Pc1, P2, Pn2, Pc2, P3, Pn3, Pc3, rfl, hP, hb1⟩ := (TellC.toH he).of hr.out
  have HB := below_then (below_then HB hb1) (below_a1 v2 (.cells #[.int .i64 q, .slice P1 Pn1 Pc1, .slice P2 Pn2 Pc2, .slice P3 Pn3 Pc3] 26))
  have hP := hP.allocS (.cells #[.int .i64 q, .slice P1 Pn1 Pc1, .slice P2 Pn2 Pc2, .slice P3 Pn3 Pc3] 26)
  have hBP := Block.new v2 26 #[.int .i64 q, .slice P1 Pn1 Pc1, .slice P2 Pn2 Pc2, .slice P3 Pn3 Pc3]
  have hbb := below_then hb1 (below_a1 v2 (.cells #[.int .i64 q, .slice P1 Pn1 Pc1, .slice P2 Pn2 Pc2, .slice P3 Pn3 Pc3] 26))
  have hA := hA.belowS hbb
  have hB := hB.belowS hbb
  have hBA := hBA.below hbb hBA.lt
  have hBB := hBB.below hbb hBB.lt
  clear hbb
  have g0 : (v2.alloc (.cells #[.int .i64 q, .slice P1 Pn1 Pc1, .slice P2 Pn2 Pc2, .slice P3 Pn3 Pc3] 26)).cell? ⟨w.heap.size, 0, none⟩ = some (.int .i64 qa) := hBA.cell 0
  have g1 : (v2.alloc (.cells #[.int .i64 q, .slice P1 Pn1 Pc1, .slice P2 Pn2 Pc2, .slice P3 Pn3 Pc3] 26)).cell? ⟨w.heap.size, 1, none⟩ = some (.slice A1 An1 Ac1) := hBA.cell 1
  have g2 : (v2.alloc (.cells #[.int .i64 q, .slice P1 Pn1 Pc1, .slice P2 Pn2 Pc2, .slice P3 Pn3 Pc3] 26)).cell? ⟨w.heap.size, 2, none⟩ = some (.slice A2 An2 Ac2) := hBA.cell 2
  have g3 : (v2.alloc (.cells #[.int .i64 q, .slice P1 Pn1 Pc1, .slice P2 Pn2 Pc2, .slice P3 Pn3 Pc3] 26)).cell? ⟨w.heap.size, 3, none⟩ = some (.slice A3 An3 Ac3) := hBA.cell 3
  have k0 : (v2.alloc (.cells #[.int .i64 q, .slice P1 Pn1 Pc1, .slice P2 Pn2 Pc2, .slice P3 Pn3 Pc3] 26)).cell? ⟨w.heap.size + 1, 0, none⟩ = some (.int .i64 qb) := hBB.cell 0
  have k1 : (v2.alloc (.cells #[.int .i64 q, .slice P1 Pn1 Pc1, .slice P2 Pn2 Pc2, .slice P3 Pn3 Pc3] 26)).cell? ⟨w.heap.size + 1, 1, none⟩ = some (.slice B1 Bn1 Bc1) := hBB.cell 1
  have k2 : (v2.alloc (.cells #[.int .i64 q, .slice P1 Pn1 Pc1, .slice P2 Pn2 Pc2, .slice P3 Pn3 Pc3] 26)).cell? ⟨w.heap.size + 1, 2, none⟩ = some (.slice B2 Bn2 Bc2) := hBB.cell 2
  have k3 : (v2.alloc (.cells #[.int .i64 q, .slice P1 Pn1 Pc1, .slice P2 Pn2 Pc2, .slice P3 Pn3 Pc3] 26)).cell? ⟨w.heap.size + 1, 3, none⟩ = some (.slice B3 Bn3 Bc3) := hBB.cell 3
  clear he hb1
  go_wp2_with fail
  refine (refMerge_any hA hB).mono ?_
  rintro e v3 he
  obtain ⟨Q1, Qn1, Qc1, Q2, Qn2, Qc2, Q3, Qn3, Qc3, rfl, hQ, hb1⟩ := he.of hr.out
  clear g0 g1 g2 g3 k0 k1 k2 k3 hA hB hBA hBB
  have hbb := below_then hb1 (below_a1 v3 (.cells #[.int .i64 q, .slice Q1 Qn1 Qc1, .slice Q2 Qn2 Qc2, .slice Q3 Qn3 Qc3] 26))
  have HB := below_then HB hbb
  have hP := hP.belowS hbb
  have hBP := hBP.below hbb hBP.lt
  have hQ := hQ.allocS (.cells #[.int .i64 q, .slice Q1 Qn1 Qc1, .slice Q2 Qn2 Qc2, .slice Q3 Qn3 Qc3] 26)
  have hBQ := Block.new v3 26 #[.int .i64 q, .slice Q1 Qn1 Qc1, .slice Q2 Qn2 Qc2, .slice Q3 Qn3 Qc3]
  clear he hb1 hbb
  have g0 : (v3.alloc (.cells #[.int .i64 q, .slice Q1 Qn1 Qc1, .slice Q2 Qn2 Qc2, .slice Q3 Qn3 Qc3] 26)).cell? ⟨v2.heap.size, 0, none⟩ = some (.int .i64 q) := hBP.cell 0
  have g1 : (v3.alloc (.cells #[.int .i64 q, .slice Q1 Qn1 Qc1, .slice Q2 Qn2 Qc2, .slice Q3 Qn3 Qc3] 26)).cell? ⟨v2.heap.size, 1, none⟩ = some (.slice P1 Pn1 Pc1) := hBP.cell 1
  have g2 : (v3.alloc (.cells #[.int .i64 q, .slice Q1 Qn1 Qc1, .slice Q2 Qn2 Qc2, .slice Q3 Qn3 Qc3] 26)).cell? ⟨v2.heap.size, 2, none⟩ = some (.slice P2 Pn2 Pc2) := hBP.cell 2
  have g3 : (v3.alloc (.cells #[.int .i64 q, .slice Q1 Qn1 Qc1, .slice Q2 Qn2 Qc2, .slice Q3 Qn3 Qc3] 26)).cell? ⟨v2.heap.size, 3, none⟩ = some (.slice P3 Pn3 Pc3) := hBP.cell 3
  have k0 : (v3.alloc (.cells #[.int .i64 q, .slice Q1 Qn1 Qc1, .slice Q2 Qn2 Qc2, .slice Q3 Qn3 Qc3] 26)).cell? ⟨v3.heap.size, 0, none⟩ = some (.int .i64 q) := hBQ.cell 0
  have k1 : (v3.alloc (.cells #[.int .i64 q, .slice Q1 Qn1 Qc1, .slice Q2 Qn2 Qc2, .slice Q3 Qn3 Qc3] 26)).cell? ⟨v3.heap.size, 1, none⟩ = some (.slice Q1 Qn1 Qc1) := hBQ.cell 1
  have k2 : (v3.alloc (.cells #[.int .i64 q, .slice Q1 Qn1 Qc1, .slice Q2 Qn2 Qc2, .slice Q3 Qn3 Qc3] 26)).cell? ⟨v3.heap.size, 2, none⟩ = some (.slice Q2 Qn2 Qc2) := hBQ.cell 2
  have k3 : (v3.alloc (.cells #[.int .i64 q, .slice Q1 Qn1 Qc1, .slice Q2 Qn2 Qc2, .slice Q3 Qn3 Qc3] 26)).cell? ⟨v3.heap.size, 3, none⟩ = some (.slice Q3 Qn3 Qc3) := hBQ.cell 3
  have hyy : ((y : Int) == y) = true := by simp
  have HS := Lib.hid (refSame_any (n := q) (n' := q) hP hQ (r := true) (by simp))
  clear hBP hBQ hP hQ
  go_wp2_with fail
  refine HS.out.mono ?_
  rintro e v4 ⟨rfl, hb4⟩
  have HB := below_then HB hb4
  clear HS hb4 g0 g1 g2 g3 k0 k1 k2 k3
  go_wp2_with fail
  refine (cellLives_any _).mono ?_
  rintro e vz ⟨rfl, hbz⟩
  have HB := below_then HB hbz
  go_wp2_with fail
  go_ret
  exact ⟨rfl, HB⟩

set_option maxRecDepth 100000 in
theorem lifted (os : Os) (started : os.Started) (H : Type) (enc : TypeId × Value → H) :
    ReturnsInHanded {} Try.checked os 4 .any (Rows.cellMergesSpec.pre6 enc Try.prog Try.f4 Rows.cellMergesRow.domain false) (Rows.cellMergesSpec.post enc Try.prog Try.f4 false true false false) := by
  refine returnsInHanded_of_change (C := Try.checked) own started (by kernel_rfl) Try.func4
    (ChangeSpec.witness6 (enc := enc) (C := Try.checked) false ⟨#[], #[.agg #[.int .i64 0, .slice none 0 0, .slice none 0 0, .slice none 0 0], .agg #[.int .i64 0, .slice none 0 0, .slice none 0 0, .slice none 0 0]], []⟩ 8 (by kernel_rfl) (by kernel_rfl) (by kernel_rfl) (by kernel_rfl)) ?_
  intro W base args ds gs before hval0 hW hcnd _
  have hval : ∀ (j : Nat) t v, Try.f4.params[j]? = some t → args[j]? = some v → Value.okWide Try.prog W .any base t v := hval0
  have hW' := hW
  obtain ⟨p, q, hA0, hV, rfl, hfz, hnd⟩ := hW
  have hA : DataW.TrodAll enc Try.prog W 0 (fun _ => true) true Try.f4.params.toList args.toList ds p := hA0
  rw [Try.params4] at hA hval
  obtain ⟨v0, vs0, d0, ds0, p0, q0, hargs, rfl, rfl, h0, r0⟩ := trodAll_cons hA
  obtain ⟨v1, vs1, d1, ds1, p1, q1, rfl, rfl, rfl, h1, r1⟩ := trodAll_cons r0
  obtain ⟨rfl, rfl, rfl⟩ := trodAll_nil r1
  obtain rfl : args = #[v0, v1] := by cases args; simp_all
  obtain ⟨rfl, rfl⟩ := trodVars_none hV
  obtain ⟨cs0, rfl, hsz0⟩ := okWide_struct Try.underlying26 (hval 0 26 v0 rfl rfl)
  have k0 := h0
  have lt0 : ∀ x ∈ p0, x.block < W.heap.size := by obtain ⟨m, hm⟩ := k0; exact DataW.trod_lt m _ _ _ hm
  have w0 : RC Try.prog W 26 cs0.toList := by
    obtain ⟨fuel, hf⟩ := h0
    exact ⟨_, _, _, _, _, fuel, _, by simpa [Value.cells] using hf⟩
  obtain ⟨cs1, rfl, hsz1⟩ := okWide_struct Try.underlying26 (hval 1 26 v1 rfl rfl)
  have k1 := h1
  have lt1 : ∀ x ∈ p1, x.block < W.heap.size := by obtain ⟨m, hm⟩ := k1; exact DataW.trod_lt m _ _ _ hm
  have w1 : RC Try.prog W 26 cs1.toList := by
    obtain ⟨fuel, hf⟩ := h1
    exact ⟨_, _, _, _, _, fuel, _, by simpa [Value.cells] using hf⟩
  clear hA0 hval0
  refine (walk cs0 cs1 W w0 w1).mono fun e W' ⟨he, bel⟩ => ?_
  subst he
  exact ⟨_, rfl, _, _, _, [], _, [], hW', trodAll_mk1 (shut_bool Try.underlying4 _), (trodAll_cons_mk (Below.trod laidOut (by kernel_rfl) (of_decide_eq_true (by kernel_rfl)) k0 bel lt0) (trodAll_cons_mk (Below.trod laidOut (by kernel_rfl) (of_decide_eq_true (by kernel_rfl)) k1 bel lt1) trodAll_mk0)), rfl, bel.frame _, fun h => by cases h⟩

theorem over : Rows.cellMergesRow.holds Try.pinned (OpenSpec.ofChange Rows.cellMergesSpec) :=
  OpenClaim.holds_of_wide 4 Try.f4 rfl rfl rfl rfl rfl rfl rfl ⟨rfl, rfl, rfl, rfl, rfl⟩ rfl rfl rfl rfl rfl (by kernel_rfl) Try.func4 (by kernel_rfl)
    (of_decide_eq_true (by kernel_rfl)) (by unfold Func.isWrapper; first | (rw [if_pos (by decide +kernel)]; kernel_rfl) | (rw [if_neg (by decide +kernel)]; exact ⟨rfl, rfl⟩))
    (fun os started H enc _ => lifted os started H enc)

theorem proved : Rows.CellMergesSaid := over
end Go.Proofs.Ytbgbchbnidejhaa.cellMerges
