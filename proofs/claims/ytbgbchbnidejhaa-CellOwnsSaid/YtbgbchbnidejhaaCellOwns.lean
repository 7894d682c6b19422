/-
  Proved: of any two cells and any values (the first 10, of each the first five numbers), what is handed to cell.Merge and cell.Fold stays as it was, though what they answer is written over; the document's examples hold, and nothing that was handed in changes. No condition.
-/
import Derived.Test.YtbgbchbnidejhaaRows
import Derived.Test.YtbgbchbnidejhaaCellL
import Derived.Test.YtbgbchbnidejhaaCellW
import Derived.Test.YtbgbchbnidejhaaSized
import Derived.WalkKit
import Derived.ProofKit
import Derived.OpenShut
import Derived.ShutString
import Derived.ChangeOld
import Derived.Below
namespace Go.Proofs.Ytbgbchbnidejhaa.cellOwns
open Go.ChangeShapes Go.WideShapes Go.ChangeAt Go.RowKit
open Go.ChangeMaps (open_string shut_string)
set_option linter.unusedVariables false

theorem own : ownKnob Try.prog.godebug = none := by kernel_rfl
theorem laidOut : laidOutB Try.prog = true := by kernel_rfl

def IsRow (k : IntKind) (w : World) (a : Option Addr) (len cap : Nat) (zs : List Int) : Prop :=
  (a = none ∧ len = 0 ∧ cap = 0 ∧ zs = []) ∨
  ∃ x, a = some x ∧ len ≤ cap ∧ cap ≤ maxLen ∧ zs.length = cap ∧ (∀ i, i < zs.length → w.cell? (x.add i) = some (.int k (zs.getD i 0))) ∧ ∀ n ∈ zs, (Lit.int k n).wf = true

set_option maxRecDepth 100000 in
set_option maxHeartbeats 2000000 in
theorem walk (cs0 : Array Value) (cs1 : Array Value) (a2 : Option Addr) (len2 cap2 : Nat) (w : World) (w0 : RZ Try.prog w 26 cs0.toList) (w1 : RZ Try.prog w 26 cs1.toList) (w2 : RC Try.prog w 22 [.slice a2 len2 cap2]) :
    Calls Try.prog 8 #[.agg cs0, .agg cs1, .slice a2 len2 cap2] w fun e w' => e = .returned (.bool true) ∧ Below w.heap.size w w' := by
  obtain ⟨qa, A1, An1, Ac1, A2, An2, Ac2, A3, An3, Ac3, SA, MA, XA, ea, hA, _⟩ := cell_of w0.rc
  obtain ⟨qb, B1, Bn1, Bc1, B2, Bn2, Bc2, B3, Bn3, Bc3, SB, MB, XB, eb, hB, _⟩ := cell_of w1.rc
  obtain rfl : cs0 = #[.int .i64 qa, .slice A1 An1 Ac1, .slice A2 An2 Ac2, .slice A3 An3 Ac3] := by rw [← Array.toArray_toList (xs := cs0), ea]
  obtain rfl : cs1 = #[.int .i64 qb, .slice B1 Bn1 Bc1, .slice B2 Bn2 Bc2, .slice B3 Bn3 Bc3] := by rw [← Array.toArray_toList (xs := cs1), eb]
  have zA := Lib.hid (cell_len w0)
  have zB := Lib.hid (cell_len w1)
  obtain ⟨L, hL, _⟩ := w2.lists Try.underlying22 Try.underlying24 Try.underlying3 cells_intsC cells_intC
  clear w0 w1 w2 ea eb
  have HB := below_a2 w (.cells #[.int .i64 qa, .slice A1 An1 Ac1, .slice A2 An2 Ac2, .slice A3 An3 Ac3] 26) (.cells #[.int .i64 qb, .slice B1 Bn1 Bc1, .slice B2 Bn2 Bc2, .slice B3 Bn3 Bc3] 26)
  have hA := hA.belowS HB
  have hB := hB.belowS HB
  have hL := hL.belowS HB
  have hBA := (Block.new w 26 #[.int .i64 qa, .slice A1 An1 Ac1, .slice A2 An2 Ac2, .slice A3 An3 Ac3]).alloc (.cells #[.int .i64 qb, .slice B1 Bn1 Bc1, .slice B2 Bn2 Bc2, .slice B3 Bn3 Bc3] 26)
  have hBB := Block.new (w.alloc (.cells #[.int .i64 qa, .slice A1 An1 Ac1, .slice A2 An2 Ac2, .slice A3 An3 Ac3] 26)) 26 #[.int .i64 qb, .slice B1 Bn1 Bc1, .slice B2 Bn2 Bc2, .slice B3 Bn3 Bc3]
  rw [World.size_alloc] at hBB
  go_enter Try.func8, Try.ntmps8
  go_wp2_with fail
  generalize (w.alloc (.cells #[.int .i64 qa, .slice A1 An1 Ac1, .slice A2 An2 Ac2, .slice A3 An3 Ac3] 26)).alloc (.cells #[.int .i64 qb, .slice B1 Bn1 Bc1, .slice B2 Bn2 Bc2, .slice B3 Bn3 Bc3] 26) = v0 at HB hA hB hL hBA hBB ⊢
  refine (fewL_any hL 10 (by decide)).mono ?_
  rintro e v1 ⟨⟨A', n, c, rfl, hF, hn⟩, hb1⟩
  have HB := below_then HB hb1
  have hA := hA.belowS hb1
  have hB := hB.belowS hb1
  have hBA := hBA.below hb1 hBA.lt
  have hBB := hBB.below hb1 hBB.lt
  clear hb1 hL
  have g0 : (v1).cell? ⟨w.heap.size, 0, none⟩ = some (.int .i64 qa) := hBA.cell 0
  have g1 : (v1).cell? ⟨w.heap.size, 1, none⟩ = some (.slice A1 An1 Ac1) := hBA.cell 1
  have g2 : (v1).cell? ⟨w.heap.size, 2, none⟩ = some (.slice A2 An2 Ac2) := hBA.cell 2
  have g3 : (v1).cell? ⟨w.heap.size, 3, none⟩ = some (.slice A3 An3 Ac3) := hBA.cell 3
  go_wp2_with fail
  refine (own_any (q := qa) hA zA.out.1 zA.out.2.1 zA.out.2.2).mono ?_
  rintro e v2 ⟨⟨u1, u2, u3, rfl, ho⟩, hb1⟩
  obtain ⟨X1, Xn1, Xc1, rfl, hm1, _⟩ := ho.s.formN
  obtain ⟨X2, Xn2, Xc2, rfl, hm2, _⟩ := ho.m.formN
  obtain ⟨X3, Xn3, Xc3, rfl, hm3, _⟩ := ho.x.formN
  have hbb := below_then hb1 (below_a1 v2 (.cells #[.int .i64 qa, .slice X1 Xn1 Xc1, .slice X2 Xn2 Xc2, .slice X3 Xn3 Xc3] 26))
  have HB := below_then HB hbb
  have hF := hF.belowS hbb
  have hA := hA.belowS hbb
  have hB := hB.belowS hbb
  have hBA := hBA.below hbb hBA.lt
  have hBB := hBB.below hbb hBB.lt
  have hX : HasC v2 v2.heap.size _ _ _ _ _ _ _ _ _ _ _ _ := ⟨hm1, hm2, hm3⟩
  have hX := hX.allocS (.cells #[.int .i64 qa, .slice X1 Xn1 Xc1, .slice X2 Xn2 Xc2, .slice X3 Xn3 Xc3] 26)
  have hBX := Block.new v2 26 #[.int .i64 qa, .slice X1 Xn1 Xc1, .slice X2 Xn2 Xc2, .slice X3 Xn3 Xc3]
  clear ho hb1 hbb hm1 hm2 hm3
  clear g0 g1 g2 g3
  have g0 : (v2.alloc (.cells #[.int .i64 qa, .slice X1 Xn1 Xc1, .slice X2 Xn2 Xc2, .slice X3 Xn3 Xc3] 26)).cell? ⟨w.heap.size + 1, 0, none⟩ = some (.int .i64 qb) := hBB.cell 0
  have g1 : (v2.alloc (.cells #[.int .i64 qa, .slice X1 Xn1 Xc1, .slice X2 Xn2 Xc2, .slice X3 Xn3 Xc3] 26)).cell? ⟨w.heap.size + 1, 1, none⟩ = some (.slice B1 Bn1 Bc1) := hBB.cell 1
  have g2 : (v2.alloc (.cells #[.int .i64 qa, .slice X1 Xn1 Xc1, .slice X2 Xn2 Xc2, .slice X3 Xn3 Xc3] 26)).cell? ⟨w.heap.size + 1, 2, none⟩ = some (.slice B2 Bn2 Bc2) := hBB.cell 2
  have g3 : (v2.alloc (.cells #[.int .i64 qa, .slice X1 Xn1 Xc1, .slice X2 Xn2 Xc2, .slice X3 Xn3 Xc3] 26)).cell? ⟨w.heap.size + 1, 3, none⟩ = some (.slice B3 Bn3 Bc3) := hBB.cell 3
  go_wp2_with fail
  refine (own_any (q := qb) hB zB.out.1 zB.out.2.1 zB.out.2.2).mono ?_
  rintro e v3 ⟨⟨u1, u2, u3, rfl, ho⟩, hb1⟩
  obtain ⟨Y1, Yn1, Yc1, rfl, hm1, _⟩ := ho.s.formN
  obtain ⟨Y2, Yn2, Yc2, rfl, hm2, _⟩ := ho.m.formN
  obtain ⟨Y3, Yn3, Yc3, rfl, hm3, _⟩ := ho.x.formN
  have hbb := below_then hb1 (below_a1 v3 (.cells #[.int .i64 qb, .slice Y1 Yn1 Yc1, .slice Y2 Yn2 Yc2, .slice Y3 Yn3 Yc3] 26))
  have HB := below_then HB hbb
  have hF := hF.belowS hbb
  have hA := hA.belowS hbb
  have hB := hB.belowS hbb
  have hX := hX.belowS hbb
  have hBA := hBA.below hbb hBA.lt
  have hBB := hBB.below hbb hBB.lt
  have hBX := hBX.below hbb hBX.lt
  have hY : HasC v3 v3.heap.size _ _ _ _ _ _ _ _ _ _ _ _ := ⟨hm1, hm2, hm3⟩
  have hY := hY.allocS (.cells #[.int .i64 qb, .slice Y1 Yn1 Yc1, .slice Y2 Yn2 Yc2, .slice Y3 Yn3 Yc3] 26)
  have hBY := Block.new v3 26 #[.int .i64 qb, .slice Y1 Yn1 Yc1, .slice Y2 Yn2 Yc2, .slice Y3 Yn3 Yc3]
  clear ho hb1 hbb hm1 hm2 hm3
  clear g0 g1 g2 g3
  have g0 : (v3.alloc (.cells #[.int .i64 qb, .slice Y1 Yn1 Yc1, .slice Y2 Yn2 Yc2, .slice Y3 Yn3 Yc3] 26)).cell? ⟨w.heap.size, 0, none⟩ = some (.int .i64 qa) := hBA.cell 0
  have g1 : (v3.alloc (.cells #[.int .i64 qb, .slice Y1 Yn1 Yc1, .slice Y2 Yn2 Yc2, .slice Y3 Yn3 Yc3] 26)).cell? ⟨w.heap.size, 1, none⟩ = some (.slice A1 An1 Ac1) := hBA.cell 1
  have g2 : (v3.alloc (.cells #[.int .i64 qb, .slice Y1 Yn1 Yc1, .slice Y2 Yn2 Yc2, .slice Y3 Yn3 Yc3] 26)).cell? ⟨w.heap.size, 2, none⟩ = some (.slice A2 An2 Ac2) := hBA.cell 2
  have g3 : (v3.alloc (.cells #[.int .i64 qb, .slice Y1 Yn1 Yc1, .slice Y2 Yn2 Yc2, .slice Y3 Yn3 Yc3] 26)).cell? ⟨w.heap.size, 3, none⟩ = some (.slice A3 An3 Ac3) := hBA.cell 3
  have k0 : (v3.alloc (.cells #[.int .i64 qb, .slice Y1 Yn1 Yc1, .slice Y2 Yn2 Yc2, .slice Y3 Yn3 Yc3] 26)).cell? ⟨w.heap.size + 1, 0, none⟩ = some (.int .i64 qb) := hBB.cell 0
  have k1 : (v3.alloc (.cells #[.int .i64 qb, .slice Y1 Yn1 Yc1, .slice Y2 Yn2 Yc2, .slice Y3 Yn3 Yc3] 26)).cell? ⟨w.heap.size + 1, 1, none⟩ = some (.slice B1 Bn1 Bc1) := hBB.cell 1
  have k2 : (v3.alloc (.cells #[.int .i64 qb, .slice Y1 Yn1 Yc1, .slice Y2 Yn2 Yc2, .slice Y3 Yn3 Yc3] 26)).cell? ⟨w.heap.size + 1, 2, none⟩ = some (.slice B2 Bn2 Bc2) := hBB.cell 2
  have k3 : (v3.alloc (.cells #[.int .i64 qb, .slice Y1 Yn1 Yc1, .slice Y2 Yn2 Yc2, .slice Y3 Yn3 Yc3] 26)).cell? ⟨w.heap.size + 1, 3, none⟩ = some (.slice B3 Bn3 Bc3) := hBB.cell 3
  go_wp2_with fail
  clear g0 g1 g2 g3 k0 k1 k2 k3
  refine (merge_any (q := qa) (q' := qb) hA hB).mono ?_
  rintro e v4 ⟨⟨u1, u2, u3, rfl, ho⟩, hb1⟩
  obtain ⟨C1, Cn1, Cc1, rfl, hm1, _⟩ := ho.s.formN
  obtain ⟨C2, Cn2, Cc2, rfl, hm2, _⟩ := ho.m.formN
  obtain ⟨C3, Cn3, Cc3, rfl, hm3, _⟩ := ho.x.formN
  obtain ⟨pC, hpC⟩ : ∃ p, Hid ((cMerge (qa, SA, MA, XA) (qb, SB, MB, XB)).1.1 = p) := ⟨_, Lib.hid rfl⟩
  obtain ⟨yC, hyC⟩ : ∃ p, Hid ((cMerge (qa, SA, MA, XA) (qb, SB, MB, XB)).2 = p) := ⟨_, Lib.hid rfl⟩
  rw [hpC.out, hyC.out]
  have hba := below_a1 v4 (.cells #[.int .i64 pC, .slice C1 Cn1 Cc1, .slice C2 Cn2 Cc2, .slice C3 Cn3 Cc3] 26)
  have hbs := below_then hb1 hba
  have hBC := Block.new v4 26 #[.int .i64 pC, .slice C1 Cn1 Cc1, .slice C2 Cn2 Cc2, .slice C3 Cn3 Cc3]
  have HSp := Lib.hid (spoil_any (q := pC) (c1 := Cc1) (c2 := Cc2) (c3 := Cc3) ((InS.of ho.s).below hba) ((InS.of ho.m).below hba) ((InS.of ho.x).below hba) hbs.size hm1.lenMax hm2.lenMax hm3.lenMax)
  have g0 : (v4.alloc (.cells #[.int .i64 pC, .slice C1 Cn1 Cc1, .slice C2 Cn2 Cc2, .slice C3 Cn3 Cc3] 26)).cell? ⟨v4.heap.size, 0, none⟩ = some (.int .i64 pC) := hBC.cell 0
  have g1 : (v4.alloc (.cells #[.int .i64 pC, .slice C1 Cn1 Cc1, .slice C2 Cn2 Cc2, .slice C3 Cn3 Cc3] 26)).cell? ⟨v4.heap.size, 1, none⟩ = some (.slice C1 Cn1 Cc1) := hBC.cell 1
  have g2 : (v4.alloc (.cells #[.int .i64 pC, .slice C1 Cn1 Cc1, .slice C2 Cn2 Cc2, .slice C3 Cn3 Cc3] 26)).cell? ⟨v4.heap.size, 2, none⟩ = some (.slice C2 Cn2 Cc2) := hBC.cell 2
  have g3 : (v4.alloc (.cells #[.int .i64 pC, .slice C1 Cn1 Cc1, .slice C2 Cn2 Cc2, .slice C3 Cn3 Cc3] 26)).cell? ⟨v4.heap.size, 3, none⟩ = some (.slice C3 Cn3 Cc3) := hBC.cell 3
  clear ho hb1 hba hm1 hm2 hm3 hBC
  go_wp2_with fail
  refine HSp.out.mono ?_
  rintro e v5 ⟨rfl, hb7⟩
  have hbb := hbs.trans hb7
  have HB := below_then HB hbb
  have hF := hF.belowS hbb
  have hA := hA.belowS hbb
  have hB := hB.belowS hbb
  have hX := hX.belowS hbb
  have hY := hY.belowS hbb
  have hBA := hBA.below hbb hBA.lt
  have hBB := hBB.below hbb hBB.lt
  have hBX := hBX.below hbb hBX.lt
  have hBY := hBY.below hbb hBY.lt
  clear hbs hb7 hbb HSp g0 g1 g2 g3
  go_wp2_with fail
  refine (fold_any 1 hF (by omega)).mono ?_
  rintro e v6 ⟨⟨u1, u2, u3, rfl, ho⟩, hb1⟩
  obtain ⟨D1, Dn1, Dc1, rfl, hm1, _⟩ := ho.s.formN
  obtain ⟨D2, Dn2, Dc2, rfl, hm2, _⟩ := ho.m.formN
  obtain ⟨D3, Dn3, Dc3, rfl, hm3, _⟩ := ho.x.formN
  obtain ⟨pD, hpD⟩ : ∃ p, Hid ((cFold 1 (fewL L 10)).1.1 = p) := ⟨_, Lib.hid rfl⟩
  obtain ⟨yD, hyD⟩ : ∃ p, Hid ((cFold 1 (fewL L 10)).2 = p) := ⟨_, Lib.hid rfl⟩
  rw [hpD.out, hyD.out]
  have hba := below_a1 v6 (.cells #[.int .i64 pD, .slice D1 Dn1 Dc1, .slice D2 Dn2 Dc2, .slice D3 Dn3 Dc3] 26)
  have hbs := below_then hb1 hba
  have hBD := Block.new v6 26 #[.int .i64 pD, .slice D1 Dn1 Dc1, .slice D2 Dn2 Dc2, .slice D3 Dn3 Dc3]
  have HSp := Lib.hid (spoil_any (q := pD) (c1 := Dc1) (c2 := Dc2) (c3 := Dc3) ((InS.of ho.s).below hba) ((InS.of ho.m).below hba) ((InS.of ho.x).below hba) hbs.size hm1.lenMax hm2.lenMax hm3.lenMax)
  have g0 : (v6.alloc (.cells #[.int .i64 pD, .slice D1 Dn1 Dc1, .slice D2 Dn2 Dc2, .slice D3 Dn3 Dc3] 26)).cell? ⟨v6.heap.size, 0, none⟩ = some (.int .i64 pD) := hBD.cell 0
  have g1 : (v6.alloc (.cells #[.int .i64 pD, .slice D1 Dn1 Dc1, .slice D2 Dn2 Dc2, .slice D3 Dn3 Dc3] 26)).cell? ⟨v6.heap.size, 1, none⟩ = some (.slice D1 Dn1 Dc1) := hBD.cell 1
  have g2 : (v6.alloc (.cells #[.int .i64 pD, .slice D1 Dn1 Dc1, .slice D2 Dn2 Dc2, .slice D3 Dn3 Dc3] 26)).cell? ⟨v6.heap.size, 2, none⟩ = some (.slice D2 Dn2 Dc2) := hBD.cell 2
  have g3 : (v6.alloc (.cells #[.int .i64 pD, .slice D1 Dn1 Dc1, .slice D2 Dn2 Dc2, .slice D3 Dn3 Dc3] 26)).cell? ⟨v6.heap.size, 3, none⟩ = some (.slice D3 Dn3 Dc3) := hBD.cell 3
  clear ho hb1 hba hm1 hm2 hm3 hBD
  go_wp2_with fail
  refine HSp.out.mono ?_
  rintro e v7 ⟨rfl, hb7⟩
  have hbb := hbs.trans hb7
  have HB := below_then HB hbb
  have hA := hA.belowS hbb
  have hB := hB.belowS hbb
  have hX := hX.belowS hbb
  have hY := hY.belowS hbb
  have hBA := hBA.below hbb hBA.lt
  have hBB := hBB.below hbb hBB.lt
  have hBX := hBX.below hbb hBX.lt
  have hBY := hBY.below hbb hBY.lt
  clear hbs hb7 hbb HSp g0 g1 g2 g3
  have g0 : (v7).cell? ⟨w.heap.size, 0, none⟩ = some (.int .i64 qa) := hBA.cell 0
  have g1 : (v7).cell? ⟨w.heap.size, 1, none⟩ = some (.slice A1 An1 Ac1) := hBA.cell 1
  have g2 : (v7).cell? ⟨w.heap.size, 2, none⟩ = some (.slice A2 An2 Ac2) := hBA.cell 2
  have g3 : (v7).cell? ⟨w.heap.size, 3, none⟩ = some (.slice A3 An3 Ac3) := hBA.cell 3
  have k0 : (v7).cell? ⟨v2.heap.size, 0, none⟩ = some (.int .i64 qa) := hBX.cell 0
  have k1 : (v7).cell? ⟨v2.heap.size, 1, none⟩ = some (.slice X1 Xn1 Xc1) := hBX.cell 1
  have k2 : (v7).cell? ⟨v2.heap.size, 2, none⟩ = some (.slice X2 Xn2 Xc2) := hBX.cell 2
  have k3 : (v7).cell? ⟨v2.heap.size, 3, none⟩ = some (.slice X3 Xn3 Xc3) := hBX.cell 3
  have HS := Lib.hid (refSame_any (n := qa) (n' := qa) hA hX (r := true) (by simp))
  go_wp2_with fail
  refine HS.out.mono ?_
  rintro e v8 ⟨rfl, hb1⟩
  have HB := below_then HB hb1
  have hB := hB.belowS hb1
  have hY := hY.belowS hb1
  have hBB := hBB.below hb1 hBB.lt
  have hBY := hBY.below hb1 hBY.lt
  clear HS hb1 g0 g1 g2 g3 k0 k1 k2 k3 hA hX hBA hBX
  have g0 : (v8).cell? ⟨w.heap.size + 1, 0, none⟩ = some (.int .i64 qb) := hBB.cell 0
  have g1 : (v8).cell? ⟨w.heap.size + 1, 1, none⟩ = some (.slice B1 Bn1 Bc1) := hBB.cell 1
  have g2 : (v8).cell? ⟨w.heap.size + 1, 2, none⟩ = some (.slice B2 Bn2 Bc2) := hBB.cell 2
  have g3 : (v8).cell? ⟨w.heap.size + 1, 3, none⟩ = some (.slice B3 Bn3 Bc3) := hBB.cell 3
  have k0 : (v8).cell? ⟨v3.heap.size, 0, none⟩ = some (.int .i64 qb) := hBY.cell 0
  have k1 : (v8).cell? ⟨v3.heap.size, 1, none⟩ = some (.slice Y1 Yn1 Yc1) := hBY.cell 1
  have k2 : (v8).cell? ⟨v3.heap.size, 2, none⟩ = some (.slice Y2 Yn2 Yc2) := hBY.cell 2
  have k3 : (v8).cell? ⟨v3.heap.size, 3, none⟩ = some (.slice Y3 Yn3 Yc3) := hBY.cell 3
  have HS := Lib.hid (refSame_any (n := qb) (n' := qb) hB hY (r := true) (by simp))
  clear hB hY hBB hBY
  go_wp2_with fail
  refine HS.out.mono ?_
  rintro e v9 ⟨rfl, hb1⟩
  have HB := below_then HB hb1
  clear HS hb1 g0 g1 g2 g3 k0 k1 k2 k3
  go_wp2_with fail
  refine (cellLives_any _).mono ?_
  rintro e vz ⟨rfl, hbz⟩
  have HB := below_then HB hbz
  go_wp2_with fail
  go_ret
  exact ⟨rfl, HB⟩

set_option maxRecDepth 100000 in
theorem lifted (os : Os) (started : os.Started) (H : Type) (enc : TypeId × Value → H) :
    ReturnsInHanded {} Try.checked os 8 .any (Rows.cellOwnsSpec.pre6 enc Try.prog Try.f8 Rows.cellOwnsRow.domain false) (Rows.cellOwnsSpec.post enc Try.prog Try.f8 false true false false) := by
  refine returnsInHanded_of_change_sized (C := Try.checked) own started (by kernel_rfl) Try.func8
    (ChangeSpec.witness6 (enc := enc) (C := Try.checked) false ⟨#[], #[.agg #[.int .i64 0, .slice none 0 0, .slice none 0 0, .slice none 0 0], .agg #[.int .i64 0, .slice none 0 0, .slice none 0 0, .slice none 0 0], .slice none 0 0], []⟩ 8 (by kernel_rfl) (by kernel_rfl) (by kernel_rfl) (by kernel_rfl)) ?_
  intro W base args ds gs before hval0 hW hcnd hsz _
  have hval : ∀ (j : Nat) t v, Try.f8.params[j]? = some t → args[j]? = some v → Value.okWide Try.prog W .any base t v := hval0
  have hW' := hW
  obtain ⟨p, q, hA0, hV, rfl, hfz, hnd⟩ := hW
  have hA : DataW.TrodAll enc Try.prog W 0 (fun _ => true) true Try.f8.params.toList args.toList ds p := hA0
  rw [Try.params8] at hA hval
  obtain ⟨v0, vs0, d0, ds0, p0, q0, hargs, rfl, rfl, h0, r0⟩ := trodAll_cons hA
  obtain ⟨v1, vs1, d1, ds1, p1, q1, rfl, rfl, rfl, h1, r1⟩ := trodAll_cons r0
  obtain ⟨v2, vs2, d2, ds2, p2, q2, rfl, rfl, rfl, h2, r2⟩ := trodAll_cons r1
  obtain ⟨rfl, rfl, rfl⟩ := trodAll_nil r2
  obtain rfl : args = #[v0, v1, v2] := by cases args; simp_all
  obtain ⟨rfl, rfl⟩ := trodVars_none hV
  obtain ⟨cs0, rfl, hsz0⟩ := okWide_struct Try.underlying26 (hval 0 26 v0 rfl rfl)
  have k0 := h0
  have lt0 : ∀ x ∈ p0, x.block < W.heap.size := by obtain ⟨m, hm⟩ := k0; exact DataW.trod_lt m _ _ _ hm
  have w0 : RZ Try.prog W 26 cs0.toList := by
    obtain ⟨fuel, hf⟩ := h0
    refine ⟨_, _, _, _, _, fuel, _, by simpa [Value.cells] using hf, fun n hn => ?_⟩
    have := List.all_eq_true.1 hsz _ (DataW.weights_mem_each (j := 0) rfl rfl n hn)
    simpa using this
  obtain ⟨cs1, rfl, hsz1⟩ := okWide_struct Try.underlying26 (hval 1 26 v1 rfl rfl)
  have k1 := h1
  have lt1 : ∀ x ∈ p1, x.block < W.heap.size := by obtain ⟨m, hm⟩ := k1; exact DataW.trod_lt m _ _ _ hm
  have w1 : RZ Try.prog W 26 cs1.toList := by
    obtain ⟨fuel, hf⟩ := h1
    refine ⟨_, _, _, _, _, fuel, _, by simpa [Value.cells] using hf, fun n hn => ?_⟩
    have := List.all_eq_true.1 hsz _ (DataW.weights_mem_each (j := 1) rfl rfl n hn)
    simpa using this
  obtain ⟨a2, len2, cap2, rfl⟩ := okWide_slice Try.underlying22 (hval 2 22 v2 rfl rfl)
  have k2 := h2
  have lt2 : ∀ x ∈ p2, x.block < W.heap.size := by obtain ⟨m, hm⟩ := k2; exact DataW.trod_lt m _ _ _ hm
  have w2 : RC Try.prog W 22 [.slice a2 len2 cap2] := by
    obtain ⟨fuel, hf⟩ := h2
    exact ⟨_, _, _, _, _, fuel, _, hf⟩
  clear hA0 hval0
  refine (walk cs0 cs1 a2 len2 cap2 W w0 w1 w2).mono fun e W' ⟨he, bel⟩ => ?_
  subst he
  exact ⟨_, rfl, _, _, _, [], _, [], hW', trodAll_mk1 (shut_bool Try.underlying4 _), (trodAll_cons_mk (Below.trod laidOut (by kernel_rfl) (of_decide_eq_true (by kernel_rfl)) k0 bel lt0) (trodAll_cons_mk (Below.trod laidOut (by kernel_rfl) (of_decide_eq_true (by kernel_rfl)) k1 bel lt1) (trodAll_cons_mk (Below.trod laidOut (by kernel_rfl) (of_decide_eq_true (by kernel_rfl)) k2 bel lt2) trodAll_mk0))), rfl, bel.frame _, fun h => by cases h⟩

theorem over : Rows.cellOwnsRow.holds Try.pinned (OpenSpec.ofChange Rows.cellOwnsSpec) :=
  OpenClaim.holds_of_wide 8 Try.f8 rfl rfl rfl rfl rfl rfl rfl ⟨rfl, rfl, rfl, rfl, rfl⟩ rfl rfl rfl rfl rfl (by kernel_rfl) Try.func8 (by kernel_rfl)
    (of_decide_eq_true (by kernel_rfl)) (by unfold Func.isWrapper; first | (rw [if_pos (by decide +kernel)]; kernel_rfl) | (rw [if_neg (by decide +kernel)]; exact ⟨rfl, rfl⟩))
    (fun os started H enc _ => lifted os started H enc)

theorem proved : Rows.CellOwnsSaid := over
end Go.Proofs.Ytbgbchbnidejhaa.cellOwns
