/-
  Proved: of any schema (at most 8 Dims of at most 8 Levels, 8 Measures, 12 Views of at most 8 levels), schema.May answers just what the document says; the document's examples hold, and nothing that was handed in changes. No condition.
-/
import Derived.Test.YtbiogldapodhmaaRows
import Derived.Test.YtbiogldapodhmaaSchemaE
import Derived.Test.YtbiogldapodhmaaSchemaR
import Derived.Test.YtbiogldapodhmaaSchemaH
import Derived.WalkKit
import Derived.ProofKit
import Derived.OpenShut
import Derived.ShutString
import Derived.ChangeOld
import Derived.Below
namespace Go.Proofs.Ytbiogldapodhmaa.schemaMay
open Go.ChangeShapes Go.WideShapes Go.ChangeAt Go.RowKit
open Go.ChangeMaps (open_string shut_string)
set_option linter.unusedVariables false

theorem own : ownKnob Try.prog.godebug = none := by kernel_rfl
theorem laidOut : laidOutB Try.prog = true := by kernel_rfl

def IsRow (k : IntKind) (w : World) (a : Option Addr) (len cap : Nat) (zs : List Int) : Prop :=
  (a = none ∧ len = 0 ∧ cap = 0 ∧ zs = []) ∨
  ∃ x, a = some x ∧ len ≤ cap ∧ cap ≤ maxLen ∧ zs.length = cap ∧ (∀ i, i < zs.length → w.cell? (x.add i) = some (.int k (zs.getD i 0))) ∧ ∀ n ∈ zs, (Lit.int k n).wf = true

set_option maxRecDepth 100000 in
set_option maxHeartbeats 2000000 in
theorem walk (cs0 : Array Value) (w : World) (w0 : RC Try.prog w 26 cs0.toList) :
    Calls Try.prog 3 #[.agg cs0] w fun e w' => e = .returned (.bool true) ∧ Below w.heap.size w w' := by
  obtain ⟨A1, n1, c1, A2, n2, c2, A3, n3, c3, D, M, V, es, hS, hf, hm⟩ := schema_of w0
  obtain rfl : cs0 = #[.slice A1 n1 c1, .slice A2 n2 c2, .slice A3 n3 c3] := by rw [← Array.toArray_toList (xs := cs0), es]
  clear w0 es
  have hb0 := below_a1 w (.cells #[.slice A1 n1 c1, .slice A2 n2 c2, .slice A3 n3 c3] 26)
  have hX := Block.new w 26 #[.slice A1 n1 c1, .slice A2 n2 c2, .slice A3 n3 c3]
  have hS1 := hS.below hb0 (Nat.le_refl _)
  clear hS
  go_enter Try.func3, Try.ntmps3
  go_wp2_with fail
  have hsz1 : (w.alloc (.cells #[.slice A1 n1 c1, .slice A2 n2 c2, .slice A3 n3 c3] 26)).heap.size = w.heap.size + 1 := by simp
  generalize w.alloc (.cells #[.slice A1 n1 c1, .slice A2 n2 c2, .slice A3 n3 c3] 26) = w1 at hb0 hX hS1 hsz1 ⊢
  refine (few8_any hS1 hb0.size).mono ?_
  rintro e w2 ⟨⟨v1, v2, v3, rfl, k1, k2, k3⟩, hb2⟩
  have hX2 := hX.below hb2 hX.lt
  obtain ⟨B1, d1, B2, N2, d2, B3, N3, d3, rfl, rfl, rfl, hS3, hX3, r1, r2, r3⟩ := few_st hX2 (Nat.le_refl _) hX.lt k1 k2 k3
  have x0 : w2.cell? ⟨w.heap.size, 0, none⟩ = some (.slice A1 n1 c1) := hX2.cell 0
  have x1 : w2.cell? ⟨w.heap.size, 1, none⟩ = some (.slice A2 n2 c2) := hX2.cell 1
  have x2 : w2.cell? ⟨w.heap.size, 2, none⟩ = some (.slice A3 n3 c3) := hX2.cell 2
  have f0 := hX2.free 0
  have f1 := hX2.free 1
  have f2 := hX2.free 2
  have hfD := few_fitD hf 8
  have hfM := few_fitM hm 8
  have hlV := few_lenV V 12
  have hlD := few_lenD D 8
  have hN3 : N3 ≤ 12 := by have h1 := few_lenVs V 12; have h2 := hS3.v.len; omega
  have HB3 := below_put3 (hb0.trans (hb2.mono hb0.size)) (Nat.le_refl w.heap.size) (.slice B1 (fewD D 8).length d1) (.slice B2 N2 d2) (.slice B3 N3 d3)
  obtain ⟨D', hD'⟩ : ∃ D', fewD D 8 = D' := ⟨_, rfl⟩
  obtain ⟨M', hM'⟩ : ∃ M', M.take 8 = M' := ⟨_, rfl⟩
  obtain ⟨V', hV'⟩ : ∃ V', fewV V 12 = V' := ⟨_, rfl⟩
  rw [hD'] at hS3 hX3 r1 hfD hlD HB3 r2 r3 ⊢
  rw [hM'] at hS3 r2 hfM
  rw [hV'] at hS3 r3 hlV
  obtain ⟨N1, hN1⟩ : ∃ N1, D'.length = N1 := ⟨_, rfl⟩
  rw [hN1] at hS3 hX3 r1 r2 r3 HB3 hlD ⊢
  have HN1 := Lib.hid hN1
  have HfD := Lib.hid hfD
  have HfM := Lib.hid hfM
  have HlV := Lib.hid hlV
  clear hD' hM' hV' hN1 hfD hfM hlV hf hm k1 k2 k3 hX hX2 hb0 hb2 hS1 hsz1
  go_wp2_with fail
  rw [show ((w2.setCell ⟨w.heap.size, 0, none⟩ (.slice B1 N1 d1)).setCell ⟨w.heap.size, 1, none⟩ (.slice B2 N2 d2)).setCell ⟨w.heap.size, 2, none⟩ (.slice B3 N3 d3) = put3 w2 w.heap.size (.slice B1 N1 d1) (.slice B2 N2 d2) (.slice B3 N3 d3) from rfl]
  clear x0 x1 x2 f0 f1 f2
  generalize put3 w2 w.heap.size (.slice B1 N1 d1) (.slice B2 N2 d2) (.slice B3 N3 d3) = w3 at hS3 hX3 r1 r2 r3 HB3 ⊢
  have K := Lib.hid (show ∀ W, Below w3.heap.size w3 W → (W.cell? ⟨w.heap.size, 0, none⟩ = some (.slice B1 N1 d1) ∧ W.cell? ⟨w.heap.size, 1, none⟩ = some (.slice B2 N2 d2) ∧ W.cell? ⟨w.heap.size, 2, none⟩ = some (.slice B3 N3 d3)) ∧ HasS W W.heap.size B1 N1 d1 B2 N2 d2 B3 N3 d3 D' M' V' from fun W hW => by
    have hXW := hX3.below hW hX3.lt
    exact ⟨⟨hXW.cell 0, hXW.cell 1, hXW.cell 2⟩, (hS3.below hW (Nat.le_refl _)).more hW.size⟩)
  clear hS3 hX3 r1 r2 r3
  have k0 : ∀ y : Bel w3, y.w.cell? ⟨w.heap.size, 0, none⟩ = some (.slice B1 N1 d1) := fun y => (K.out y.w y.b).1.1
  have k1 : ∀ y : Bel w3, y.w.cell? ⟨w.heap.size, 1, none⟩ = some (.slice B2 N2 d2) := fun y => (K.out y.w y.b).1.2.1
  have k2 : ∀ y : Bel w3, y.w.cell? ⟨w.heap.size, 2, none⟩ = some (.slice B3 N3 d3) := fun y => (K.out y.w y.b).1.2.2
  obtain ⟨q, hq⟩ : ∃ q, Hid (decide (mayS D' M' V') = q) := ⟨_, Lib.hid rfl⟩
  have HM := Lib.hid fun (y : Bel w3) => y.calls fun W hw => maySchema_any (K.out W hw).2 HfD.out HfM.out (by omega)
  have HR := Lib.hid fun (y : Bel w3) => y.calls fun W hw => refMay8_any (K.out W hw).2 (by omega) (by omega)
  have HL := Lib.hid fun (y : Bel w3) => y.calls fun W hw => schemaLives_any W
  rw [hq.out] at HM HR
  clear hq K
  cases q
  all_goals
    refine wp_region_below (by kernel_rfl) (by kernel_rfl) ?_
    repeat (go_big_quiet_step (first | (go_at_call 11; exact HM.out _) | (go_at_call 12; exact HR.out _) | (go_at_call 13; exact HL.out _)))
    refine wpQuiet_nil ?_
    rintro _ ⟨⟨w4, hb4⟩, rfl⟩
    have HF := Lib.hid (HB3.trans (hb4.mono HB3.size))
    clear HM HR HL k0 k1 k2 hb4 HB3
    go_wp2_with fail
    go_ret
    exact ⟨rfl, HF.out⟩

set_option maxRecDepth 100000 in
theorem lifted (os : Os) (started : os.Started) (H : Type) (enc : TypeId × Value → H) :
    ReturnsInHanded {} Try.checked os 3 .any (Rows.schemaMaySpec.pre6 enc Try.prog Try.f3 Rows.schemaMayRow.domain false) (Rows.schemaMaySpec.post enc Try.prog Try.f3 false true false false) := by
  refine returnsInHanded_of_change (C := Try.checked) own started (by kernel_rfl) Try.func3
    (ChangeSpec.witness6 (enc := enc) (C := Try.checked) false ⟨#[], #[.agg #[.slice none 0 0, .slice none 0 0, .slice none 0 0]], []⟩ 8 (by kernel_rfl) (by kernel_rfl) (by kernel_rfl) (by kernel_rfl)) ?_
  intro W base args ds gs before hval0 hW hcnd _
  have hval : ∀ (j : Nat) t v, Try.f3.params[j]? = some t → args[j]? = some v → Value.okWide Try.prog W .any base t v := hval0
  have hW' := hW
  obtain ⟨p, q, hA0, hV, rfl, hfz, hnd⟩ := hW
  have hA : DataW.TrodAll enc Try.prog W 0 (fun _ => true) true Try.f3.params.toList args.toList ds p := hA0
  rw [Try.params3] at hA hval
  obtain ⟨v0, vs0, d0, ds0, p0, q0, hargs, rfl, rfl, h0, r0⟩ := trodAll_cons hA
  obtain ⟨rfl, rfl, rfl⟩ := trodAll_nil r0
  obtain rfl : args = #[v0] := by cases args; simp_all
  obtain ⟨rfl, rfl⟩ := trodVars_none hV
  obtain ⟨cs0, rfl, hsz0⟩ := okWide_struct Try.underlying26 (hval 0 26 v0 rfl rfl)
  have k0 := h0
  have lt0 : ∀ x ∈ p0, x.block < W.heap.size := by obtain ⟨m, hm⟩ := k0; exact DataW.trod_lt m _ _ _ hm
  have w0 : RC Try.prog W 26 cs0.toList := by
    obtain ⟨fuel, hf⟩ := h0
    exact ⟨_, _, _, _, _, fuel, _, by simpa [Value.cells] using hf⟩
  clear hA0 hval0
  refine (walk cs0 W w0).mono fun e W' ⟨he, bel⟩ => ?_
  subst he
  exact ⟨_, rfl, _, _, _, [], _, [], hW', trodAll_mk1 (shut_bool Try.underlying4 _), (trodAll_cons_mk (Below.trod laidOut (by kernel_rfl) (of_decide_eq_true (by kernel_rfl)) k0 bel lt0) trodAll_mk0), rfl, bel.frame _, fun h => by cases h⟩

theorem over : Rows.schemaMayRow.holds Try.pinned (OpenSpec.ofChange Rows.schemaMaySpec) :=
  OpenClaim.holds_of_wide 3 Try.f3 rfl rfl rfl rfl rfl rfl rfl ⟨rfl, rfl, rfl, rfl, rfl⟩ rfl rfl rfl rfl rfl (by kernel_rfl) Try.func3 (by kernel_rfl)
    (of_decide_eq_true (by kernel_rfl)) (by unfold Func.isWrapper; first | (rw [if_pos (by decide +kernel)]; kernel_rfl) | (rw [if_neg (by decide +kernel)]; exact ⟨rfl, rfl⟩))
    (fun os started H enc _ => lifted os started H enc)

theorem proved : Rows.SchemaMaySaid := over
end Go.Proofs.Ytbiogldapodhmaa.schemaMay
