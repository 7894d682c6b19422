/-
  Proved: of any cell cell.May tells just what the document says, cell.Empty tells the document's empty cell of any number of measures, and that one may be; the document's examples hold, and nothing that was handed in changes. No condition.
-/
import Derived.Test.YtbgbchbnidejhaaRows
import Derived.Test.YtbgbchbnidejhaaCellL
import Derived.Test.YtbgbchbnidejhaaCellRF
import Derived.WalkKit
import Derived.ProofKit
import Derived.OpenShut
import Derived.ShutString
import Derived.ChangeOld
import Derived.Below
namespace Go.Proofs.Ytbgbchbnidejhaa.cellMay
open Go.ChangeShapes Go.WideShapes Go.ChangeAt Go.RowKit
open Go.ChangeMaps (open_string shut_string)
set_option linter.unusedVariables false

theorem own : ownKnob Try.prog.godebug = none := by kernel_rfl
theorem laidOut : laidOutB Try.prog = true := by kernel_rfl

def IsRow (k : IntKind) (w : World) (a : Option Addr) (len cap : Nat) (zs : List Int) : Prop :=
  (a = none ∧ len = 0 ∧ cap = 0 ∧ zs = []) ∨
  ∃ x, a = some x ∧ len ≤ cap ∧ cap ≤ maxLen ∧ zs.length = cap ∧ (∀ i, i < zs.length → w.cell? (x.add i) = some (.int k (zs.getD i 0))) ∧ ∀ n ∈ zs, (Lit.int k n).wf = true

set_option maxRecDepth 100000 in
set_option maxHeartbeats 2000000 in
theorem walk (cs0 : Array Value) (a1 : Int) (w : World) (w0 : RC Try.prog w 26 cs0.toList) (w1 : (Lit.int .i64 a1).wf = true) :
    Calls Try.prog 5 #[.agg cs0, .int .i64 a1] w fun e w' => e = .returned (.bool true) ∧ Below w.heap.size w w' := by
  obtain ⟨qa, A1, An1, Ac1, A2, An2, Ac2, A3, An3, Ac3, SA, MA, XA, ea, hA, _⟩ := cell_of w0
  obtain rfl : cs0 = #[.int .i64 qa, .slice A1 An1 Ac1, .slice A2 An2 Ac2, .slice A3 An3 Ac3] := by rw [← Array.toArray_toList (xs := cs0), ea]
  clear w0 ea
  have HB := below_a1 w (.cells #[.int .i64 qa, .slice A1 An1 Ac1, .slice A2 An2 Ac2, .slice A3 An3 Ac3] 26)
  have hA := hA.belowS HB
  have hBA := Block.new w 26 #[.int .i64 qa, .slice A1 An1 Ac1, .slice A2 An2 Ac2, .slice A3 An3 Ac3]
  obtain ⟨r, hr⟩ : ∃ r : Bool, Hid (r = true ↔ cMay (qa, SA, MA, XA)) := ⟨decide (cMay (qa, SA, MA, XA)), Lib.hid (by simp)⟩
  obtain ⟨m, hm⟩ : ∃ m : Nat, m = (min (max a1 0) 2).toNat := ⟨_, rfl⟩
  have hm2 : m ≤ 2 := by omega
  have hem : Hid (cMay (0, List.replicate m 0, List.replicate m 0, List.replicate m 0)) := Lib.hid (cEmpty_may hm2)
  have HEm := Lib.hid fun W => empty_any a1 W hm
  have Hm := Lib.hid hm
  clear hm
  go_enter Try.func5, Try.ntmps5
  go_wp2_with fail
  generalize w.alloc (.cells #[.int .i64 qa, .slice A1 An1 Ac1, .slice A2 An2 Ac2, .slice A3 An3 Ac3] 26) = v0 at HB hA hBA ⊢
  refine (HEm.out _).mono ?_
  rintro e v1 ⟨⟨e1, e2, e3, rfl, ho, _⟩, hb1⟩
  have hbb := below_then hb1 (below_a1 v1 (.cells #[.int .i64 0, .slice (some ⟨e1, 0, none⟩) m m, .slice (some ⟨e2, 0, none⟩) m m, .slice (some ⟨e3, 0, none⟩) m m] 26))
  have HB := below_then HB hbb
  have hA := hA.belowS hbb
  have hBA := hBA.below hbb hBA.lt
  have hD0 : HasC v1 v1.heap.size _ _ _ _ _ _ _ _ _ (List.replicate m 0) (List.replicate m 0) (List.replicate m 0) := ⟨ho.s.has, ho.m.has, ho.x.has⟩
  have hD := hD0.allocS (.cells #[.int .i64 0, .slice (some ⟨e1, 0, none⟩) m m, .slice (some ⟨e2, 0, none⟩) m m, .slice (some ⟨e3, 0, none⟩) m m] 26)
  have hBD := Block.new v1 26 #[.int .i64 0, .slice (some ⟨e1, 0, none⟩) m m, .slice (some ⟨e2, 0, none⟩) m m, .slice (some ⟨e3, 0, none⟩) m m]
  clear hb1 hbb ho hD0 HEm
  by_cases hneg : a1 < 0
  · go_wp2_with fail
    generalize v1.alloc (.cells #[.int .i64 0, .slice (some ⟨e1, 0, none⟩) m m, .slice (some ⟨e2, 0, none⟩) m m, .slice (some ⟨e3, 0, none⟩) m m] 26) = v2 at HB hA hBA hD hBD ⊢
    have g0 := trivial
    have g1 := trivial
    have g2 := trivial
    have g3 := trivial
    have HE := Lib.hid (refEmpty_any 0 v2.drew (m := m) (by have := Hm.out; omega))
    have K : Hid (∀ y, Below v2.heap.size v2 y → y.cell? ⟨v1.heap.size, 0, none⟩ = some (.int .i64 0) ∧ y.cell? ⟨v1.heap.size, 1, none⟩ = some (.slice (some ⟨e1, 0, none⟩) m m) ∧ y.cell? ⟨v1.heap.size, 2, none⟩ = some (.slice (some ⟨e2, 0, none⟩) m m) ∧ y.cell? ⟨v1.heap.size, 3, none⟩ = some (.slice (some ⟨e3, 0, none⟩) m m)) :=
      Lib.hid fun y hy => ⟨(hBD.below hy hBD.lt).cell 0, (hBD.below hy hBD.lt).cell 1, (hBD.below hy hBD.lt).cell 2, (hBD.below hy hBD.lt).cell 3⟩
    go_region_held3 (fun w' => w'.cell? ⟨v1.heap.size, 0, none⟩ = some (.int .i64 0) ∧ w'.cell? ⟨v1.heap.size, 1, none⟩ = some (.slice (some ⟨e1, 0, none⟩) m m) ∧ w'.cell? ⟨v1.heap.size, 2, none⟩ = some (.slice (some ⟨e2, 0, none⟩) m m) ∧ w'.cell? ⟨v1.heap.size, 3, none⟩ = some (.slice (some ⟨e3, 0, none⟩) m m))
      (first
        | exact K.out _ hd2
        | exact K.out _ hd1
        | exact K.out _ (Below.drew (Below.refl _ _)))
      (first
        | (go_at_call 18; refine HE.out.mono ?_; rintro e y1 ⟨⟨u1, u2, u3, rfl, ho, _⟩, hb1⟩; obtain ⟨F1, Fn1, Fc1, F2, Fn2, Fc2, F3, Fn3, Fc3, rfl, rfl, rfl, hF⟩ := ho.form; have hd1 := (show Below v2.heap.size v2 v2.drew from Below.drew (Below.refl _ _)).trans hb1)
        | (go_at_call 13; refine (refSame_any (hD.belowS hd1) hF (r := true) (by simp)).mono ?_; rintro e y2 ⟨rfl, hb2⟩; have hd2 := below_then hd1 hb2))
    have HB := below_then HB hd2
    have hA := hA.belowS hd2
    have hD := hD.belowS hd2
    have hBA := hBA.below hd2 hBA.lt
    have hBD := hBD.below hd2 hBD.lt
    clear hd1 hd2 hb1 hb2 K HE ho hF g0 g1 g2 g3
    have a0 : ∀ y : Bel y2, y.w.cell? ⟨w.heap.size, 0, none⟩ = some (.int .i64 qa) := fun y => y.cell (hBA.cell 0)
    have a1 : ∀ y : Bel y2, y.w.cell? ⟨w.heap.size, 1, none⟩ = some (.slice A1 An1 Ac1) := fun y => y.cell (hBA.cell 1)
    have a2 : ∀ y : Bel y2, y.w.cell? ⟨w.heap.size, 2, none⟩ = some (.slice A2 An2 Ac2) := fun y => y.cell (hBA.cell 2)
    have a3 : ∀ y : Bel y2, y.w.cell? ⟨w.heap.size, 3, none⟩ = some (.slice A3 An3 Ac3) := fun y => y.cell (hBA.cell 3)
    have d0 : ∀ y : Bel y2, y.w.cell? ⟨v1.heap.size, 0, none⟩ = some (.int .i64 0) := fun y => y.cell (hBD.cell 0)
    have d1 : ∀ y : Bel y2, y.w.cell? ⟨v1.heap.size, 1, none⟩ = some (.slice (some ⟨e1, 0, none⟩) m m) := fun y => y.cell (hBD.cell 1)
    have d2 : ∀ y : Bel y2, y.w.cell? ⟨v1.heap.size, 2, none⟩ = some (.slice (some ⟨e2, 0, none⟩) m m) := fun y => y.cell (hBD.cell 2)
    have d3 : ∀ y : Bel y2, y.w.cell? ⟨v1.heap.size, 3, none⟩ = some (.slice (some ⟨e3, 0, none⟩) m m) := fun y => y.cell (hBD.cell 3)
    have H1 := Lib.hid fun (y : Bel y2) => y.calls fun w hw => may_any (n := qa) (hA.belowS hw) (r := r) hr.out
    have H2 := Lib.hid fun (y : Bel y2) => y.calls fun w hw => refMay_any5 (n := qa) (hA.belowS hw) (r := r) hr.out
    have H3 := Lib.hid fun (y : Bel y2) => y.calls fun w hw => may_any (n := 0) (hD.belowS hw) (r := true) (by simpa using hem.out)
    have H4 := Lib.hid fun (y : Bel y2) => y.calls fun w hw => cellLives_any w
    have hrr : ((r : Bool) == r) = true := by simp
    clear hBA hBD hA hD
    go_wp2_with fail
    refine wp_region_below (by kernel_rfl) (by kernel_rfl) ?_
    repeat (go_big_quiet_step ((first | (go_at_call 19; with_reducible exact H1.out _) | (go_at_call 19; with_reducible exact H3.out _) | (go_at_call 20; with_reducible exact H2.out _) | (go_at_call 14; with_reducible exact H4.out _))))
    refine wpQuiet_nil ?_
    rintro _ ⟨⟨w9, hb9⟩, rfl⟩
    have HB := below_then HB hb9
    clear a0 a1 a2 a3 d0 d1 d2 d3
    go_wp2_with fail
    go_ret
    exact ⟨rfl, HB⟩
  · go_wp2_with fail
    generalize v1.alloc (.cells #[.int .i64 0, .slice (some ⟨e1, 0, none⟩) m m, .slice (some ⟨e2, 0, none⟩) m m, .slice (some ⟨e3, 0, none⟩) m m] 26) = v2 at HB hA hBA hD hBD ⊢
    have g0 := trivial
    have g1 := trivial
    have g2 := trivial
    have g3 := trivial
    have HE := Lib.hid (refEmpty_any a1 v2.drew (m := m) (by have := Hm.out; omega))
    have K : Hid (∀ y, Below v2.heap.size v2 y → y.cell? ⟨v1.heap.size, 0, none⟩ = some (.int .i64 0) ∧ y.cell? ⟨v1.heap.size, 1, none⟩ = some (.slice (some ⟨e1, 0, none⟩) m m) ∧ y.cell? ⟨v1.heap.size, 2, none⟩ = some (.slice (some ⟨e2, 0, none⟩) m m) ∧ y.cell? ⟨v1.heap.size, 3, none⟩ = some (.slice (some ⟨e3, 0, none⟩) m m)) :=
      Lib.hid fun y hy => ⟨(hBD.below hy hBD.lt).cell 0, (hBD.below hy hBD.lt).cell 1, (hBD.below hy hBD.lt).cell 2, (hBD.below hy hBD.lt).cell 3⟩
    go_region_held3 (fun w' => w'.cell? ⟨v1.heap.size, 0, none⟩ = some (.int .i64 0) ∧ w'.cell? ⟨v1.heap.size, 1, none⟩ = some (.slice (some ⟨e1, 0, none⟩) m m) ∧ w'.cell? ⟨v1.heap.size, 2, none⟩ = some (.slice (some ⟨e2, 0, none⟩) m m) ∧ w'.cell? ⟨v1.heap.size, 3, none⟩ = some (.slice (some ⟨e3, 0, none⟩) m m))
      (first
        | exact K.out _ hd2
        | exact K.out _ hd1
        | exact K.out _ (Below.drew (Below.refl _ _)))
      (first
        | (go_at_call 18; refine HE.out.mono ?_; rintro e y1 ⟨⟨u1, u2, u3, rfl, ho, _⟩, hb1⟩; obtain ⟨F1, Fn1, Fc1, F2, Fn2, Fc2, F3, Fn3, Fc3, rfl, rfl, rfl, hF⟩ := ho.form; have hd1 := (show Below v2.heap.size v2 v2.drew from Below.drew (Below.refl _ _)).trans hb1)
        | (go_at_call 13; refine (refSame_any (hD.belowS hd1) hF (r := true) (by simp)).mono ?_; rintro e y2 ⟨rfl, hb2⟩; have hd2 := below_then hd1 hb2))
    have HB := below_then HB hd2
    have hA := hA.belowS hd2
    have hD := hD.belowS hd2
    have hBA := hBA.below hd2 hBA.lt
    have hBD := hBD.below hd2 hBD.lt
    clear hd1 hd2 hb1 hb2 K HE ho hF g0 g1 g2 g3
    have a0 : ∀ y : Bel y2, y.w.cell? ⟨w.heap.size, 0, none⟩ = some (.int .i64 qa) := fun y => y.cell (hBA.cell 0)
    have a1 : ∀ y : Bel y2, y.w.cell? ⟨w.heap.size, 1, none⟩ = some (.slice A1 An1 Ac1) := fun y => y.cell (hBA.cell 1)
    have a2 : ∀ y : Bel y2, y.w.cell? ⟨w.heap.size, 2, none⟩ = some (.slice A2 An2 Ac2) := fun y => y.cell (hBA.cell 2)
    have a3 : ∀ y : Bel y2, y.w.cell? ⟨w.heap.size, 3, none⟩ = some (.slice A3 An3 Ac3) := fun y => y.cell (hBA.cell 3)
    have d0 : ∀ y : Bel y2, y.w.cell? ⟨v1.heap.size, 0, none⟩ = some (.int .i64 0) := fun y => y.cell (hBD.cell 0)
    have d1 : ∀ y : Bel y2, y.w.cell? ⟨v1.heap.size, 1, none⟩ = some (.slice (some ⟨e1, 0, none⟩) m m) := fun y => y.cell (hBD.cell 1)
    have d2 : ∀ y : Bel y2, y.w.cell? ⟨v1.heap.size, 2, none⟩ = some (.slice (some ⟨e2, 0, none⟩) m m) := fun y => y.cell (hBD.cell 2)
    have d3 : ∀ y : Bel y2, y.w.cell? ⟨v1.heap.size, 3, none⟩ = some (.slice (some ⟨e3, 0, none⟩) m m) := fun y => y.cell (hBD.cell 3)
    have H1 := Lib.hid fun (y : Bel y2) => y.calls fun w hw => may_any (n := qa) (hA.belowS hw) (r := r) hr.out
    have H2 := Lib.hid fun (y : Bel y2) => y.calls fun w hw => refMay_any5 (n := qa) (hA.belowS hw) (r := r) hr.out
    have H3 := Lib.hid fun (y : Bel y2) => y.calls fun w hw => may_any (n := 0) (hD.belowS hw) (r := true) (by simpa using hem.out)
    have H4 := Lib.hid fun (y : Bel y2) => y.calls fun w hw => cellLives_any w
    have hrr : ((r : Bool) == r) = true := by simp
    clear hBA hBD hA hD
    go_wp2_with fail
    refine wp_region_below (by kernel_rfl) (by kernel_rfl) ?_
    repeat (go_big_quiet_step ((first | (go_at_call 19; with_reducible exact H1.out _) | (go_at_call 19; with_reducible exact H3.out _) | (go_at_call 20; with_reducible exact H2.out _) | (go_at_call 14; with_reducible exact H4.out _))))
    refine wpQuiet_nil ?_
    rintro _ ⟨⟨w9, hb9⟩, rfl⟩
    have HB := below_then HB hb9
    clear a0 a1 a2 a3 d0 d1 d2 d3
    go_wp2_with fail
    go_ret
    exact ⟨rfl, HB⟩

set_option maxRecDepth 100000 in
theorem lifted (os : Os) (started : os.Started) (H : Type) (enc : TypeId × Value → H) :
    ReturnsInHanded {} Try.checked os 5 .any (Rows.cellMaySpec.pre6 enc Try.prog Try.f5 Rows.cellMayRow.domain false) (Rows.cellMaySpec.post enc Try.prog Try.f5 false true false false) := by
  refine returnsInHanded_of_change (C := Try.checked) own started (by kernel_rfl) Try.func5
    (ChangeSpec.witness6 (enc := enc) (C := Try.checked) false ⟨#[], #[.agg #[.int .i64 0, .slice none 0 0, .slice none 0 0, .slice none 0 0], .int .i64 0], []⟩ 8 (by kernel_rfl) (by kernel_rfl) (by kernel_rfl) (by kernel_rfl)) ?_
  intro W base args ds gs before hval0 hW hcnd _
  have hval : ∀ (j : Nat) t v, Try.f5.params[j]? = some t → args[j]? = some v → Value.okWide Try.prog W .any base t v := hval0
  have hW' := hW
  obtain ⟨p, q, hA0, hV, rfl, hfz, hnd⟩ := hW
  have hA : DataW.TrodAll enc Try.prog W 0 (fun _ => true) true Try.f5.params.toList args.toList ds p := hA0
  rw [Try.params5] at hA hval
  obtain ⟨v0, vs0, d0, ds0, p0, q0, hargs, rfl, rfl, h0, r0⟩ := trodAll_cons hA
  obtain ⟨v1, vs1, d1, ds1, p1, q1, rfl, rfl, rfl, h1, r1⟩ := trodAll_cons r0
  obtain ⟨rfl, rfl, rfl⟩ := trodAll_nil r1
  obtain rfl : args = #[v0, v1] := by cases args; simp_all
  obtain ⟨rfl, rfl⟩ := trodVars_none hV
  obtain ⟨cs0, rfl, hsz0⟩ := okWide_struct Try.underlying26 (hval 0 26 v0 rfl rfl)
  have k0 := h0
  have lt0 : ∀ x ∈ p0, x.block < W.heap.size := by obtain ⟨m, hm⟩ := k0; exact DataW.trod_lt m _ _ _ hm
  have w0 : RC Try.prog W 26 cs0.toList := by
    obtain ⟨fuel, hf⟩ := h0
    exact ⟨_, _, _, _, _, fuel, _, by simpa [Value.cells] using hf⟩
  obtain ⟨a1, rfl, rfl, rfl, w1⟩ := open_int Try.underlying3 (hval 1 3 v1 rfl rfl) h1
  clear hA0 hval0
  refine (walk cs0 a1 W w0 w1).mono fun e W' ⟨he, bel⟩ => ?_
  subst he
  exact ⟨_, rfl, _, _, _, [], _, [], hW', trodAll_mk1 (shut_bool Try.underlying4 _), (trodAll_cons_mk (Below.trod laidOut (by kernel_rfl) (of_decide_eq_true (by kernel_rfl)) k0 bel lt0) (trodAll_cons_mk (shut_int Try.underlying3 w1) trodAll_mk0)), rfl, bel.frame _, fun h => by cases h⟩

theorem over : Rows.cellMayRow.holds Try.pinned (OpenSpec.ofChange Rows.cellMaySpec) :=
  OpenClaim.holds_of_wide 5 Try.f5 rfl rfl rfl rfl rfl rfl rfl ⟨rfl, rfl, rfl, rfl, rfl⟩ rfl rfl rfl rfl rfl (by kernel_rfl) Try.func5 (by kernel_rfl)
    (of_decide_eq_true (by kernel_rfl)) (by unfold Func.isWrapper; first | (rw [if_pos (by decide +kernel)]; kernel_rfl) | (rw [if_neg (by decide +kernel)]; exact ⟨rfl, rfl⟩))
    (fun os started H enc _ => lifted os started H enc)

theorem proved : Rows.CellMaySaid := over
end Go.Proofs.Ytbgbchbnidejhaa.cellMay
