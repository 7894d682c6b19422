/-
  Proved: of any two lists of paths (the first 5 of each, of at most 5 names each) lattice.Cmp tells just the document's order, either way round; the document's examples hold, and nothing that was handed in changes. No condition.
-/
import Derived.Test.YtmepdkdeanbbaaaGreatJ34
import Derived.Test.YtmepdkdeanbbaaaGreatJ45
import Derived.Test.YtmepdkdeanbbaaaGreatJ50
import Derived.Below
import Derived.ChangeOld
import Derived.OpenShut
import Derived.ProofKit
import Derived.ShutString
import Derived.Test.YtmepdkdeanbbaaaGreatRows
import Derived.WalkKit
namespace Go.Proofs.YtmepdkdeanbbaaaGreat.latticeRows
open Go.ChangeShapes Go.WideShapes Go.ChangeAt Go.RowKit
open Go.ChangeMaps (open_string shut_string)
set_option linter.unusedVariables false

theorem own : ownKnob Tryz.prog.godebug = none := by kernel_rfl
theorem laidOut : laidOutB Tryz.prog = true := by kernel_rfl

def IsRow (k : IntKind) (w : World) (a : Option Addr) (len cap : Nat) (zs : List Int) : Prop :=
  (a = none ∧ len = 0 ∧ cap = 0 ∧ zs = []) ∨
  ∃ x, a = some x ∧ len ≤ cap ∧ cap ≤ maxLen ∧ zs.length = cap ∧ (∀ i, i < zs.length → w.cell? (x.add i) = some (.int k (zs.getD i 0))) ∧ ∀ n ∈ zs, (Lit.int k n).wf = true

set_option maxRecDepth 100000 in
set_option maxHeartbeats 2000000 in
theorem walk (a0 : Option Addr) (len0 cap0 : Nat) (a1 : Option Addr) (len1 cap1 : Nat) (w : World) (w0 : RC Tryz.prog w 69 [.slice a0 len0 cap0]) (w1 : RC Tryz.prog w 69 [.slice a1 len1 cap1]) :
    Calls Tryz.prog 10 #[.slice a0 len0 cap0, .slice a1 len1 cap1] w fun e w' => e = .returned (.bool true) ∧ Below w.heap.size w w' := by
  obtain ⟨K, hK, _⟩ := w0.row (E := elPathR) (G := fun _ => True) Tryz.underlying69 cells_strings (by decide) (fun cs h => by
    obtain ⟨l, h1, _⟩ := RC.elRow (E := elText) (G := fun s => s.length ≤ maxLen) Tryz.underlying23 cells_string (by decide) (fun cs h => RC.elText Tryz.underlying9 h) h
    exact ⟨l, h1, trivial⟩)
  obtain ⟨K', hK', _⟩ := w1.row (E := elPathR) (G := fun _ => True) Tryz.underlying69 cells_strings (by decide) (fun cs h => by
    obtain ⟨l, h1, _⟩ := RC.elRow (E := elText) (G := fun s => s.length ≤ maxLen) Tryz.underlying23 cells_string (by decide) (fun cs h => RC.elText Tryz.underlying9 h) h
    exact ⟨l, h1, trivial⟩)
  clear w0 w1
  go_enter Tryz.func10, Tryz.ntmps10
  go_wp2_with fail
  refine (cutL_any hK).mono ?_
  rintro e w1 ⟨⟨A1, n1, c1, rfl, h1⟩, hb1⟩
  have hK1' : Row elPathR 1 w1 (fun b => b < w1.heap.size) a1 len1 cap1 K' := hK'.mv elPathR_ok (fun k hk hl => ⟨hb1.block k hl, Nat.lt_of_lt_of_le hk hb1.size⟩)
  have HB1 := Lib.hid hb1
  clear hK hK' hb1
  go_wp2_with fail
  refine (cutL_any hK1').mono ?_
  rintro e w2 ⟨⟨A2, n2, c2, rfl, h2⟩, hb2⟩
  have h1 : Row elPathR 1 w2 (fun b => b < w2.heap.size) A1 n1 c1 (cutP K) := h1.mv elPathR_ok (fun k hk hl => ⟨hb2.block k hl, Nat.lt_of_lt_of_le hk hb2.size⟩)
  have HB2 := Lib.hid (below_then HB1.out hb2)
  generalize cutP K = L at h1
  generalize cutP K' = L' at h2
  clear hK1' hb2
  have hng := cmpL_neg L' L
  rcases cmpL_range L L' with hx | hx | hx
  all_goals
    rw [hx] at hng
    have H1 := Lib.hid (cmpL_any h1 h2 (Lib.hid hx))
    have H2 := Lib.hid (refCmpL_any h1 h2 (Lib.hid hx))
    have H3 := Lib.hid (fun k => cmpL_any (h2.mv elPathR_ok (Mv.drewN w2 k _)) (h1.mv elPathR_ok (Mv.drewN w2 k _)) (Lib.hid hng))
    have H4 := Lib.hid (fun k => refCmpL_any (h1.mv elPathR_ok (Mv.drewN w2 k _)) (h2.mv elPathR_ok (Mv.drewN w2 k _)) (Lib.hid hx))
    clear hx hng h1 h2
    go_wp2_with fail
    refine H1.out.mono ?_
    rintro e w3 ⟨rfl, rfl⟩
    go_wp2_with fail
    refine H2.out.mono ?_
    rintro e w3 ⟨rfl, k3, rfl⟩
    go_wp2_with fail
    refine (H3.out k3).mono ?_
    rintro e w4 ⟨rfl, rfl⟩
    go_wp2_with fail
    refine (H4.out k3).mono ?_
    rintro e w4 ⟨rfl, k4, rfl⟩
    have HB4 := Lib.hid (below_drewN HB2.out (k3 + k4))
    have hcz : ∀ y : World, HasC y y.heap.size none 0 0 none 0 0 none 0 0 [] [] [] := fun y => ⟨⟨rfl, Nat.le_refl _, Nat.zero_le _, fun _ => rfl, Has.nil_⟩, ⟨rfl, Nat.le_refl _, Nat.zero_le _, fun _ => rfl, Has.nil_⟩, ⟨rfl, Nat.le_refl _, Nat.zero_le _, fun _ => rfl, Has.nil_⟩⟩
    have HS := Lib.hid (fun y : World => refSame_any (n := 0) (n' := 0) (hcz y) (hcz y) (r := true) (by simp))
    clear hcz H1 H2 H3 H4
    go_wp2_with fail
    refine (HS.out _).mono ?_
    rintro e w5 ⟨rfl, hb5⟩
    have HB5 := Lib.hid (below_then HB4.out hb5)
    clear hb5
    go_wp2_with fail
    refine (latLives_any _).mono ?_
    rintro y wz ⟨rfl, hBz⟩
    have HBz := Lib.hid (below_then HB5.out hBz)
    clear hBz
    go_wp2_with fail
    go_ret
    exact ⟨rfl, HBz.out⟩

set_option maxRecDepth 100000 in
theorem lifted (os : Os) (started : os.Started) (H : Type) (enc : TypeId × Value → H) :
    ReturnsInHanded {} Tryz.checked os 10 .any (Rows.latticeRowsSpec.pre6 enc Tryz.prog Tryz.f10 Rows.latticeRowsRow.domain false) (Rows.latticeRowsSpec.post enc Tryz.prog Tryz.f10 false true false false) := by
  refine returnsInHanded_of_change (C := Tryz.checked) own started (by kernel_rfl) Tryz.func10
    (ChangeSpec.witness6 (enc := enc) (C := Tryz.checked) false ⟨#[], #[.slice none 0 0, .slice none 0 0], []⟩ 8 (by kernel_rfl) (by kernel_rfl) (by kernel_rfl) (by kernel_rfl)) ?_
  intro W base args ds gs before hval0 hW hcnd _
  have hval : ∀ (j : Nat) t v, Tryz.f10.params[j]? = some t → args[j]? = some v → Value.okWide Tryz.prog W .any base t v := hval0
  have hW' := hW
  obtain ⟨p, q, hA0, hV, rfl, hfz, hnd⟩ := hW
  have hA : DataW.TrodAll enc Tryz.prog W 0 (fun _ => true) true Tryz.f10.params.toList args.toList ds p := hA0
  rw [Tryz.params10] at hA hval
  obtain ⟨v0, vs0, d0, ds0, p0, q0, hargs, rfl, rfl, h0, r0⟩ := trodAll_cons hA
  obtain ⟨v1, vs1, d1, ds1, p1, q1, rfl, rfl, rfl, h1, r1⟩ := trodAll_cons r0
  obtain ⟨rfl, rfl, rfl⟩ := trodAll_nil r1
  obtain rfl : args = #[v0, v1] := by cases args; simp_all
  obtain ⟨rfl, rfl⟩ := trodVars_none hV
  obtain ⟨a0, len0, cap0, rfl⟩ := okWide_slice Tryz.underlying69 (hval 0 69 v0 rfl rfl)
  have k0 := h0
  have lt0 : ∀ x ∈ p0, x.block < W.heap.size := by obtain ⟨m, hm⟩ := k0; exact DataW.trod_lt m _ _ _ hm
  have w0 : RC Tryz.prog W 69 [.slice a0 len0 cap0] := by
    obtain ⟨fuel, hf⟩ := h0
    exact ⟨_, _, _, _, _, fuel, _, hf⟩
  obtain ⟨a1, len1, cap1, rfl⟩ := okWide_slice Tryz.underlying69 (hval 1 69 v1 rfl rfl)
  have k1 := h1
  have lt1 : ∀ x ∈ p1, x.block < W.heap.size := by obtain ⟨m, hm⟩ := k1; exact DataW.trod_lt m _ _ _ hm
  have w1 : RC Tryz.prog W 69 [.slice a1 len1 cap1] := by
    obtain ⟨fuel, hf⟩ := h1
    exact ⟨_, _, _, _, _, fuel, _, hf⟩
  clear hA0 hval0
  refine (walk a0 len0 cap0 a1 len1 cap1 W w0 w1).mono fun e W' ⟨he, bel⟩ => ?_
  subst he
  exact ⟨_, rfl, _, _, _, [], _, [], hW', trodAll_mk1 (shut_bool Tryz.underlying4 _), (trodAll_cons_mk (Below.trod laidOut (by kernel_rfl) (of_decide_eq_true (by kernel_rfl)) k0 bel lt0) (trodAll_cons_mk (Below.trod laidOut (by kernel_rfl) (of_decide_eq_true (by kernel_rfl)) k1 bel lt1) trodAll_mk0)), rfl, bel.frame _, fun h => by cases h⟩

theorem over : Rows.latticeRowsRow.holds Tryz.pinned (OpenSpec.ofChange Rows.latticeRowsSpec) :=
  OpenClaim.holds_of_wide 10 Tryz.f10 rfl rfl rfl rfl rfl rfl rfl ⟨rfl, rfl, rfl, rfl, rfl⟩ rfl rfl rfl rfl rfl (by kernel_rfl) Tryz.func10 (by kernel_rfl)
    (of_decide_eq_true (by kernel_rfl)) (by unfold Func.isWrapper; first | (rw [if_pos (by decide +kernel)]; kernel_rfl) | (rw [if_neg (by decide +kernel)]; exact ⟨rfl, rfl⟩))
    (fun os started H enc _ => lifted os started H enc)

theorem proved : Rows.LatticeRowsSaid := over
end Go.Proofs.YtmepdkdeanbbaaaGreat.latticeRows
