/-
  Proved: of any Hi and Lo, wide.May tells whether they may be, and wide.Int answers the int that they are, or api.ErrRange where that is none, or api.ErrArg where they may not be, as the document says; the document's examples hold, and nothing that was handed in changes. No condition.
-/
import Derived.Test.YtdajjphgehbacaaRows
import Derived.Test.YtdajjphgehbacaaWideLives
import Derived.WalkKit
import Derived.Below
import Derived.OpenShut
import Derived.ProofKit
import Derived.OpenShut
import Derived.ShutString
namespace Go.Proofs.Ytdajjphgehbacaa.wideInts
open Go.ChangeShapes Go.WideShapes Go.ChangeAt Go.RowKit
open Go.ChangeMaps (open_string shut_string)
set_option linter.unusedVariables false      -- a walk need not use every 'w<i>' (that an integer argument fits its kind)

theorem own : ownKnob Try.prog.godebug = none := by kernel_rfl

set_option maxRecDepth 100000 in
set_option maxHeartbeats 2000000 in
theorem walk (a0 : Int) (a1 : Int) (w0 : (Lit.int .i64 a0).wf = true) (w1 : (Lit.int .i64 a1).wf = true) (w : World) :
    Calls Try.prog 4 #[.int .i64 a0, .int .i64 a1] w fun e w' => e = .returned (.bool true) ∧ Below w.heap.size w w' := by
  obtain ⟨h0, h9⟩ := i64_of_wf w0
  obtain ⟨l0, l9⟩ := i64_of_wf w1
  by_cases hm : wMay a0 a1
  · obtain ⟨n, x, hs⟩ : ∃ n x : Int, (-9223372036854775808 ≤ wNum a0 a1 ∧ wNum a0 a1 ≤ 9223372036854775807 ∧ n = wNum a0 a1 ∧ x = 0) ∨ (¬ (-9223372036854775808 ≤ wNum a0 a1 ∧ wNum a0 a1 ≤ 9223372036854775807) ∧ n = 0 ∧ x = 14) := by
      by_cases h : -9223372036854775808 ≤ wNum a0 a1 ∧ wNum a0 a1 ≤ 9223372036854775807
      · exact ⟨_, _, .inl ⟨h.1, h.2, rfl, rfl⟩⟩
      · exact ⟨_, _, .inr ⟨h, rfl, rfl⟩⟩
    have hfar : wFar (wNum a0 a1) := by have := wMay_in hm; unfold wIn at this; unfold wFar; omega
    have HM := Lib.hid hm
    have HS := Lib.hid hs
    have HF := Lib.hid hfar
    have hlo := hm.1
    have hlo1 := hm.2.1
    clear hm hs hfar
    go_enter Try.func4, Try.ntmps4
    go_wp2_with fail
    refine (refMay_any a0 a1 _).mono ?_
    rintro e w1 ⟨rfl, rfl⟩
    rw [decide_eq_true HM.out]
    go_wp2_with fail
    refine (int_sum a0 a1 _ HM.out n x HS.out).mono ?_
    rintro e w2 ⟨rfl, hb2⟩
    have hbl := block_new hb2 (g := w.heap.size) rfl
    have hbe2 := below_then (below_a1 _ _) hb2
    clear hb2
    go_wp2_with fail
    refine (refWide_any a0 a1 _ h0 h9 hlo hlo1).mono ?_
    rintro e w3 ⟨⟨v, rfl, ho⟩, hb3⟩
    obtain ⟨gr, cr, rfl, hrow, hgr, hgr1⟩ := bits_shape ho
    have hbl3 := hbl.below hb3 hbl.lt
    have hbe3 := below_then hbe2 hb3
    clear ho hb3 hbe2 hbl
    go_wp2_with fail
    refine (refInt_any gr 0 cr (wNum a0 a1) _ hrow HF.out n x HS.out).mono ?_
    rintro e w4 ⟨rfl, q, hw4⟩
    have hbl4 : Block w4 w.heap.size 23 #[.int .i64 a0, .int .i64 a1] := by rw [hw4]; exact hbl3.drewN q
    have hbe4 : Below w.heap.size w w4 := by rw [hw4]; exact below_drewN hbe3 q
    have hc0 : w4.cell? ⟨w.heap.size, 0, none⟩ = some (.int .i64 a0) := hbl4.cell 0
    have hc1 : w4.cell? ⟨w.heap.size, 1, none⟩ = some (.int .i64 a1) := hbl4.cell 1
    clear hw4 hrow hbe3 hbl3
    go_wp2_with fail
    refine (wmay_any _ _ _).mono ?_
    rintro e w5 ⟨rfl, hb5⟩
    rw [decide_eq_true HM.out]
    have hbe5 := below_then hbe4 hb5
    clear hc0 hc1 hb5 hbe4 hbl4
    go_wp2_with fail
    refine (lives_any _).mono ?_
    rintro e w6 ⟨rfl, hb6⟩
    have hbe6 := below_then hbe5 hb6
    go_wp2_with fail
    go_ret
    exact ⟨rfl, hbe6⟩
  · have HM := Lib.hid hm
    clear hm
    go_enter Try.func4, Try.ntmps4
    go_wp2_with fail
    refine (refMay_any a0 a1 _).mono ?_
    rintro e w1 ⟨rfl, rfl⟩
    rw [decide_eq_false HM.out]
    go_wp2_with fail
    refine (int_arg a0 a1 _ HM.out).mono ?_
    rintro e w2 ⟨rfl, hb2⟩
    have hbl := block_new hb2 (g := w.heap.size) rfl
    have hbe2 := below_then (below_a1 _ _) hb2
    have hc0 : w2.cell? ⟨w.heap.size, 0, none⟩ = some (.int .i64 a0) := hbl.cell 0
    have hc1 : w2.cell? ⟨w.heap.size, 1, none⟩ = some (.int .i64 a1) := hbl.cell 1
    clear hb2 hbl
    go_wp2_with fail
    refine (wmay_any _ _ _).mono ?_
    rintro e w5 ⟨rfl, hb5⟩
    rw [decide_eq_false HM.out]
    have hbe5 := below_then hbe2 hb5
    clear hc0 hc1 hb5 hbe2
    go_wp2_with fail
    refine (lives_any _).mono ?_
    rintro e w6 ⟨rfl, hb6⟩
    have hbe6 := below_then hbe5 hb6
    go_wp2_with fail
    go_ret
    exact ⟨rfl, hbe6⟩
  -- go_enter Try.func4, Try.ntmps4
  -- go_wp2
  -- go_ret
  -- exact ⟨rfl, by repeat (first | exact Grown.refl _ | apply Grown.drew | apply Grown.alloc)⟩

set_option maxRecDepth 100000 in
theorem lifted (os : Os) (started : os.Started) (H : Type) (enc : TypeId × Value → H) :
    ReturnsInHanded {} Try.checked os 4 .any (Rows.wideIntsSpec.pre6 enc Try.prog Try.f4 Rows.wideIntsRow.domain false) (Rows.wideIntsSpec.post enc Try.prog Try.f4 false true false false) := by
  refine returnsInHanded_of_change (C := Try.checked) own started (by kernel_rfl) Try.func4
    (ChangeSpec.witness6 (enc := enc) (C := Try.checked) false ⟨#[], #[.int .i64 0, .int .i64 0], []⟩ 8 (by kernel_rfl) (by kernel_rfl) (by kernel_rfl) (by kernel_rfl)) ?_
  intro W base args ds gs before hval0 hW hcnd _
  have hval : ∀ (j : Nat) t v, Try.f4.params[j]? = some t → args[j]? = some v → Value.okWide Try.prog W .any base t v := hval0
  have hW' := hW
  obtain ⟨p, q, hA0, hV, rfl, hfz, hnd⟩ := hW
  have hA : DataW.TrodAll enc Try.prog W 0 (fun _ => true) true Try.f4.params.toList args.toList ds p := hA0
  rw [Try.params4] at hA hval
  obtain ⟨v0, vs0, d0, ds0, p0, q0, hargs, rfl, rfl, h0, r0⟩ := trodAll_cons hA
  obtain ⟨v1, vs1, d1, ds1, p1, q1, rfl, rfl, rfl, h1, r1⟩ := trodAll_cons r0
  obtain ⟨rfl, rfl, rfl⟩ := trodAll_nil r1
  obtain rfl : args = #[v0, v1] := by cases args; simp_all
  obtain ⟨rfl, rfl⟩ := trodVars_none hV
  obtain ⟨a0, rfl, rfl, rfl, w0⟩ := open_int Try.underlying3 (hval 0 3 v0 rfl rfl) h0
  obtain ⟨a1, rfl, rfl, rfl, w1⟩ := open_int Try.underlying3 (hval 1 3 v1 rfl rfl) h1
  clear hA0 hval0
  simp only [List.append_nil] at hW'
  refine (walk a0 a1 w0 w1 W).mono fun e W' ⟨he, hg⟩ => ?_
  subst he
  exact ⟨_, rfl, _, _, _, [], _, [], hW', trodAll_mk1 (shut_bool Try.underlying4 _), (trodAll_cons_mk (shut_int Try.underlying3 w0) (trodAll_cons_mk (shut_int Try.underlying3 w1) trodAll_mk0)), rfl, hg.frame _, fun h => by cases h⟩

theorem over : Rows.wideIntsRow.holds Try.pinned (OpenSpec.ofChange Rows.wideIntsSpec) :=
  OpenClaim.holds_of_wide 4 Try.f4 rfl rfl rfl rfl rfl rfl rfl ⟨rfl, rfl, rfl, rfl, rfl⟩ rfl rfl rfl rfl rfl (by kernel_rfl) Try.func4 (by kernel_rfl)
    (of_decide_eq_true (by kernel_rfl)) (by unfold Func.isWrapper; first | (rw [if_pos (by decide +kernel)]; kernel_rfl) | (rw [if_neg (by decide +kernel)]; exact ⟨rfl, rfl⟩))
    (fun os started H enc _ => lifted os started H enc)

theorem proved : Rows.WideIntsSaid :=
  over
end Go.Proofs.Ytdajjphgehbacaa.wideInts
