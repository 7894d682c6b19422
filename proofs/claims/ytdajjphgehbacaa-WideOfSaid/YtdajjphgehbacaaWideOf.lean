/-
  Proved: of any int, wide.Of answers just the Hi and Lo of the document's row of bits, wide.May tells that it may be, and wide.Int answers that int again; the document's examples hold, and nothing that was handed in changes. No condition.
-/
import Derived.Test.YtdajjphgehbacaaRows
import Derived.Test.YtdajjphgehbacaaWideLives
import Derived.Deep.RegionHeld3
import Derived.WalkKit
import Derived.Below
import Derived.OpenShut
import Derived.ProofKit
import Derived.OpenShut
import Derived.ShutString
namespace Go.Proofs.Ytdajjphgehbacaa.wideOf
open Go.ChangeShapes Go.WideShapes Go.ChangeAt Go.RowKit
open Go.ChangeMaps (open_string shut_string)
set_option linter.unusedVariables false      -- a walk need not use every 'w<i>' (that an integer argument fits its kind)

theorem own : ownKnob Try.prog.godebug = none := by kernel_rfl

set_option maxRecDepth 100000 in
set_option maxHeartbeats 2000000 in
theorem walk (a0 : Int) (w0 : (Lit.int .i64 a0).wf = true) (w : World) :
    Calls Try.prog 3 #[.int .i64 a0] w fun e w' => e = .returned (.bool true) ∧ Below w.heap.size w w' := by
  obtain ⟨h0, h9⟩ := i64_of_wf w0
  have hmay : wMay (a0 / 4294967296) (a0 % 4294967296) := by unfold wMay; omega
  have hnum : wNum (a0 / 4294967296) (a0 % 4294967296) = a0 := by unfold wNum; omega
  have hfar : wFar a0 := by unfold wFar; omega
  have Hi := fun W => int_sum (a0 / 4294967296) (a0 % 4294967296) W hmay a0 0 (.inl ⟨by rw [hnum]; exact h0, by rw [hnum]; exact h9, hnum.symm, rfl⟩)
  have HI := Lib.hid Hi
  have HM := Lib.hid hmay
  have HF := Lib.hid hfar
  clear Hi hmay hnum hfar
  go_enter Try.func3, Try.ntmps3
  go_wp2_with fail
  refine (of_any a0 _ h0 h9).mono ?_
  rintro e w1 ⟨rfl, hb1⟩
  have hbl := Block.new w1 23 #[.int .i64 (a0 / 4294967296), .int .i64 (a0 % 4294967296)]
  have hbe := below_then hb1 (below_a1 w1 (.cells #[.int .i64 (a0 / 4294967296), .int .i64 (a0 % 4294967296)] 23))
  clear hb1
  go_wp2_with fail
  refine (HI.out _).mono ?_
  rintro e w2 ⟨rfl, hb2⟩
  have hbl2 := hbl.below hb2 hbl.lt
  have hbe2 := below_then hbe hb2
  have hz2 := hbl2.lt
  have hc0 : w2.cell? ⟨w1.heap.size, 0, none⟩ = some (.int .i64 (a0 / 4294967296)) := hbl2.cell 0
  have hc1 : w2.cell? ⟨w1.heap.size, 1, none⟩ = some (.int .i64 (a0 % 4294967296)) := hbl2.cell 1
  clear hb2 hbe hbl HI
  go_wp2_with fail
  go_region_held3 (fun w' => w'.cell? ⟨w1.heap.size, 0, none⟩ = some (.int .i64 (a0 / 4294967296)) ∧ w'.cell? ⟨w1.heap.size, 1, none⟩ = some (.int .i64 (a0 % 4294967296)))
    (first
      | exact ⟨hc0, hc1⟩
      | exact ⟨hk0, hk1⟩
      | exact ⟨hm0, hm1⟩)
    (first
      | (go_at_call 12; refine (refOf_any a0 _ h0 h9).mono ?_; rintro e w3 ⟨⟨v, rfl, ho⟩, hb3⟩; obtain ⟨gr, cr, rfl, hrow, hgr, hgr1⟩ := bits_shape ho; have hk0 := (hb3.cell (p := ⟨w1.heap.size, 0, none⟩) hz2).trans hc0; have hk1 := (hb3.cell (p := ⟨w1.heap.size, 1, none⟩) hz2).trans hc1; have hz3 := Nat.lt_of_lt_of_le hz2 hb3.size)
      | (go_at_call 11; refine (is_any gr 0 cr a0 _ hrow HF.out).mono ?_; rintro e w4 ⟨rfl, hb4⟩; have hm0 := (hb4.cell (p := ⟨w1.heap.size, 0, none⟩) hz3).trans hk0; have hm1 := (hb4.cell (p := ⟨w1.heap.size, 1, none⟩) hz3).trans hk1))
  have hbe4 : Below w.heap.size w w4 := below_then (below_then hbe2.drew hb3) hb4
  clear hc0 hc1 hk0 hk1 hrow ho hb3 hb4 hbe2 hbl2
  go_wp2_with fail
  refine (wmay_any _ _ _).mono ?_
  rintro e w5 ⟨rfl, hb5⟩
  rw [decide_eq_true HM.out]
  have hbe5 := below_then hbe4 hb5
  clear hm0 hm1 hb5 hbe4
  go_wp2_with fail
  refine (lives_any _).mono ?_
  rintro e w6 ⟨rfl, hb6⟩
  have hbe6 := below_then hbe5 hb6
  go_wp2_with fail
  go_ret
  exact ⟨rfl, hbe6⟩
  -- go_enter Try.func3, Try.ntmps3
  -- go_wp2
  -- go_ret
  -- exact ⟨rfl, by repeat (first | exact Grown.refl _ | apply Grown.drew | apply Grown.alloc)⟩

set_option maxRecDepth 100000 in
theorem lifted (os : Os) (started : os.Started) (H : Type) (enc : TypeId × Value → H) :
    ReturnsInHanded {} Try.checked os 3 .any (Rows.wideOfSpec.pre6 enc Try.prog Try.f3 Rows.wideOfRow.domain false) (Rows.wideOfSpec.post enc Try.prog Try.f3 false true false false) := by
  refine returnsInHanded_of_change (C := Try.checked) own started (by kernel_rfl) Try.func3
    (ChangeSpec.witness6 (enc := enc) (C := Try.checked) false ⟨#[], #[.int .i64 0], []⟩ 8 (by kernel_rfl) (by kernel_rfl) (by kernel_rfl) (by kernel_rfl)) ?_
  intro W base args ds gs before hval0 hW hcnd _
  have hval : ∀ (j : Nat) t v, Try.f3.params[j]? = some t → args[j]? = some v → Value.okWide Try.prog W .any base t v := hval0
  have hW' := hW
  obtain ⟨p, q, hA0, hV, rfl, hfz, hnd⟩ := hW
  have hA : DataW.TrodAll enc Try.prog W 0 (fun _ => true) true Try.f3.params.toList args.toList ds p := hA0
  rw [Try.params3] at hA hval
  obtain ⟨v0, vs0, d0, ds0, p0, q0, hargs, rfl, rfl, h0, r0⟩ := trodAll_cons hA
  obtain ⟨rfl, rfl, rfl⟩ := trodAll_nil r0
  obtain rfl : args = #[v0] := by cases args; simp_all
  obtain ⟨rfl, rfl⟩ := trodVars_none hV
  obtain ⟨a0, rfl, rfl, rfl, w0⟩ := open_int Try.underlying3 (hval 0 3 v0 rfl rfl) h0
  clear hA0 hval0
  simp only [List.append_nil] at hW'
  refine (walk a0 w0 W).mono fun e W' ⟨he, hg⟩ => ?_
  subst he
  exact ⟨_, rfl, _, _, _, [], _, [], hW', trodAll_mk1 (shut_bool Try.underlying4 _), (trodAll_cons_mk (shut_int Try.underlying3 w0) trodAll_mk0), rfl, hg.frame _, fun h => by cases h⟩

theorem over : Rows.wideOfRow.holds Try.pinned (OpenSpec.ofChange Rows.wideOfSpec) :=
  OpenClaim.holds_of_wide 3 Try.f3 rfl rfl rfl rfl rfl rfl rfl ⟨rfl, rfl, rfl, rfl, rfl⟩ rfl rfl rfl rfl rfl (by kernel_rfl) Try.func3 (by kernel_rfl)
    (of_decide_eq_true (by kernel_rfl)) (by unfold Func.isWrapper; first | (rw [if_pos (by decide +kernel)]; kernel_rfl) | (rw [if_neg (by decide +kernel)]; exact ⟨rfl, rfl⟩))
    (fun os started H enc _ => lifted os started H enc)

theorem proved : Rows.WideOfSaid :=
  over
end Go.Proofs.Ytdajjphgehbacaa.wideOf
