/-
  Proved: of any two numbers, the one of lesser size is put by wire.PutInt as no more bytes than the other one, the document's examples hold, and nothing that was handed in changes. No condition.
-/
import Derived.Test.YteiamhhhiagmpaaRows
import Derived.Test.YteiamhhhiagmpaaWireLives
import Derived.WalkKit
import Derived.Below
import Derived.OpenShut
import Derived.ProofKit
import Derived.OpenShut
import Derived.ShutString
namespace Go.Proofs.Yteiamhhhiagmpaa.wireSizes
open Go.ChangeShapes Go.WideShapes Go.ChangeAt Go.RowKit
open Go.ChangeMaps (open_string shut_string)
set_option linter.unusedVariables false      -- a walk need not use every 'w<i>' (that an integer argument fits its kind)

theorem own : ownKnob Try.prog.godebug = none := by kernel_rfl

set_option maxRecDepth 100000 in
set_option maxHeartbeats 2000000 in
theorem walk (a0 : Int) (a1 : Int) (w0 : (Lit.int .i64 a0).wf = true) (w1 : (Lit.int .i64 a1).wf = true) (w : World) :
    Calls Try.prog 6 #[.int .i64 a0, .int .i64 a1] w fun e w' => e = .returned (.bool true) ∧ Below w.heap.size w w' := by
  obtain ⟨h0, h0'⟩ := i64_of_wf w0
  obtain ⟨h1, h1'⟩ := i64_of_wf w1
  have hx : a0 < 0 ∨ 0 ≤ a0 := by omega
  have hy : a1 < 0 ∨ 0 ≤ a1 := by omega
  obtain ⟨x, hxe⟩ : ∃ x : Int, Hid (x = if a0 < 0 then -(a0 + 1) else a0) := ⟨_, Lib.hid rfl⟩
  obtain ⟨y, hye⟩ : ∃ y : Int, Hid (y = if a1 < 0 then -(a1 + 1) else a1) := ⟨_, Lib.hid rfl⟩
  have hxy : y < x ∨ x ≤ y := by omega
  have hx0 := Lib.hid hxe.out
  rcases hx with hx | hx <;> rcases hy with hy | hy <;> rcases hxy with hxy | hxy
  all_goals
    have hx1 := hxe.out
    have hy1 := hye.out
    first | rw [if_pos hx] at hx1 | rw [if_neg (by omega)] at hx1
    first | rw [if_pos hy] at hy1 | rw [if_neg (by omega)] at hy1
    rw [hx1, hy1] at hxy
    have hlt : True := trivial
    clear hx1 hy1
    go_enter Try.func6, Try.ntmps6
    go_wp2_with fail
    refine (putInt_nil _ (by assumption) (by assumption) _).mono ?_
    rintro e v1 ⟨u1, rfl, ho1, hb1⟩
    obtain ⟨A1, n1, c1, rfl, hv1, _⟩ := ho1.formN
    have hl1 := Lib.hid hv1.len
    have hm1 := hv1.lenMax
    clear ho1 hv1
    go_wp2_with fail
    refine (putInt_nil _ (by assumption) (by assumption) _).mono ?_
    rintro e v2 ⟨u2, rfl, ho2, hb2⟩
    obtain ⟨A2, n2, c2, rfl, hv2, _⟩ := ho2.formN
    have hl2 := Lib.hid hv2.len
    have hm2 := hv2.lenMax
    have hle : n1 ≤ n2 := enc_key (by omega) hl1.out hl2.out
    have hb := hb1.trans (hb2.mono hb1.size)
    have hz := hb.size
    clear ho2 hv2 hb1 hb2
    go_wp2_with fail
    refine (lives_any _).mono ?_
    rintro e w' ⟨rfl, hl⟩
    go_wp2_with fail
    go_ret
    exact ⟨rfl, hb.trans (hl.mono hz)⟩
  -- go_enter Try.func6, Try.ntmps6
  -- go_wp2
  -- go_ret
  -- exact ⟨rfl, by repeat (first | exact Grown.refl _ | apply Grown.drew | apply Grown.alloc)⟩

set_option maxRecDepth 100000 in
theorem lifted (os : Os) (started : os.Started) (H : Type) (enc : TypeId × Value → H) :
    ReturnsInHanded {} Try.checked os 6 .any (Rows.wireSizesSpec.pre6 enc Try.prog Try.f6 Rows.wireSizesRow.domain false) (Rows.wireSizesSpec.post enc Try.prog Try.f6 false true false false) := by
  refine returnsInHanded_of_change (C := Try.checked) own started (by kernel_rfl) Try.func6
    (ChangeSpec.witness6 (enc := enc) (C := Try.checked) false ⟨#[], #[.int .i64 0, .int .i64 0], []⟩ 8 (by kernel_rfl) (by kernel_rfl) (by kernel_rfl) (by kernel_rfl)) ?_
  intro W base args ds gs before hval0 hW hcnd _
  have hval : ∀ (j : Nat) t v, Try.f6.params[j]? = some t → args[j]? = some v → Value.okWide Try.prog W .any base t v := hval0
  have hW' := hW
  obtain ⟨p, q, hA0, hV, rfl, hfz, hnd⟩ := hW
  have hA : DataW.TrodAll enc Try.prog W 0 (fun _ => true) true Try.f6.params.toList args.toList ds p := hA0
  rw [Try.params6] at hA hval
  obtain ⟨v0, vs0, d0, ds0, p0, q0, hargs, rfl, rfl, h0, r0⟩ := trodAll_cons hA
  obtain ⟨v1, vs1, d1, ds1, p1, q1, rfl, rfl, rfl, h1, r1⟩ := trodAll_cons r0
  obtain ⟨rfl, rfl, rfl⟩ := trodAll_nil r1
  obtain rfl : args = #[v0, v1] := by cases args; simp_all
  obtain ⟨rfl, rfl⟩ := trodVars_none hV
  obtain ⟨a0, rfl, rfl, rfl, w0⟩ := open_int Try.underlying3 (hval 0 3 v0 rfl rfl) h0
  obtain ⟨a1, rfl, rfl, rfl, w1⟩ := open_int Try.underlying3 (hval 1 3 v1 rfl rfl) h1
  clear hA0 hval0
  simp only [List.append_nil] at hW'
  refine (walk a0 a1 w0 w1 W).mono fun e W' ⟨he, hg⟩ => ?_
  subst he
  exact ⟨_, rfl, _, _, _, [], _, [], hW', trodAll_mk1 (shut_bool Try.underlying4 _), (trodAll_cons_mk (shut_int Try.underlying3 w0) (trodAll_cons_mk (shut_int Try.underlying3 w1) trodAll_mk0)), rfl, hg.frame _, fun h => by cases h⟩

theorem over : Rows.wireSizesRow.holds Try.pinned (OpenSpec.ofChange Rows.wireSizesSpec) :=
  OpenClaim.holds_of_wide 6 Try.f6 rfl rfl rfl rfl rfl rfl rfl ⟨rfl, rfl, rfl, rfl, rfl⟩ rfl rfl rfl rfl rfl (by kernel_rfl) Try.func6 (by kernel_rfl)
    (of_decide_eq_true (by kernel_rfl)) (by unfold Func.isWrapper; first | (rw [if_pos (by decide +kernel)]; kernel_rfl) | (rw [if_neg (by decide +kernel)]; exact ⟨rfl, rfl⟩))
    (fun os started H enc _ => lifted os started H enc)

theorem proved : Rows.WireSizesSaid :=
  over
end Go.Proofs.Yteiamhhhiagmpaa.wireSizes
