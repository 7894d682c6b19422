/-
  Proved: whatever frames (the first 12, bodies of at most 100 bytes) are put one behind the other by frame.Put, frame.Scan tells just them, all their bytes, and no error; the document's examples hold, and nothing that was handed in changes. No condition.
-/
import Derived.Test.YtpegmingmcedmaaRows
import Derived.Test.YtpegmingmcedmaaFrameMade
import Derived.Test.YtpegmingmcedmaaFrameSame
import Derived.Test.YtpegmingmcedmaaFrameLives
import Derived.WalkKit
import Derived.ProofKit
import Derived.OpenShut
import Derived.ShutString
import Derived.ChangeOld
import Derived.Below
namespace Go.Proofs.Ytpegmingmcedmaa.frameRound
open Go.ChangeShapes Go.WideShapes Go.ChangeAt Go.RowKit
open Go.ChangeMaps (open_string shut_string)
set_option linter.unusedVariables false

theorem own : ownKnob Try.prog.godebug = none := by kernel_rfl
theorem laidOut : laidOutB Try.prog = true := by kernel_rfl

def IsRow (k : IntKind) (w : World) (a : Option Addr) (len cap : Nat) (zs : List Int) : Prop :=
  (a = none ∧ len = 0 ∧ cap = 0 ∧ zs = []) ∨
  ∃ x, a = some x ∧ len ≤ cap ∧ cap ≤ maxLen ∧ zs.length = cap ∧ (∀ i, i < zs.length → w.cell? (x.add i) = some (.int k (zs.getD i 0))) ∧ ∀ n ∈ zs, (Lit.int k n).wf = true

set_option maxRecDepth 100000 in
set_option maxHeartbeats 2000000 in
theorem walk (a0 : Option Addr) (len0 cap0 : Nat) (w : World) (w0 : RC Try.prog w 45 [.slice a0 len0 cap0]) :
    Calls Try.prog 5 #[.slice a0 len0 cap0] w fun e w' => e = .returned (.bool true) ∧ Below w.heap.size w w' := by
  have hn0 : len0 ≤ 9223372036854775807 := by
    rcases w0.slice Try.underlying45 with ⟨_, h, _⟩ | ⟨_, _, h1, h2, _⟩
    · omega
    · unfold maxLen at h2; omega
  go_enter Try.func5, Try.ntmps5
  go_wp2_with fail
  refine (made_any _ _ _ _ w0 hn0).mono ?_
  rintro e v1 ⟨vb, vw, ve, fs, rfl, hM, hfl⟩
  obtain ⟨hsm, hby, hwa, -, hbe⟩ := hM
  have hz := hbe.size
  obtain ⟨A1, n1, c1, rfl, hv1, -⟩ := hby.formN
  have hcl := frCat_small hsm
  have Hl := Lib.hid hv1.len
  have hn1 : n1 ≤ 10000 := by have := Hl.out; omega
  have Hs := Lib.hid (frScan_all fs (fun f hf => (hsm f hf).may))
  obtain ⟨A2, n2, c2, rfl, -, -⟩ := hwa.form
  have hr2 := hwa.read fun c l h => by
    obtain ⟨A', n', c', rfl, hh⟩ := h
    exact ⟨A', n', c', rfl, (hh.below hbe (Nat.le_refl _)).more hz⟩
  rw [Hl.out] at Hs
  clear hby hcl hwa hsm
  go_wp2_with fail
  refine (scan_is _ _ _ (frCat fs) _ hv1 (by omega) Hs.out).mono ?_
  rintro e s1 ⟨⟨v, rfl, ho1⟩, hbs⟩
  have hb6 := hbe.trans (hbs.mono hz)
  have hz6 := hb6.size
  obtain ⟨A3, n3, c3, rfl, -, -⟩ := FrRow.form ho1
  have hr3 := FrOwn.read ho1
  have hr2' := hr2.below hbs
  clear hbs ho1 hr2 hbe hv1
  have hnn : ((n1 : Int) == (n1 : Int)) = true := by simp
  go_wp2_with fail
  refine (frSame_any _ _ _ _ _ _ _ _ _ hr3 hr2').mono ?_
  rintro e wz ⟨rfl, q, ewz⟩
  rw [show decide (fs = fs) = true from by simp]
  have hb8 : Below w.heap.size w wz := by rw [ewz]; exact below_drewN hb6 q
  clear ewz hr3 hr2' hb6
  go_wp2_with fail
  refine (lives_any _).mono ?_
  rintro e w' ⟨rfl, hl⟩
  go_wp2_with fail
  go_ret
  exact ⟨rfl, hb8.trans (hl.mono hb8.size)⟩

set_option maxRecDepth 100000 in
theorem lifted (os : Os) (started : os.Started) (H : Type) (enc : TypeId × Value → H) :
    ReturnsInHanded {} Try.checked os 5 .any (Rows.frameRoundSpec.pre6 enc Try.prog Try.f5 Rows.frameRoundRow.domain false) (Rows.frameRoundSpec.post enc Try.prog Try.f5 false true false false) := by
  refine returnsInHanded_of_change (C := Try.checked) own started (by kernel_rfl) Try.func5
    (ChangeSpec.witness6 (enc := enc) (C := Try.checked) false ⟨#[], #[.slice none 0 0], []⟩ 8 (by kernel_rfl) (by kernel_rfl) (by kernel_rfl) (by kernel_rfl)) ?_
  intro W base args ds gs before hval0 hW hcnd _
  have hval : ∀ (j : Nat) t v, Try.f5.params[j]? = some t → args[j]? = some v → Value.okWide Try.prog W .any base t v := hval0
  have hW' := hW
  obtain ⟨p, q, hA0, hV, rfl, hfz, hnd⟩ := hW
  have hA : DataW.TrodAll enc Try.prog W 0 (fun _ => true) true Try.f5.params.toList args.toList ds p := hA0
  rw [Try.params5] at hA hval
  obtain ⟨v0, vs0, d0, ds0, p0, q0, hargs, rfl, rfl, h0, r0⟩ := trodAll_cons hA
  obtain ⟨rfl, rfl, rfl⟩ := trodAll_nil r0
  obtain rfl : args = #[v0] := by cases args; simp_all
  obtain ⟨rfl, rfl⟩ := trodVars_none hV
  obtain ⟨a0, len0, cap0, rfl⟩ := okWide_slice Try.underlying45 (hval 0 45 v0 rfl rfl)
  have k0 := h0
  have lt0 : ∀ x ∈ p0, x.block < W.heap.size := by obtain ⟨m, hm⟩ := k0; exact DataW.trod_lt m _ _ _ hm
  have w0 : RC Try.prog W 45 [.slice a0 len0 cap0] := by
    obtain ⟨fuel, hf⟩ := h0
    exact ⟨_, _, _, _, _, fuel, _, hf⟩
  clear hA0 hval0
  refine (walk a0 len0 cap0 W w0).mono fun e W' ⟨he, bel⟩ => ?_
  subst he
  exact ⟨_, rfl, _, _, _, [], _, [], hW', trodAll_mk1 (shut_bool Try.underlying4 _), (trodAll_cons_mk (Below.trod laidOut (by kernel_rfl) (of_decide_eq_true (by kernel_rfl)) k0 bel lt0) trodAll_mk0), rfl, bel.frame _, fun h => by cases h⟩

theorem over : Rows.frameRoundRow.holds Try.pinned (OpenSpec.ofChange Rows.frameRoundSpec) :=
  OpenClaim.holds_of_wide 5 Try.f5 rfl rfl rfl rfl rfl rfl rfl ⟨rfl, rfl, rfl, rfl, rfl⟩ rfl rfl rfl rfl rfl (by kernel_rfl) Try.func5 (by kernel_rfl)
    (of_decide_eq_true (by kernel_rfl)) (by unfold Func.isWrapper; first | (rw [if_pos (by decide +kernel)]; kernel_rfl) | (rw [if_neg (by decide +kernel)]; exact ⟨rfl, rfl⟩))
    (fun os started H enc _ => lifted os started H enc)

theorem proved : Rows.FrameRoundSaid := over
end Go.Proofs.Ytpegmingmcedmaa.frameRound
