/-
  Proved: whatever bytes stand ahead (the first 50), whatever kind and whatever body (the first 66000 bytes), frame.Put answers just what the document's Put answers, or is refused as it is; the document's examples hold, and nothing that was handed in changes. No condition.
-/
import Derived.Test.YtpegmingmcedmaaRows
import Derived.Test.YtpegmingmcedmaaFew
import Derived.Test.YtpegmingmcedmaaFrameRefPut
import Derived.Test.YtpegmingmcedmaaFrameLives
import Derived.Test.YtpegmingmcedmaaSame
import Derived.WalkKit
import Derived.ProofKit
import Derived.OpenShut
import Derived.ShutString
import Derived.ChangeOld
import Derived.Below
namespace Go.Proofs.Ytpegmingmcedmaa.framePuts
open Go.ChangeShapes Go.WideShapes Go.ChangeAt Go.RowKit
open Go.ChangeMaps (open_string shut_string)
set_option linter.unusedVariables false

theorem own : ownKnob Try.prog.godebug = none := by kernel_rfl
theorem laidOut : laidOutB Try.prog = true := by kernel_rfl

def IsRow (k : IntKind) (w : World) (a : Option Addr) (len cap : Nat) (zs : List Int) : Prop :=
  (a = none ∧ len = 0 ∧ cap = 0 ∧ zs = []) ∨
  ∃ x, a = some x ∧ len ≤ cap ∧ cap ≤ maxLen ∧ zs.length = cap ∧ (∀ i, i < zs.length → w.cell? (x.add i) = some (.int k (zs.getD i 0))) ∧ ∀ n ∈ zs, (Lit.int k n).wf = true

set_option maxRecDepth 100000 in
set_option maxHeartbeats 2000000 in
theorem walk (a0 : Option Addr) (len0 cap0 : Nat) (z0 : List Int) (a1 : Int) (a2 : Option Addr) (len2 cap2 : Nat) (z2 : List Int) (w : World) (w0 : IsRow .u8 w a0 len0 cap0 z0) (w1 : (Lit.int .i64 a1).wf = true) (w2 : IsRow .u8 w a2 len2 cap2 z2) :
    Calls Try.prog 3 #[.slice a0 len0 cap0, .int .i64 a1, .slice a2 len2 cap2] w fun e w' => e = .returned (.bool true) ∧ Below w.heap.size w w' := by
  obtain ⟨l0, hr0⟩ := HasB.of_row w0
  obtain ⟨l2, hr2⟩ := HasB.of_row w2
  obtain ⟨h0, h0'⟩ := i64_of_wf w1
  go_enter Try.func3, Try.ntmps3
  go_wp2_with fail
  refine (few_any _ _ _ l0 _ _ hr0 50 (by omega)).mono ?_
  rintro e w' ⟨⟨n, rfl, hA, -, hn⟩, rfl⟩
  go_wp2_with fail
  refine (few_any _ _ _ l2 _ _ hr2 66000 (by omega)).mono ?_
  rintro e w' ⟨⟨m, rfl, hC, -, hm⟩, rfl⟩
  have hn50 : n ≤ 50 := hn
  have hm66 : m ≤ 66000 := hm
  clear hr0 hr2 hn hm
  generalize l0.take (Int.toNat 50) = l at hA
  generalize l2.take (Int.toNat 66000) = body at hC
  by_cases hok : 0 ≤ a1 ∧ a1 ≤ 255 ∧ m ≤ 65536
  · obtain ⟨hk0, hk1, hm65⟩ := hok
    obtain ⟨k, rfl⟩ := Int.eq_ofNat_of_zero_le hk0
    go_wp2_with fail
    refine (put_any _ _ _ l k _ _ _ body _ hA hC (by omega) (by omega) hm65).mono ?_
    rintro e w1' ⟨⟨v, rfl, ho⟩, hb1⟩
    have hz1 := hb1.size
    obtain ⟨A3, n3, c3, rfl, hv, -⟩ := ho.formN
    have hA1 := (hA.below hb1 (Nat.le_refl _)).more hz1
    have hC1 := (hC.below hb1 (Nat.le_refl _)).more hz1
    clear ho hA hC
    go_wp2_with fail
    refine (refPut_any _ _ _ l k _ _ _ body _ hA1 hC1 (by omega) (by omega) hm65).mono ?_
    rintro e w2' ⟨⟨v, rfl, ho⟩, hb2⟩
    have hb12 := hb1.trans (hb2.mono hz1)
    have hz2 := hb12.size
    obtain ⟨A4, n4, c4, rfl, hv2, -⟩ := ho.formN
    have hv1 := (hv.below hb2 (Nat.le_refl _)).more hb2.size
    clear ho hA1 hC1 hv hb1 hb2 hz1
    go_wp2_with fail
    refine (same_any _ _ _ _ _ _ _ _ _ _ _ hv1 hv2).mono ?_
    rintro e w3 ⟨rfl, k3, ew3⟩
    rw [show (l ++ frOf k body == l ++ frOf k body) = true from by simp]
    have hb3 : Below w.heap.size w w3 := by rw [ew3]; exact below_drewN hb12 _
    clear ew3 hv1 hv2 hb12
    go_wp2_with fail
    refine (lives_any _).mono ?_
    rintro e w' ⟨rfl, hl⟩
    go_wp2_with fail
    go_ret
    exact ⟨rfl, hb3.trans (hl.mono hb3.size)⟩
  · have hno : a1 < 0 ∨ 255 < a1 ∨ 65536 < m := by omega
    go_wp2_with fail
    refine (put_no _ _ _ a1 _ m _ _ (by omega) hno).mono ?_
    rintro e w' ⟨rfl, rfl⟩
    go_wp2_with fail
    refine (refPut_no _ _ _ a1 _ m _ _ (by omega) hno).mono ?_
    rintro e w' ⟨rfl, rfl⟩
    go_wp2_with fail
    have hnil : HasB w w.heap.size none 0 0 [] := ⟨rfl, Nat.le_refl _, Nat.zero_le _, fun _ => rfl, Has.nil_⟩
    refine (same_any _ _ _ _ _ _ _ _ _ _ _ hnil hnil).mono ?_
    rintro e w3 ⟨rfl, k3, ew3⟩
    have hb3 : Below w.heap.size w w3 := by rw [ew3]; exact below_drewN (Below.refl _ _) _
    clear ew3 hnil
    go_wp2_with fail
    refine (lives_any _).mono ?_
    rintro e w' ⟨rfl, hl⟩
    go_wp2_with fail
    go_ret
    exact ⟨rfl, hb3.trans (hl.mono hb3.size)⟩

set_option maxRecDepth 100000 in
theorem lifted (os : Os) (started : os.Started) (H : Type) (enc : TypeId × Value → H) :
    ReturnsInHanded {} Try.checked os 3 .any (Rows.framePutsSpec.pre6 enc Try.prog Try.f3 Rows.framePutsRow.domain false) (Rows.framePutsSpec.post enc Try.prog Try.f3 false true false false) := by
  refine returnsInHanded_of_change (C := Try.checked) own started (by kernel_rfl) Try.func3
    (ChangeSpec.witness6 (enc := enc) (C := Try.checked) false ⟨#[], #[.slice none 0 0, .int .i64 0, .slice none 0 0], []⟩ 8 (by kernel_rfl) (by kernel_rfl) (by kernel_rfl) (by kernel_rfl)) ?_
  intro W base args ds gs before hval0 hW hcnd _
  have hval : ∀ (j : Nat) t v, Try.f3.params[j]? = some t → args[j]? = some v → Value.okWide Try.prog W .any base t v := hval0
  have hW' := hW
  obtain ⟨p, q, hA0, hV, rfl, hfz, hnd⟩ := hW
  have hA : DataW.TrodAll enc Try.prog W 0 (fun _ => true) true Try.f3.params.toList args.toList ds p := hA0
  rw [Try.params3] at hA hval
  obtain ⟨v0, vs0, d0, ds0, p0, q0, hargs, rfl, rfl, h0, r0⟩ := trodAll_cons hA
  obtain ⟨v1, vs1, d1, ds1, p1, q1, rfl, rfl, rfl, h1, r1⟩ := trodAll_cons r0
  obtain ⟨v2, vs2, d2, ds2, p2, q2, rfl, rfl, rfl, h2, r2⟩ := trodAll_cons r1
  obtain ⟨rfl, rfl, rfl⟩ := trodAll_nil r2
  obtain rfl : args = #[v0, v1, v2] := by cases args; simp_all
  obtain ⟨rfl, rfl⟩ := trodVars_none hV
  obtain ⟨a0, len0, cap0, rfl⟩ := okWide_slice Try.underlying22 (hval 0 22 v0 rfl rfl)
  have k0 := h0
  have lt0 : ∀ x ∈ p0, x.block < W.heap.size := by obtain ⟨m, hm⟩ := k0; exact DataW.trod_lt m _ _ _ hm
  obtain ⟨z0, w0⟩ : ∃ zs, IsRow .u8 W a0 len0 cap0 zs := by
    obtain ⟨fuel, hf⟩ := h0
    rcases open_ints Try.underlying22 Try.underlying5 (by kernel_rfl) hf with ⟨hcs, _⟩ | ⟨x, l, c, zs, hcs, _, hl, hm, hz, _, hcell, hwz⟩
    · simp [Value.cells] at hcs
      obtain ⟨rfl, rfl, rfl⟩ := hcs
      exact ⟨[], .inl ⟨rfl, rfl, rfl, rfl⟩⟩
    · simp [Value.cells] at hcs
      obtain ⟨rfl, rfl, rfl⟩ := hcs
      exact ⟨zs, .inr ⟨_, rfl, hl, hm, by simpa using hz, hcell, hwz⟩⟩
  obtain ⟨a1, rfl, rfl, rfl, w1⟩ := open_int Try.underlying3 (hval 1 3 v1 rfl rfl) h1
  obtain ⟨a2, len2, cap2, rfl⟩ := okWide_slice Try.underlying22 (hval 2 22 v2 rfl rfl)
  have k2 := h2
  have lt2 : ∀ x ∈ p2, x.block < W.heap.size := by obtain ⟨m, hm⟩ := k2; exact DataW.trod_lt m _ _ _ hm
  obtain ⟨z2, w2⟩ : ∃ zs, IsRow .u8 W a2 len2 cap2 zs := by
    obtain ⟨fuel, hf⟩ := h2
    rcases open_ints Try.underlying22 Try.underlying5 (by kernel_rfl) hf with ⟨hcs, _⟩ | ⟨x, l, c, zs, hcs, _, hl, hm, hz, _, hcell, hwz⟩
    · simp [Value.cells] at hcs
      obtain ⟨rfl, rfl, rfl⟩ := hcs
      exact ⟨[], .inl ⟨rfl, rfl, rfl, rfl⟩⟩
    · simp [Value.cells] at hcs
      obtain ⟨rfl, rfl, rfl⟩ := hcs
      exact ⟨zs, .inr ⟨_, rfl, hl, hm, by simpa using hz, hcell, hwz⟩⟩
  clear hA0 hval0
  refine (walk a0 len0 cap0 z0 a1 a2 len2 cap2 z2 W w0 w1 w2).mono fun e W' ⟨he, bel⟩ => ?_
  subst he
  exact ⟨_, rfl, _, _, _, [], _, [], hW', trodAll_mk1 (shut_bool Try.underlying4 _), (trodAll_cons_mk (Below.trod laidOut (by kernel_rfl) (of_decide_eq_true (by kernel_rfl)) k0 bel lt0) (trodAll_cons_mk (shut_int Try.underlying3 w1) (trodAll_cons_mk (Below.trod laidOut (by kernel_rfl) (of_decide_eq_true (by kernel_rfl)) k2 bel lt2) trodAll_mk0))), rfl, bel.frame _, fun h => by cases h⟩

theorem over : Rows.framePutsRow.holds Try.pinned (OpenSpec.ofChange Rows.framePutsSpec) :=
  OpenClaim.holds_of_wide 3 Try.f3 rfl rfl rfl rfl rfl rfl rfl ⟨rfl, rfl, rfl, rfl, rfl⟩ rfl rfl rfl rfl rfl (by kernel_rfl) Try.func3 (by kernel_rfl)
    (of_decide_eq_true (by kernel_rfl)) (by unfold Func.isWrapper; first | (rw [if_pos (by decide +kernel)]; kernel_rfl) | (rw [if_neg (by decide +kernel)]; exact ⟨rfl, rfl⟩))
    (fun os started H enc _ => lifted os started H enc)

theorem proved : Rows.FramePutsSaid := over
end Go.Proofs.Ytpegmingmcedmaa.framePuts
