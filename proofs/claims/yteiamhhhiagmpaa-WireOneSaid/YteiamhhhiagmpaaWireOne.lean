/-
  Proved: all bytes (the first 40) that begin with a number, as wire.GetInt tells it, begin with just the bytes that wire.PutInt puts for it; where it tells an error it tells no number; the document's examples hold, and nothing that was handed in changes. No condition.
-/
import Derived.Test.YteiamhhhiagmpaaRows
import Derived.Test.YteiamhhhiagmpaaFew02
import Derived.Test.YteiamhhhiagmpaaWireLives
import Derived.Test.YteiamhhhiagmpaaSame
import Derived.Deep.RegionHeld3
import Derived.WalkKit
import Derived.ProofKit
import Derived.OpenShut
import Derived.ShutString
import Derived.ChangeOld
import Derived.Below
namespace Go.Proofs.Yteiamhhhiagmpaa.wireOne
open Go.ChangeShapes Go.WideShapes Go.ChangeAt Go.RowKit
open Go.ChangeMaps (open_string shut_string)
set_option linter.unusedVariables false

theorem own : ownKnob Try.prog.godebug = none := by kernel_rfl
theorem laidOut : laidOutB Try.prog = true := by kernel_rfl

def IsRow (k : IntKind) (w : World) (a : Option Addr) (len cap : Nat) (zs : List Int) : Prop :=
  (a = none ∧ len = 0 ∧ cap = 0 ∧ zs = []) ∨
  ∃ x, a = some x ∧ len ≤ cap ∧ cap ≤ maxLen ∧ zs.length = cap ∧ (∀ i, i < zs.length → w.cell? (x.add i) = some (.int k (zs.getD i 0))) ∧ ∀ n ∈ zs, (Lit.int k n).wf = true

set_option maxRecDepth 100000 in
set_option maxHeartbeats 2000000 in
theorem walk (a0 : Option Addr) (len0 cap0 : Nat) (z0 : List Int) (w : World) (w0 : IsRow .u8 w a0 len0 cap0 z0) :
    Calls Try.prog 5 #[.slice a0 len0 cap0] w fun e w' => e = .returned (.bool true) ∧ Below w.heap.size w w' := by
  obtain ⟨l0, hr0⟩ := HasB.of_row w0
  go_enter Try.func5, Try.ntmps5
  go_wp2_with fail
  refine (few_any _ _ _ l0 _ _ hr0 40 (by omega)).mono ?_
  rintro e w' ⟨⟨n, rfl, hr, hn1, hn2⟩, rfl⟩
  clear hr0
  generalize l0.take (Int.toNat 40) = l at hr
  have hcap := hr.cap
  have hcm := hr.capMax
  have hbd := gN_bd l
  have hor := gE_or l
  obtain ⟨m, hm⟩ : ∃ m, Hid (gN l = m) := ⟨_, Lib.hid rfl⟩
  obtain ⟨k, hk⟩ : ∃ k, Hid (gK l = k) := ⟨_, Lib.hid rfl⟩
  obtain ⟨q, hq⟩ : ∃ q, Hid (gE l = q) := ⟨_, Lib.hid rfl⟩
  rw [hm.out, hk.out, hq.out] at hor
  rw [hm.out] at hbd
  obtain ⟨hbd1, hbd2⟩ := hbd
  by_cases hq0 : q = 0
  · subst hq0
    obtain ⟨ht1, ht2, ht3, ht4, ht5⟩ := g_tells hq.out
    rw [hm.out, hk.out] at ht2
    rw [hk.out] at ht3 ht4
    rw [hr.len] at ht4
    have hT := hr.take_ k ht4
    rw [ht2] at hT
    have hT := Lib.hid hT
    have hkc : (k : Int) ≤ (cap0 : Int) := by omega
    have hk0 : (0 : Int) ≤ (k : Int) := by omega
    have hk1 : ¬ (k : Int) < 1 := by omega
    clear ht1 ht2 hor
    go_wp2_with fail
    refine (getInt_is hr hm.out hk.out hq.out).mono ?_
    rintro e w' ⟨rfl, rfl⟩
    go_wp2_with fail
    go_region_held3 (fun _ => True) (trivial) (first
      | (go_at_call 12; refine (putInt_nil m hbd1 hbd2 _).mono ?_; rintro e w1 ⟨v, rfl, ho, hb⟩; obtain ⟨A1, n1, c1, rfl, hv, -⟩ := ho.formN; clear ho)
      | (go_at_call 13; refine (same_any _ _ _ _ _ _ _ _ _ _ _ (hT.out.drew.below hb (Nat.le_refl _)) hv).mono ?_; rintro e w2 ⟨rfl, k2, rfl⟩))
    have hbb : Below w.heap.size w (w1.drewN k2) := below_drewN (Below.trans (b := w.drew) ((Below.refl _ _).drew) hb) _
    have hz := hbb.size
    clear hb hv
    go_wp2_with fail
    refine (lives_any _).mono ?_
    rintro e w' ⟨rfl, hl⟩
    go_wp2_with fail
    go_ret
    exact ⟨rfl, hbb.trans (hl.mono hz)⟩
  · have hq1 : ((q : Int) != 0) = true := by simpa using hq0
    rcases hor with hor | ⟨rfl, rfl, hor⟩
    · exact absurd hor hq0
    · clear hor
      go_wp2_with fail
      refine (getInt_is hr hm.out hk.out hq.out).mono ?_
      rintro e w' ⟨rfl, rfl⟩
      go_wp2_with fail
      refine (lives_any _).mono ?_
      rintro e w' ⟨rfl, hb⟩
      go_wp2_with fail
      go_ret
      exact ⟨rfl, hb⟩

set_option maxRecDepth 100000 in
theorem lifted (os : Os) (started : os.Started) (H : Type) (enc : TypeId × Value → H) :
    ReturnsInHanded {} Try.checked os 5 .any (Rows.wireOneSpec.pre6 enc Try.prog Try.f5 Rows.wireOneRow.domain false) (Rows.wireOneSpec.post enc Try.prog Try.f5 false true false false) := by
  refine returnsInHanded_of_change (C := Try.checked) own started (by kernel_rfl) Try.func5
    (ChangeSpec.witness6 (enc := enc) (C := Try.checked) false ⟨#[], #[.slice none 0 0], []⟩ 8 (by kernel_rfl) (by kernel_rfl) (by kernel_rfl) (by kernel_rfl)) ?_
  intro W base args ds gs before hval0 hW hcnd _
  have hval : ∀ (j : Nat) t v, Try.f5.params[j]? = some t → args[j]? = some v → Value.okWide Try.prog W .any base t v := hval0
  have hW' := hW
  obtain ⟨p, q, hA0, hV, rfl, hfz, hnd⟩ := hW
  have hA : DataW.TrodAll enc Try.prog W 0 (fun _ => true) true Try.f5.params.toList args.toList ds p := hA0
  rw [Try.params5] at hA hval
  obtain ⟨v0, vs0, d0, ds0, p0, q0, hargs, rfl, rfl, h0, r0⟩ := trodAll_cons hA
  obtain ⟨rfl, rfl, rfl⟩ := trodAll_nil r0
  obtain rfl : args = #[v0] := by cases args; simp_all
  obtain ⟨rfl, rfl⟩ := trodVars_none hV
  obtain ⟨a0, len0, cap0, rfl⟩ := okWide_slice Try.underlying22 (hval 0 22 v0 rfl rfl)
  have k0 := h0
  have lt0 : ∀ x ∈ p0, x.block < W.heap.size := by obtain ⟨m, hm⟩ := k0; exact DataW.trod_lt m _ _ _ hm
  obtain ⟨z0, w0⟩ : ∃ zs, IsRow .u8 W a0 len0 cap0 zs := by
    obtain ⟨fuel, hf⟩ := h0
    rcases open_ints Try.underlying22 Try.underlying5 (by kernel_rfl) hf with ⟨hcs, _⟩ | ⟨x, l, c, zs, hcs, _, hl, hm, hz, _, hcell, hwz⟩
    · simp [Value.cells] at hcs
      obtain ⟨rfl, rfl, rfl⟩ := hcs
      exact ⟨[], .inl ⟨rfl, rfl, rfl, rfl⟩⟩
    · simp [Value.cells] at hcs
      obtain ⟨rfl, rfl, rfl⟩ := hcs
      exact ⟨zs, .inr ⟨_, rfl, hl, hm, by simpa using hz, hcell, hwz⟩⟩
  clear hA0 hval0
  refine (walk a0 len0 cap0 z0 W w0).mono fun e W' ⟨he, bel⟩ => ?_
  subst he
  exact ⟨_, rfl, _, _, _, [], _, [], hW', trodAll_mk1 (shut_bool Try.underlying4 _), (trodAll_cons_mk (Below.trod laidOut (by kernel_rfl) (of_decide_eq_true (by kernel_rfl)) k0 bel lt0) trodAll_mk0), rfl, bel.frame _, fun h => by cases h⟩

theorem over : Rows.wireOneRow.holds Try.pinned (OpenSpec.ofChange Rows.wireOneSpec) :=
  OpenClaim.holds_of_wide 5 Try.f5 rfl rfl rfl rfl rfl rfl rfl ⟨rfl, rfl, rfl, rfl, rfl⟩ rfl rfl rfl rfl rfl (by kernel_rfl) Try.func5 (by kernel_rfl)
    (of_decide_eq_true (by kernel_rfl)) (by unfold Func.isWrapper; first | (rw [if_pos (by decide +kernel)]; kernel_rfl) | (rw [if_neg (by decide +kernel)]; exact ⟨rfl, rfl⟩))
    (fun os started H enc _ => lifted os started H enc)

theorem proved : Rows.WireOneSaid := over
end Go.Proofs.Yteiamhhhiagmpaa.wireOne
