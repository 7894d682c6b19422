/-
  Proved: whatever facts (the first 10, with at most 5 paths of 5 names and 5 values), behind whatever bytes (the first 20), batch.Put puts just the document's bytes, or refuses them as it says; the examples of the document hold, and nothing that was handed in changes. No condition.
-/
import Derived.Test.YtfddaegepmdohaaJ30
import Derived.Test.YtfddaegepmdohaaJ44
import Derived.Below
import Derived.ChangeOld
import Derived.OpenShut
import Derived.ProofKit
import Derived.ShutString
import Derived.Test.YtfddaegepmdohaaRows
import Derived.WalkKit
namespace Go.Proofs.Ytfddaegepmdohaa.batchPuts
open Go.ChangeShapes Go.WideShapes Go.ChangeAt Go.RowKit
open Go.ChangeMaps (open_string shut_string)
set_option linter.unusedVariables false

theorem own : ownKnob Try.prog.godebug = none := by kernel_rfl
theorem laidOut : laidOutB Try.prog = true := by kernel_rfl

def IsRow (k : IntKind) (w : World) (a : Option Addr) (len cap : Nat) (zs : List Int) : Prop :=
  (a = none ∧ len = 0 ∧ cap = 0 ∧ zs = []) ∨
  ∃ x, a = some x ∧ len ≤ cap ∧ cap ≤ maxLen ∧ zs.length = cap ∧ (∀ i, i < zs.length → w.cell? (x.add i) = some (.int k (zs.getD i 0))) ∧ ∀ n ∈ zs, (Lit.int k n).wf = true

set_option maxRecDepth 100000 in
set_option maxHeartbeats 2000000 in
theorem walk (a0 : Option Addr) (len0 cap0 : Nat) (z0 : List Int) (a1 : Option Addr) (len1 cap1 : Nat) (w : World) (w0 : IsRow .u8 w a0 len0 cap0 z0) (w1 : RC Try.prog w 27 [.slice a1 len1 cap1]) :
    Calls Try.prog 4 #[.slice a0 len0 cap0, .slice a1 len1 cap1] w fun e w' => e = .returned (.bool true) ∧ Below w.heap.size w w' := by
  obtain ⟨l0, hr0⟩ := HasB.of_row w0
  obtain ⟨L, hF, _⟩ := facts_of w1
  go_enter Try.func4, Try.ntmps4
  go_wp2_with fail
  refine (few_any hF).mono ?_
  rintro e w4 ⟨a2, len2, cap2, rfl, hF4, hB4⟩
  have hA := hr0.belowS hB4
  have hcap := hr0.cap
  have hcm := hr0.capMax
  generalize fewF L = L' at hF4
  clear hF hr0
  by_cases h20 : (20 : Int) < (len0 : Int)
  · have h2 : (20 : Int) ≤ (cap0 : Int) := by omega
    have hA4 := hA.take_ 20 (by omega)
    generalize l0.take 20 = l0 at hA4
    clear hA
    have hb4 : Below w.heap.size w w4 := hB4
    have HP := Lib.hid (putBatch_any hF4 hA4 (by omega))
    have HQ := Lib.hid (fun (W : World) (hW : Below w4.heap.size w4 W) => refPutB_any (hF4.mv elFct_ok (Mv.belowS hW _)) (hA4.belowS hW) (show 20 ≤ 100000 by omega))
    obtain ⟨x, hx⟩ : ∃ x, Hid (putE L' = x) := ⟨_, Lib.hid rfl⟩
    obtain ⟨y, hy⟩ : ∃ y, Hid (putB l0 L' = y) := ⟨_, Lib.hid rfl⟩
    rw [hx.out, hy.out] at HP
    simp only [hx.out, hy.out] at HQ
    have hxx : ((x : Int) == (x : Int)) = true := by simp
    clear hF4 hA4 hx hy
    go_wp2_with fail
    refine HP.out.mono ?_
    rintro e w5 ⟨v5, rfl, hO5, hb5⟩
    have hB5 := hB4.trans (hb5.mono hB4.size)
    obtain ⟨A5, n5, c5, rfl, hO5'⟩ := hO5.at_
    have HQ2 := Lib.hid (HQ.out w5 hb5)
    clear HP HQ hO5 hb5 hb4 hB4
    go_wp2_with fail
    refine HQ2.out.mono ?_
    rintro e w6 ⟨v6, rfl, ⟨A6, n6, c6, rfl, hO6⟩, hb6⟩
    have hO5'' := hO5'.belowS hb6
    have hB6 := hB5.trans (hb6.mono hB5.size)
    have HS := Lib.hid (same_any _ _ _ _ _ _ _ _ _ _ _ hO5'' hO6)
    have hyy : (y == y) = true := by simp
    rw [hyy] at HS
    clear HQ2 hO5' hb6 hB5 hO6 hyy hO5''
    go_wp2_with fail
    refine HS.out.mono ?_
    rintro e w7 ⟨rfl, k7, rfl⟩
    have hB7 := below_drewN hB6 k7
    clear HS hB6
    go_wp2_with fail
    refine (batchLives_any _).mono ?_
    rintro e vz ⟨rfl, hbz⟩
    have HF := Lib.hid (hB7.trans (hbz.mono hB7.size))
    clear hbz hB7 hxx
    go_wp2_with fail
    go_ret
    exact ⟨rfl, HF.out⟩
  · have hA4 := hA
    clear hA
    have hb4 : Below w.heap.size w w4 := hB4
    have HP := Lib.hid (putBatch_any hF4 hA4 (by omega))
    have HQ := Lib.hid (fun (W : World) (hW : Below w4.heap.size w4 W) => refPutB_any (hF4.mv elFct_ok (Mv.belowS hW _)) (hA4.belowS hW) (show len0 ≤ 100000 by omega))
    obtain ⟨x, hx⟩ : ∃ x, Hid (putE L' = x) := ⟨_, Lib.hid rfl⟩
    obtain ⟨y, hy⟩ : ∃ y, Hid (putB l0 L' = y) := ⟨_, Lib.hid rfl⟩
    rw [hx.out, hy.out] at HP
    simp only [hx.out, hy.out] at HQ
    have hxx : ((x : Int) == (x : Int)) = true := by simp
    clear hF4 hA4 hx hy
    go_wp2_with fail
    refine HP.out.mono ?_
    rintro e w5 ⟨v5, rfl, hO5, hb5⟩
    have hB5 := hB4.trans (hb5.mono hB4.size)
    obtain ⟨A5, n5, c5, rfl, hO5'⟩ := hO5.at_
    have HQ2 := Lib.hid (HQ.out w5 hb5)
    clear HP HQ hO5 hb5 hb4 hB4
    go_wp2_with fail
    refine HQ2.out.mono ?_
    rintro e w6 ⟨v6, rfl, ⟨A6, n6, c6, rfl, hO6⟩, hb6⟩
    have hO5'' := hO5'.belowS hb6
    have hB6 := hB5.trans (hb6.mono hB5.size)
    have HS := Lib.hid (same_any _ _ _ _ _ _ _ _ _ _ _ hO5'' hO6)
    have hyy : (y == y) = true := by simp
    rw [hyy] at HS
    clear HQ2 hO5' hb6 hB5 hO6 hyy hO5''
    go_wp2_with fail
    refine HS.out.mono ?_
    rintro e w7 ⟨rfl, k7, rfl⟩
    have hB7 := below_drewN hB6 k7
    clear HS hB6
    go_wp2_with fail
    refine (batchLives_any _).mono ?_
    rintro e vz ⟨rfl, hbz⟩
    have HF := Lib.hid (hB7.trans (hbz.mono hB7.size))
    clear hbz hB7 hxx
    go_wp2_with fail
    go_ret
    exact ⟨rfl, HF.out⟩

set_option maxRecDepth 100000 in
theorem lifted (os : Os) (started : os.Started) (H : Type) (enc : TypeId × Value → H) :
    ReturnsInHanded {} Try.checked os 4 .any (Rows.batchPutsSpec.pre6 enc Try.prog Try.f4 Rows.batchPutsRow.domain false) (Rows.batchPutsSpec.post enc Try.prog Try.f4 false true false false) := by
  refine returnsInHanded_of_change (C := Try.checked) own started (by kernel_rfl) Try.func4
    (ChangeSpec.witness6 (enc := enc) (C := Try.checked) false ⟨#[], #[.slice none 0 0, .slice none 0 0], []⟩ 8 (by kernel_rfl) (by kernel_rfl) (by kernel_rfl) (by kernel_rfl)) ?_
  intro W base args ds gs before hval0 hW hcnd _
  have hval : ∀ (j : Nat) t v, Try.f4.params[j]? = some t → args[j]? = some v → Value.okWide Try.prog W .any base t v := hval0
  have hW' := hW
  obtain ⟨p, q, hA0, hV, rfl, hfz, hnd⟩ := hW
  have hA : DataW.TrodAll enc Try.prog W 0 (fun _ => true) true Try.f4.params.toList args.toList ds p := hA0
  rw [Try.params4] at hA hval
  obtain ⟨v0, vs0, d0, ds0, p0, q0, hargs, rfl, rfl, h0, r0⟩ := trodAll_cons hA
  obtain ⟨v1, vs1, d1, ds1, p1, q1, rfl, rfl, rfl, h1, r1⟩ := trodAll_cons r0
  obtain ⟨rfl, rfl, rfl⟩ := trodAll_nil r1
  obtain rfl : args = #[v0, v1] := by cases args; simp_all
  obtain ⟨rfl, rfl⟩ := trodVars_none hV
  obtain ⟨a0, len0, cap0, rfl⟩ := okWide_slice Try.underlying40 (hval 0 40 v0 rfl rfl)
  have k0 := h0
  have lt0 : ∀ x ∈ p0, x.block < W.heap.size := by obtain ⟨m, hm⟩ := k0; exact DataW.trod_lt m _ _ _ hm
  obtain ⟨z0, w0⟩ : ∃ zs, IsRow .u8 W a0 len0 cap0 zs := by
    obtain ⟨fuel, hf⟩ := h0
    rcases open_ints Try.underlying40 Try.underlying5 (by kernel_rfl) hf with ⟨hcs, _⟩ | ⟨x, l, c, zs, hcs, _, hl, hm, hz, _, hcell, hwz⟩
    · simp [Value.cells] at hcs
      obtain ⟨rfl, rfl, rfl⟩ := hcs
      exact ⟨[], .inl ⟨rfl, rfl, rfl, rfl⟩⟩
    · simp [Value.cells] at hcs
      obtain ⟨rfl, rfl, rfl⟩ := hcs
      exact ⟨zs, .inr ⟨_, rfl, hl, hm, by simpa using hz, hcell, hwz⟩⟩
  obtain ⟨a1, len1, cap1, rfl⟩ := okWide_slice Try.underlying27 (hval 1 27 v1 rfl rfl)
  have k1 := h1
  have lt1 : ∀ x ∈ p1, x.block < W.heap.size := by obtain ⟨m, hm⟩ := k1; exact DataW.trod_lt m _ _ _ hm
  have w1 : RC Try.prog W 27 [.slice a1 len1 cap1] := by
    obtain ⟨fuel, hf⟩ := h1
    exact ⟨_, _, _, _, _, fuel, _, hf⟩
  clear hA0 hval0
  refine (walk a0 len0 cap0 z0 a1 len1 cap1 W w0 w1).mono fun e W' ⟨he, bel⟩ => ?_
  subst he
  exact ⟨_, rfl, _, _, _, [], _, [], hW', trodAll_mk1 (shut_bool Try.underlying4 _), (trodAll_cons_mk (Below.trod laidOut (by kernel_rfl) (of_decide_eq_true (by kernel_rfl)) k0 bel lt0) (trodAll_cons_mk (Below.trod laidOut (by kernel_rfl) (of_decide_eq_true (by kernel_rfl)) k1 bel lt1) trodAll_mk0)), rfl, bel.frame _, fun h => by cases h⟩

theorem over : Rows.batchPutsRow.holds Try.pinned (OpenSpec.ofChange Rows.batchPutsSpec) :=
  OpenClaim.holds_of_wide 4 Try.f4 rfl rfl rfl rfl rfl rfl rfl ⟨rfl, rfl, rfl, rfl, rfl⟩ rfl rfl rfl rfl rfl (by kernel_rfl) Try.func4 (by kernel_rfl)
    (of_decide_eq_true (by kernel_rfl)) (by unfold Func.isWrapper; first | (rw [if_pos (by decide +kernel)]; kernel_rfl) | (rw [if_neg (by decide +kernel)]; exact ⟨rfl, rfl⟩))
    (fun os started H enc _ => lifted os started H enc)

theorem proved : Rows.BatchPutsSaid := over
end Go.Proofs.Ytfddaegepmdohaa.batchPuts
