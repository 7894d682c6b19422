/-
  Proved: for all bytes (the first 1000), crc.Whole says yes just if they end with their sum, bytes with their sum behind them are whole and are the document's, and nothing that was handed in changes. No condition.
-/
import Derived.Test.YtkgednapdnjhbaaRows
import Derived.Test.YtkgednapdnjhbaaCrcD
import Derived.WalkKit
import Derived.ProofKit
import Derived.OpenShut
import Derived.ShutString
import Derived.ChangeOld
import Derived.Below
namespace Go.Proofs.Ytkgednapdnjhbaa.crcWhole
open Go.ChangeShapes Go.WideShapes Go.ChangeAt Go.RowKit
open Go.ChangeMaps (open_string shut_string)
set_option linter.unusedVariables false

theorem own : ownKnob Try.prog.godebug = none := by kernel_rfl
theorem laidOut : laidOutB Try.prog = true := by kernel_rfl

def IsRow (k : IntKind) (w : World) (a : Option Addr) (len cap : Nat) (zs : List Int) : Prop :=
  (a = none ∧ len = 0 ∧ cap = 0 ∧ zs = []) ∨
  ∃ x, a = some x ∧ len ≤ cap ∧ cap ≤ maxLen ∧ zs.length = cap ∧ (∀ i, i < zs.length → w.cell? (x.add i) = some (.int k (zs.getD i 0))) ∧ ∀ n ∈ zs, (Lit.int k n).wf = true

theorem walk (a0 : Option Addr) (len0 cap0 : Nat) (z0 : List Int) (w : World) (w0 : IsRow .u8 w a0 len0 cap0 z0) :
    Calls Try.prog 5 #[.slice a0 len0 cap0] w fun e w' => e = .returned (.bool true) ∧ Below w.heap.size w w' := by
  obtain ⟨l0, hr0⟩ := HasB.of_row w0
  obtain ⟨i0, hi, hz0, hz1, hz2⟩ := info_parts info_u8
  go_enter Try.func5, Try.ntmps5
  go_wp2_with fail
  refine (few_any _ _ _ l0 _ _ hr0 1000 (by omega)).mono ?_
  rintro e w' ⟨⟨n, rfl, hr, hn1, hn2⟩, rfl⟩
  clear hr0
  generalize l0.take (Int.toNat 1000) = l at hr
  have hn : n ≤ 1000 := hn2
  have hcap := hr.cap
  have hcm := hr.capMax
  have hll := Lib.hid hr.len
  clear hn2 hn1
  go_wp2_with fail
  refine (with_any _ _ _ _ _ _ (Nat.le_refl _) hr (by omega)).mono ?_
  rintro e w1 ⟨⟨v, rfl, ho⟩, hb1⟩
  have hr1 := hr.below hb1 (Nat.le_refl _)
  have hz1' := hb1.size
  clear hr
  go_wp2_with (at_builtin; refine wpList_app _ rfl _ _ 23 rfl w1.heap.size 5 i0 (.int .u8 0) Try.underlying23 hi hz0 hz1 hz2 rfl _ [] rfl (OwnB.nil_ w1 w1.heap.size 5) w.heap.size _ n _ l rfl hr1 (by simp; omega) (Nat.le_refl _) ?_)
  intro v2 w2 ho2 hg2
  have hr2 := hr1.grown hg2 hz1' (fun g h => by cases h)
  have hb2 := hb1.grown hg2 hz1' (fun g h => by cases h)
  have how := ho.kept hg2 (by cases hv : v.ownBlock <;> simp [Value.ownBlock])
  have hz2' := hb2.size
  have hvne : v.ownBlock = none ∨ v.ownBlock ≠ v2.ownBlock := by
    cases hvo : v.ownBlock with
    | none => exact .inl rfl
    | some k =>
      refine .inr (fun e => ?_)
      have h1 := (ho.lt k hvo).2
      have h2 := (ho2.lt k e.symm).1
      omega
  have hz12 : w1.heap.size ≤ w2.heap.size := hg2.size
  clear hr1 ho hb1 hg2
  go_wp2_with fail
  refine (sum_any _ _ _ _ _ _ hr2).mono ?_
  rintro e w' ⟨rfl, rfl⟩
  go_wp2_with fail
  refine (bytes_any _ (more_lt 0 l) _).mono ?_
  rintro e w3 ⟨rfl, ew3⟩
  have hbb : HasB w3 (w2.heap.size + 1) (some ⟨w2.heap.size, 0, none⟩) 4 4 (le4 (more 0 l)) := by rw [ew3]; exact bytes_has _ _
  have hb3 : Below w.heap.size w w3 := by rw [ew3]; exact hb2.alloc hz2' _
  have hr3 : HasB w3 w.heap.size a0 n cap0 l := by rw [ew3]; exact hr2.alloc hz2' _
  have ho3 : OwnB w3 w1.heap.size 5 v2 l := by rw [ew3]; exact ho2.alloc _
  have how3 : OwnB w3 w.heap.size 5 v (l ++ le4 (more 0 l)) := by rw [ew3]; exact how.alloc _
  have hne : v.ownBlock = none ∨ v.ownBlock ≠ v2.ownBlock := hvne
  have hz3' := hb3.size
  have hz13 : w1.heap.size ≤ w3.heap.size := by rw [ew3]; simp; omega
  clear ew3 hb2 hr2 ho2 how
  go_wp2_with (at_builtin; refine wpList_app _ rfl _ _ 23 rfl w1.heap.size 5 i0 (.int .u8 0) Try.underlying23 hi hz0 hz1 hz2 rfl _ l rfl ho3 (w2.heap.size + 1) _ 4 4 _ rfl hbb (by have := hll.out; omega) hz13 ?_)
  intro v4 w4 ho4 hg4
  have hr4 := hr3.grown hg4 hz3' (fun g h => Nat.le_trans hz1' (ho3.lt g h).1)
  have hb4 := hb3.grown hg4 hz3' (fun g h => Nat.le_trans hz1' (ho3.lt g h).1)
  have how4 := how3.kept hg4 hne
  have hz4' := hb4.size
  obtain ⟨A4, n4, c4, rfl, hv4, _⟩ := ho4.formN
  obtain ⟨A5, n5, c5, rfl, hv5, _⟩ := how4.formN
  clear hr3 hb3 ho3 how3 hg4 ho4 how4 hbb hz3'
  go_wp2_with fail
  refine (same_any _ _ _ _ _ _ _ _ _ _ _ hv4 hv5).mono ?_
  rintro e w5 ⟨rfl, k5, ew5⟩
  rw [show ((l ++ le4 (more 0 l)) == (l ++ le4 (more 0 l))) = true from by simp]
  obtain ⟨hr5, hv45, hb5, hs5⟩ : HasB w5 w.heap.size a0 n cap0 l ∧ HasB w5 w5.heap.size A4 n4 c4 (l ++ le4 (more 0 l)) ∧ Below w.heap.size w w5 ∧ w5.heap.size = w4.heap.size := by
    rw [ew5]; exact ⟨hr4.drewN _, hv4.drewN _, below_drewN hb4 _, rfl⟩
  clear ew5 hr4 hv4 hv5 hb4
  go_wp2_with fail
  refine (whole_any _ _ _ _ _ hv45).mono ?_
  rw [whole_with]
  rintro e w6 ⟨rfl, hb6⟩
  have hz5' := hb5.size
  have hr6 := hr5.below hb6 hz5'
  have hbel6 := hb5.trans (hb6.mono hz5')
  have hz6' := hbel6.size
  clear hr5 hv45 hb5 hb6 hs5 hz4'
  by_cases h4 : n < 4
  · have hw := Lib.hid (whole_short l (by have := hll.out; omega))
    go_wp2_with fail
    refine (whole_any _ _ _ _ _ (hr6.more hz6')).mono ?_
    rw [hw.out]
    rintro e w7 ⟨rfl, hb7⟩
    have hbel7 := hbel6.trans (hb7.mono hz6')
    go_wp2_with fail
    refine (lives_any _).mono ?_
    rintro e w' ⟨rfl, hl⟩
    go_wp2_with fail
    go_ret
    exact ⟨rfl, hbel7.trans (hl.mono hbel7.size)⟩
  · obtain ⟨m, rfl⟩ : ∃ m, n = m + 4 := ⟨n - 4, by omega⟩
    have hwi := Lib.hid (whole_iff l (by have := hll.out; omega))
    have hm : Hid (l.length - 4 = m) := Lib.hid (by have := hll.out; omega)
    have hmc : (m : Int) ≤ (cap0 : Int) := by omega
    have hT := hr6.take_ m (by omega)
    go_wp2_with fail
    refine (with_any _ _ _ _ _ _ hz6' hT (by omega)).mono ?_
    rintro e w7 ⟨⟨v7, rfl, ho7⟩, hb7⟩
    have hr7 := hr6.below hb7 hz6'
    have hbel7 := hbel6.trans (hb7.mono hz6')
    have hz7' := hbel7.size
    obtain ⟨A7, n7, c7, rfl, hv7, _⟩ := ho7.formN
    clear hr6 ho7 hb7
    go_wp2_with fail
    refine (same_any _ _ _ _ _ _ _ _ _ _ _ hr7 hv7).mono ?_
    rintro e w8 ⟨rfl, k8, ew8⟩
    obtain ⟨hr8, hbel8⟩ : HasB w8 w.heap.size a0 (m + 4) cap0 l ∧ Below w.heap.size w w8 := by rw [ew8]; exact ⟨hr7.drewN _, below_drewN hbel7 _⟩
    have hz8' := hbel8.size
    clear ew8 hr7 hbel7 hv7
    rw [show (l == l.take m ++ le4 (more 0 (l.take m))) = wholeB l from by rw [hwi.out, hm.out]]
    go_wp2_with fail
    refine (whole_any _ _ _ _ _ (hr8.more hz8')).mono ?_
    rintro e w9 ⟨rfl, hb9⟩
    have hbel9 := hbel8.trans (hb9.mono hz8')
    go_wp2_with fail
    refine (lives_any _).mono ?_
    rintro e w' ⟨rfl, hl⟩
    go_wp2_with fail
    go_ret
    exact ⟨rfl, hbel9.trans (hl.mono hbel9.size)⟩

set_option maxRecDepth 100000 in
theorem lifted (os : Os) (started : os.Started) (H : Type) (enc : TypeId × Value → H) :
    ReturnsInHanded {} Try.checked os 5 .any (Rows.crcWholeSpec.pre6 enc Try.prog Try.f5 Rows.crcWholeRow.domain false) (Rows.crcWholeSpec.post enc Try.prog Try.f5 false true false false) := by
  refine returnsInHanded_of_change (C := Try.checked) own started (by kernel_rfl) Try.func5
    (ChangeSpec.witness6 (enc := enc) (C := Try.checked) false ⟨#[], #[.slice none 0 0], []⟩ 8 (by kernel_rfl) (by kernel_rfl) (by kernel_rfl) (by kernel_rfl)) ?_
  intro W base args ds gs before hval0 hW hcnd _
  have hval : ∀ (j : Nat) t v, Try.f5.params[j]? = some t → args[j]? = some v → Value.okWide Try.prog W .any base t v := hval0
  have hW' := hW
  obtain ⟨p, q, hA0, hV, rfl, hfz, hnd⟩ := hW
  have hA : DataW.TrodAll enc Try.prog W 0 (fun _ => true) true Try.f5.params.toList args.toList ds p := hA0
  rw [Try.params5] at hA hval
  obtain ⟨v0, vs0, d0, ds0, p0, q0, hargs, rfl, rfl, h0, r0⟩ := trodAll_cons hA
  obtain ⟨rfl, rfl, rfl⟩ := trodAll_nil r0
  obtain rfl : args = #[v0] := by cases args; simp_all
  obtain ⟨rfl, rfl⟩ := trodVars_none hV
  obtain ⟨a0, len0, cap0, rfl⟩ := okWide_slice Try.underlying23 (hval 0 23 v0 rfl rfl)
  have k0 := h0
  have lt0 : ∀ x ∈ p0, x.block < W.heap.size := by obtain ⟨m, hm⟩ := k0; exact DataW.trod_lt m _ _ _ hm
  obtain ⟨z0, w0⟩ : ∃ zs, IsRow .u8 W a0 len0 cap0 zs := by
    obtain ⟨fuel, hf⟩ := h0
    rcases open_ints Try.underlying23 Try.underlying5 (by kernel_rfl) hf with ⟨hcs, _⟩ | ⟨x, l, c, zs, hcs, _, hl, hm, hz, _, hcell, hwz⟩
    · simp [Value.cells] at hcs
      obtain ⟨rfl, rfl, rfl⟩ := hcs
      exact ⟨[], .inl ⟨rfl, rfl, rfl, rfl⟩⟩
    · simp [Value.cells] at hcs
      obtain ⟨rfl, rfl, rfl⟩ := hcs
      exact ⟨zs, .inr ⟨_, rfl, hl, hm, by simpa using hz, hcell, hwz⟩⟩
  clear hA0 hval0
  refine (walk a0 len0 cap0 z0 W w0).mono fun e W' ⟨he, bel⟩ => ?_
  subst he
  exact ⟨_, rfl, _, _, _, [], _, [], hW', trodAll_mk1 (shut_bool Try.underlying4 _), (trodAll_cons_mk (Below.trod laidOut (by kernel_rfl) (of_decide_eq_true (by kernel_rfl)) k0 bel lt0) trodAll_mk0), rfl, bel.frame _, fun h => by cases h⟩

theorem over : Rows.crcWholeRow.holds Try.pinned (OpenSpec.ofChange Rows.crcWholeSpec) :=
  OpenClaim.holds_of_wide 5 Try.f5 rfl rfl rfl rfl rfl rfl rfl ⟨rfl, rfl, rfl, rfl, rfl⟩ rfl rfl rfl rfl rfl (by kernel_rfl) Try.func5 (by kernel_rfl)
    (of_decide_eq_true (by kernel_rfl)) (by unfold Func.isWrapper; first | (rw [if_pos (by decide +kernel)]; kernel_rfl) | (rw [if_neg (by decide +kernel)]; exact ⟨rfl, rfl⟩))
    (fun os started H enc _ => lifted os started H enc)

theorem proved : Rows.CrcWholeSaid := over
end Go.Proofs.Ytkgednapdnjhbaa.crcWhole
