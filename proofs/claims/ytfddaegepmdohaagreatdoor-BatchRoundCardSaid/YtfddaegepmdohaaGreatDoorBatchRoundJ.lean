/-
  Proved: whatever facts (the first 10, with at most 5 paths of 5 names and 5 values) can be put, with whatever bytes behind (the first 9), what batch.Read reads is what batch.Put put, and no byte more; what cannot be put tells no bytes; the examples of the document hold, and nothing that was handed in changes. No condition.
-/
import Derived.Test.YtfddaegepmdohaaGreatDoorJ21
import Derived.Test.YtfddaegepmdohaaGreatDoorJ29
import Derived.Test.YtfddaegepmdohaaGreatDoorJ30
import Derived.Test.YtfddaegepmdohaaGreatDoorJ44
import Derived.Below
import Derived.ChangeOld
import Derived.LaidMore
import Derived.Lay
import Derived.OpenShut
import Derived.ProofKit
import Derived.SevenTiedAt
import Derived.ShutString
import Derived.Stop.Joined
import Derived.Test.YtfddaegepmdohaaGreatDoorCards
import Derived.Test.YtfddaegepmdohaaGreatDoorTie
import Derived.WalkKit
namespace Go.Proofs.YtfddaegepmdohaaGreatDoor.batchRound
open Go.ChangeShapes Go.WideShapes Go.ChangeAt Go.RowKit
open Go.ChangeMaps (open_string shut_string)
set_option linter.unusedVariables false

theorem own : ownKnob Tryz.prog.godebug = none := by kernel_rfl
theorem laidOut : laidOutB Tryz.prog = true := by kernel_rfl

def IsRow (k : IntKind) (w : World) (a : Option Addr) (len cap : Nat) (zs : List Int) : Prop :=
  (a = none ∧ len = 0 ∧ cap = 0 ∧ zs = []) ∨
  ∃ x, a = some x ∧ len ≤ cap ∧ cap ≤ maxLen ∧ zs.length = cap ∧ (∀ i, i < zs.length → w.cell? (x.add i) = some (.int k (zs.getD i 0))) ∧ ∀ n ∈ zs, (Lit.int k n).wf = true

set_option maxRecDepth 100000 in
set_option maxHeartbeats 2000000 in
theorem walk (a0 : Option Addr) (len0 cap0 : Nat) (a1 : Option Addr) (len1 cap1 : Nat) (z1 : List Int) (w : World) (w0 : RC Tryz.prog w 29 [.slice a0 len0 cap0]) (w1 : IsRow .u8 w a1 len1 cap1 z1) :
    Calls Tryz.prog 4 #[.slice a0 len0 cap0, .slice a1 len1 cap1] w fun e w' => e = .returned (.bool true) ∧ Below w.heap.size w w' := by
  obtain ⟨L, hF, _⟩ := facts_of w0
  obtain ⟨l0, hr0⟩ := HasB.of_row w1
  go_enter Tryz.func4, Tryz.ntmps4
  go_wp2_with fail
  refine (few_any hF).mono ?_
  rintro e w4 ⟨a2, len2, cap2, rfl, hF4, hB4⟩
  have hA := hr0.belowS hB4
  have hcap := hr0.cap
  have hcm := hr0.capMax
  generalize fewF L = L' at hF4
  clear hF hr0
  by_cases h9 : (9 : Int) < (len1 : Int)
  · have h2 : (9 : Int) ≤ (cap1 : Int) := by omega
    obtain ⟨lb, hA4⟩ : ∃ l, HasB w4 w4.heap.size a1 9 cap1 l := ⟨_, hA.take_ 9 (by omega)⟩
    clear hA
    have HP := Lib.hid (putBatch_any hF4 (B := none) (m := 0) (d := 0) (l := []) ⟨rfl, Nat.le_refl _, Nat.zero_le _, fun _ => rfl, Has.nil_⟩ (by decide))
    obtain ⟨x, hx⟩ : ∃ x, Hid (putE L' = x) := ⟨_, Lib.hid rfl⟩
    rw [hx.out] at HP
    by_cases h0 : x = 0
    · subst h0
      have HRB := Lib.hid (rdB_put hx.out lb)
      have HPL := Lib.hid (putE_of hx.out)
      have HPB : Hid ((putB [] L').length ≤ 2000) := Lib.hid (by
        have h1 := encFs_len HPL.out.2 8
        rw [List.take_of_length_le HPL.out.1] at h1
        have h2 := encI_len (x := (L'.length : Int)) (by omega) (by have := HPL.out.1; omega)
        have h3 := HPL.out.1
        rw [putB_yes hx.out]
        unfold encB
        simp only [List.nil_append, List.length_append]
        omega)
      obtain ⟨bb, hbb⟩ : ∃ bb, Hid (putB [] L' = bb) := ⟨_, Lib.hid rfl⟩
      rw [hbb.out] at HP HRB HPB
      go_wp2_with fail
      refine HP.out.mono ?_
      rintro e w5 ⟨v5, rfl, hO5, hb5⟩
      have hA5 := hA4.belowS hb5
      have hF5 := hF4.mv elFct_ok (Mv.belowS hb5 _)
      have hz5 := hb5.size
      have hlo5 := fun k e => (hO5.lt k e).1
      obtain ⟨i0, hi, hz0, hz1, hz2⟩ := info_parts info_u8
      obtain ⟨nb, hnb⟩ : ∃ nb, Hid (bb.length = nb) := ⟨_, Lib.hid rfl⟩
      obtain ⟨A5, c5, rfl, hH5, _⟩ := hO5.form
      have hcap5 := hH5.capMax
      have hln5 : Hid (bb.length + 9 ≤ 140737488355328) := Lib.hid (by have := HPB.out; omega)
      have hnm5 := hH5.lenMax
      rw [hnb.out] at hO5 hnm5 hlo5 ⊢
      clear HP hA4 hH5 hF4
      go_wp2_with (at_builtin; refine wpList_app4 _ rfl _ _ 22 rfl w4.heap.size 5 i0 (.int .u8 0) Tryz.underlying22 hi hz0 hz1 hz2 rfl (.slice A5 nb c5) bb rfl hO5 _ a1 9 cap1 lb rfl hA5 hln5.out hz5 ?_)
      intro v6 w6 hO6 hG6
      obtain ⟨A6, n6, c6, rfl, hH6, _⟩ := hO6.formN
      have hb6 := hG6.below_ hz5 hlo5
      have hB6 := hB4.trans ((hb5.trans hb6).mono hB4.size)
      have hF6 := hF5.mv elFct_ok (Mv.below hb6 (fun _ h => h))
      have hz6 : w4.heap.size ≤ w6.heap.size := Nat.le_trans hz5 hb6.size
      have hn6 : n6 ≤ 3000 := by have h1 := hH6.len; rw [List.length_append] at h1; have h2 := HPB.out; have h3 := hA5.len; omega
      have HN := Lib.hid (wireNew_any _ _ _ _ _ hH6 (by omega))
      clear hO5 hA5 hF5 hB4 hO6 hG6 hlo5 hb6 hb5 hH6 hi hz0 hz1 hz2
      go_wp2_with fail
      refine HN.out.mono ?_
      rintro e w7 ⟨g, A7, c7, rfl, hr7, hwg, hb7⟩
      have hF7 := hF6.mv elFct_ok (Mv.below hb7 (fun b hb => Nat.lt_of_lt_of_le hb hz6))
      have hB7 := hB6.trans (hb7.mono hB6.size)
      have HRd := Lib.hid (readBatch_any hr7)
      rw [HRB.out] at HRd
      have hgw := hB6.size
      have hg7 := hr7.lt
      clear HN hb7 hF6 hr7
      go_wp2_with fail
      refine HRd.out.mono ?_
      rintro e w8 ⟨v8, rfl, hO8, hr8, hG8⟩
      have hF8 := hF7.mv elFct_ok (Mv.grown hG8 (fun b hb e => by injection e with e; have : b < w4.heap.size := hb; omega))
      obtain ⟨A8, n8, c8, rfl, hrow8⟩ := hO8.elR elFct_ok
      have hB8 := hB7.trans (below_gr hG8 (by omega) hB7.size)
      have HSM := Lib.hid (sameF_any hF8 hrow8)
      rw [decide_eq_true rfl] at HSM
      clear HRd hF7 hB7 hO8 hG8 hF8 hrow8 hB6
      go_wp2_with fail
      refine HSM.out.mono ?_
      rintro y w9' ⟨rfl, k9, rfl⟩
      have hr9 := hr8.drewN k9
      have hB9 := below_drewN hB8 k9
      generalize w8.drewN k9 = w9 at hr9 hB9 ⊢
      have HFA := Lib.hid (failed_any _ _ _ _ _ _ _ _ hr9)
      have HAT := Lib.hid (at_any _ _ _ _ _ _ _ _ hr9)
      rw [hnb.out] at HAT
      clear HSM hr8 hB8 hr9
      have q1 : ((nb : Int) == (nb : Int)) = true := by simp
      go_wp2_with fail
      refine HFA.out.mono ?_
      rintro y w10 ⟨rfl, rfl⟩
      go_wp2_with fail
      refine HAT.out.mono ?_
      rintro y w11 ⟨rfl, rfl⟩
      go_wp2_with fail
      refine (batchLives_any _).mono ?_
      rintro e vz ⟨rfl, hbz⟩
      have HF := Lib.hid (hB9.trans (hbz.mono hB9.size))
      clear hbz hB9 HFA HAT
      go_wp2_with fail
      go_ret
      exact ⟨rfl, HF.out⟩
    · have HPB := Lib.hid (putB_no (b := []) hx.out h0)
      rw [HPB.out] at HP
      have hx1 : ((x : Int) != 0) = true := by simp; omega
      clear h0
      go_wp2_with fail
      refine HP.out.mono ?_
      rintro e w5 ⟨v5, rfl, hO5, hb5⟩
      obtain ⟨A5, c5, rfl, hH5, _⟩ := hO5.form
      have hB5 := hB4.trans (hb5.mono hB4.size)
      clear HP hO5 hb5 hB4 hH5
      go_wp2_with fail
      refine (batchLives_any _).mono ?_
      rintro e vz ⟨rfl, hbz⟩
      have HF := Lib.hid (hB5.trans (hbz.mono hB5.size))
      clear hbz hB5
      go_wp2_with fail
      go_ret
      exact ⟨rfl, HF.out⟩
  · obtain ⟨lb, hA4⟩ : ∃ l, HasB w4 w4.heap.size a1 len1 cap1 l := ⟨_, hA⟩
    clear hA
    have HP := Lib.hid (putBatch_any hF4 (B := none) (m := 0) (d := 0) (l := []) ⟨rfl, Nat.le_refl _, Nat.zero_le _, fun _ => rfl, Has.nil_⟩ (by decide))
    obtain ⟨x, hx⟩ : ∃ x, Hid (putE L' = x) := ⟨_, Lib.hid rfl⟩
    rw [hx.out] at HP
    by_cases h0 : x = 0
    · subst h0
      have HRB := Lib.hid (rdB_put hx.out lb)
      have HPL := Lib.hid (putE_of hx.out)
      have HPB : Hid ((putB [] L').length ≤ 2000) := Lib.hid (by
        have h1 := encFs_len HPL.out.2 8
        rw [List.take_of_length_le HPL.out.1] at h1
        have h2 := encI_len (x := (L'.length : Int)) (by omega) (by have := HPL.out.1; omega)
        have h3 := HPL.out.1
        rw [putB_yes hx.out]
        unfold encB
        simp only [List.nil_append, List.length_append]
        omega)
      obtain ⟨bb, hbb⟩ : ∃ bb, Hid (putB [] L' = bb) := ⟨_, Lib.hid rfl⟩
      rw [hbb.out] at HP HRB HPB
      go_wp2_with fail
      refine HP.out.mono ?_
      rintro e w5 ⟨v5, rfl, hO5, hb5⟩
      have hA5 := hA4.belowS hb5
      have hF5 := hF4.mv elFct_ok (Mv.belowS hb5 _)
      have hz5 := hb5.size
      have hlo5 := fun k e => (hO5.lt k e).1
      obtain ⟨i0, hi, hz0, hz1, hz2⟩ := info_parts info_u8
      obtain ⟨nb, hnb⟩ : ∃ nb, Hid (bb.length = nb) := ⟨_, Lib.hid rfl⟩
      obtain ⟨A5, c5, rfl, hH5, _⟩ := hO5.form
      have hcap5 := hH5.capMax
      have hln5 : Hid (bb.length + len1 ≤ 140737488355328) := Lib.hid (by have := HPB.out; omega)
      have hnm5 := hH5.lenMax
      rw [hnb.out] at hO5 hnm5 hlo5 ⊢
      clear HP hA4 hH5 hF4
      go_wp2_with (at_builtin; refine wpList_app4 _ rfl _ _ 22 rfl w4.heap.size 5 i0 (.int .u8 0) Tryz.underlying22 hi hz0 hz1 hz2 rfl (.slice A5 nb c5) bb rfl hO5 _ a1 len1 cap1 lb rfl hA5 hln5.out hz5 ?_)
      intro v6 w6 hO6 hG6
      obtain ⟨A6, n6, c6, rfl, hH6, _⟩ := hO6.formN
      have hb6 := hG6.below_ hz5 hlo5
      have hB6 := hB4.trans ((hb5.trans hb6).mono hB4.size)
      have hF6 := hF5.mv elFct_ok (Mv.below hb6 (fun _ h => h))
      have hz6 : w4.heap.size ≤ w6.heap.size := Nat.le_trans hz5 hb6.size
      have hn6 : n6 ≤ 3000 := by have h1 := hH6.len; rw [List.length_append] at h1; have h2 := HPB.out; have h3 := hA5.len; omega
      have HN := Lib.hid (wireNew_any _ _ _ _ _ hH6 (by omega))
      clear hO5 hA5 hF5 hB4 hO6 hG6 hlo5 hb6 hb5 hH6 hi hz0 hz1 hz2
      go_wp2_with fail
      refine HN.out.mono ?_
      rintro e w7 ⟨g, A7, c7, rfl, hr7, hwg, hb7⟩
      have hF7 := hF6.mv elFct_ok (Mv.below hb7 (fun b hb => Nat.lt_of_lt_of_le hb hz6))
      have hB7 := hB6.trans (hb7.mono hB6.size)
      have HRd := Lib.hid (readBatch_any hr7)
      rw [HRB.out] at HRd
      have hgw := hB6.size
      have hg7 := hr7.lt
      clear HN hb7 hF6 hr7
      go_wp2_with fail
      refine HRd.out.mono ?_
      rintro e w8 ⟨v8, rfl, hO8, hr8, hG8⟩
      have hF8 := hF7.mv elFct_ok (Mv.grown hG8 (fun b hb e => by injection e with e; have : b < w4.heap.size := hb; omega))
      obtain ⟨A8, n8, c8, rfl, hrow8⟩ := hO8.elR elFct_ok
      have hB8 := hB7.trans (below_gr hG8 (by omega) hB7.size)
      have HSM := Lib.hid (sameF_any hF8 hrow8)
      rw [decide_eq_true rfl] at HSM
      clear HRd hF7 hB7 hO8 hG8 hF8 hrow8 hB6
      go_wp2_with fail
      refine HSM.out.mono ?_
      rintro y w9' ⟨rfl, k9, rfl⟩
      have hr9 := hr8.drewN k9
      have hB9 := below_drewN hB8 k9
      generalize w8.drewN k9 = w9 at hr9 hB9 ⊢
      have HFA := Lib.hid (failed_any _ _ _ _ _ _ _ _ hr9)
      have HAT := Lib.hid (at_any _ _ _ _ _ _ _ _ hr9)
      rw [hnb.out] at HAT
      clear HSM hr8 hB8 hr9
      have q1 : ((nb : Int) == (nb : Int)) = true := by simp
      go_wp2_with fail
      refine HFA.out.mono ?_
      rintro y w10 ⟨rfl, rfl⟩
      go_wp2_with fail
      refine HAT.out.mono ?_
      rintro y w11 ⟨rfl, rfl⟩
      go_wp2_with fail
      refine (batchLives_any _).mono ?_
      rintro e vz ⟨rfl, hbz⟩
      have HF := Lib.hid (hB9.trans (hbz.mono hB9.size))
      clear hbz hB9 HFA HAT
      go_wp2_with fail
      go_ret
      exact ⟨rfl, HF.out⟩
    · have HPB := Lib.hid (putB_no (b := []) hx.out h0)
      rw [HPB.out] at HP
      have hx1 : ((x : Int) != 0) = true := by simp; omega
      clear h0
      go_wp2_with fail
      refine HP.out.mono ?_
      rintro e w5 ⟨v5, rfl, hO5, hb5⟩
      obtain ⟨A5, c5, rfl, hH5, _⟩ := hO5.form
      have hB5 := hB4.trans (hb5.mono hB4.size)
      clear HP hO5 hb5 hB4 hH5
      go_wp2_with fail
      refine (batchLives_any _).mono ?_
      rintro e vz ⟨rfl, hbz⟩
      have HF := Lib.hid (hB5.trans (hbz.mono hB5.size))
      clear hbz hB5
      go_wp2_with fail
      go_ret
      exact ⟨rfl, HF.out⟩

set_option maxRecDepth 100000 in
theorem lifted (os : Os) (started : os.Started) (H : Type) (enc : TypeId × Value → H) :
    ReturnsInHanded {} Tryz.checked os 4 .any (fun w args => (Rows.batchRoundSpec.pre enc Tryz.prog Tryz.f4 Rows.batchRoundRow.domain false w args ∧ laidMetH Tryz.prog Rows.batchRoundRow.laid w) ∧ sizedMet enc Tryz.prog Tryz.f4 (OpenSpec.ofChange Rows.batchRoundSpec) false w args) (Rows.batchRoundSpec.post enc Tryz.prog Tryz.f4 false true false false) := by
  refine returnsInHanded_of_change_and (C := Tryz.checked) (X := fun w _ => laidMetH Tryz.prog Rows.batchRoundRow.laid w) (fun _ _ _ hh h => h.of_heap hh) own started (by kernel_rfl) Tryz.func4
    (ChangeSpec.witness_shaped (enc := enc) (C := Tryz.checked) (os := os) (X := fun w _ => laidMetH Tryz.prog Rows.batchRoundRow.laid w) false (World.laidAll Tryz.prog os Rows.batchRoundRow.laid) #[.slice none 0 0, .slice none 0 0] 8 (World.laidAll_os _ _ _)
      (World.shaped_of_ZipB (by kernel_rfl) (by kernel_rfl)) (by kernel_rfl) (by kernel_rfl) (by kernel_rfl)
      (by rw [MakeChecks.laidMetH_plain _ _ _ (by kernel_rfl)]; exact laidMet_laidAll _ (by kernel_rfl) (by kernel_rfl))) ?_
  intro W base args ds gs before hval0 hW hcnd _ hL _
  have hval : ∀ (j : Nat) t v, Tryz.f4.params[j]? = some t → args[j]? = some v → Value.okWide Tryz.prog W .any base t v := hval0
  have hW' := hW
  obtain ⟨p, q, hA0, hV, rfl, hfz, hnd⟩ := hW
  have hA : DataW.TrodAll enc Tryz.prog W 0 (fun _ => true) true Tryz.f4.params.toList args.toList ds p := hA0
  rw [Tryz.params4] at hA hval
  obtain ⟨v0, vs0, d0, ds0, p0, q0, hargs, rfl, rfl, h0, r0⟩ := trodAll_cons hA
  obtain ⟨v1, vs1, d1, ds1, p1, q1, rfl, rfl, rfl, h1, r1⟩ := trodAll_cons r0
  obtain ⟨rfl, rfl, rfl⟩ := trodAll_nil r1
  obtain rfl : args = #[v0, v1] := by cases args; simp_all
  obtain ⟨rfl, rfl⟩ := trodVars_none hV
  obtain ⟨a0, len0, cap0, rfl⟩ := okWide_slice Tryz.underlying29 (hval 0 29 v0 rfl rfl)
  have k0 := h0
  have lt0 : ∀ x ∈ p0, x.block < W.heap.size := by obtain ⟨m, hm⟩ := k0; exact DataW.trod_lt m _ _ _ hm
  have w0 : RC Tryz.prog W 29 [.slice a0 len0 cap0] := by
    obtain ⟨fuel, hf⟩ := h0
    exact ⟨_, _, _, _, _, fuel, _, hf⟩
  obtain ⟨a1, len1, cap1, rfl⟩ := okWide_slice Tryz.underlying22 (hval 1 22 v1 rfl rfl)
  have k1 := h1
  have lt1 : ∀ x ∈ p1, x.block < W.heap.size := by obtain ⟨m, hm⟩ := k1; exact DataW.trod_lt m _ _ _ hm
  obtain ⟨z1, w1⟩ : ∃ zs, IsRow .u8 W a1 len1 cap1 zs := by
    obtain ⟨fuel, hf⟩ := h1
    rcases open_ints Tryz.underlying22 Tryz.underlying5 (by kernel_rfl) hf with ⟨hcs, _⟩ | ⟨x, l, c, zs, hcs, _, hl, hm, hz, _, hcell, hwz⟩
    · simp [Value.cells] at hcs
      obtain ⟨rfl, rfl, rfl⟩ := hcs
      exact ⟨[], .inl ⟨rfl, rfl, rfl, rfl⟩⟩
    · simp [Value.cells] at hcs
      obtain ⟨rfl, rfl, rfl⟩ := hcs
      exact ⟨zs, .inr ⟨_, rfl, hl, hm, by simpa using hz, hcell, hwz⟩⟩
  clear hA0 hval0
  refine (walk a0 len0 cap0 a1 len1 cap1 z1 W w0 w1).mono fun e W' ⟨he, bel⟩ => ?_
  subst he
  exact ⟨_, rfl, _, _, _, [], _, [], hW', trodAll_mk1 (shut_bool Tryz.underlying4 _), (trodAll_cons_mk (Below.trod laidOut (by kernel_rfl) (of_decide_eq_true (by kernel_rfl)) k0 bel lt0) (trodAll_cons_mk (Below.trod laidOut (by kernel_rfl) (of_decide_eq_true (by kernel_rfl)) k1 bel lt1) trodAll_mk0)), rfl, bel.frame _, fun h => by cases h⟩

theorem over : Rows.batchRoundRow.holds Tryz.pinned (OpenSpec.ofChange Rows.batchRoundSpec) :=
  OpenClaim.holds_of_wide 4 Tryz.f4 rfl rfl rfl rfl rfl rfl rfl ⟨rfl, rfl, rfl, rfl, rfl⟩ rfl rfl rfl rfl rfl (by kernel_rfl) Tryz.func4 (by kernel_rfl)
    (of_decide_eq_true (by kernel_rfl)) (by unfold Func.isWrapper; first | (rw [if_pos (by decide +kernel)]; kernel_rfl) | (rw [if_neg (by decide +kernel)]; exact ⟨rfl, rfl⟩))
    (fun os started H enc _ => lifted os started H enc)

theorem proved : Rows.BatchRoundCardSaid :=
  Claim7.holds_tied_plain_at .later [] [.data, .pinned] true (true, "03905dd9ace3c284a3ea7122f8253190a51982687ffc4e1d11fabd42601c365b") false over (fun _ h => by cases h) (by kernel_rfl) (fun _ h => by cases h) batchRound_row_tie rfl ⟨rfl, rfl⟩ (by kernel_rfl) rfl
    (fun f fn hf hfn => by
      obtain rfl : f = 4 := Option.some.inj ((show Tryz.prog.funcNamed "tesseract/tesseractlaw09.BatchRound" = some 4 by kernel_rfl).symm.trans hf) |>.symm
      obtain rfl : fn = Tryz.f4 := (Option.some.inj (Tryz.func4.symm.trans hfn)).symm
      exact ⟨by kernel_rfl, fun j t ht => by
        rw [Tryz.params4] at ht
        have hm : t ∈ [29, 22] := by simpa using Array.mem_of_getElem? ht
        have hall : ([29, 22].all fun u => !Tryz.prog.wantsStandIn u) = true := by kernel_rfl
        exact (show Tryz.prog.wantsStandIn t = false by simpa using List.all_eq_true.1 hall t hm)⟩)
    (by kernel_rfl)
end Go.Proofs.YtfddaegepmdohaaGreatDoor.batchRound
