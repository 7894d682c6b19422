/-
  Proved: whatever kind and body (of at most 200 bytes) are put by frame.Put, and wherever behind the frame's first four bytes some of 32 bits side by side are turned, frame.Get tells that the sum is not right, and nothing besides; where none is turned it tells the frame's bytes; a kind that may not be is refused; the document's examples hold, and nothing that was handed in changes. No condition.
-/
import Derived.Test.YtpegmingmcedmaaRows
import Derived.Test.YtpegmingmcedmaaFew
import Derived.Test.YtpegmingmcedmaaCrcE
import Derived.Test.YtpegmingmcedmaaFrameGet
import Derived.Test.YtpegmingmcedmaaFrameScan
import Derived.Test.YtpegmingmcedmaaFrameLives
import Derived.WalkKit
import Derived.ProofKit
import Derived.OpenShut
import Derived.ShutString
import Derived.ChangeOld
import Derived.Below
namespace Go.Proofs.Ytpegmingmcedmaa.frameTells
open Go.ChangeShapes Go.WideShapes Go.ChangeAt Go.RowKit
open Go.ChangeMaps (open_string shut_string)
set_option linter.unusedVariables false

theorem own : ownKnob Try.prog.godebug = none := by kernel_rfl
theorem laidOut : laidOutB Try.prog = true := by kernel_rfl

def IsRow (k : IntKind) (w : World) (a : Option Addr) (len cap : Nat) (zs : List Int) : Prop :=
  (a = none ∧ len = 0 ∧ cap = 0 ∧ zs = []) ∨
  ∃ x, a = some x ∧ len ≤ cap ∧ cap ≤ maxLen ∧ zs.length = cap ∧ (∀ i, i < zs.length → w.cell? (x.add i) = some (.int k (zs.getD i 0))) ∧ ∀ n ∈ zs, (Lit.int k n).wf = true

set_option maxRecDepth 100000 in
set_option maxHeartbeats 2000000 in
theorem walk (a0 : Int) (a1 : Option Addr) (len1 cap1 : Nat) (z1 : List Int) (a2 : Int) (a3 : Int) (w : World) (w0 : (Lit.int .i64 a0).wf = true) (w1 : IsRow .u8 w a1 len1 cap1 z1) (w2 : (Lit.int .i64 a2).wf = true) (w3 : (Lit.int .u32 a3).wf = true) :
    Calls Try.prog 7 #[.int .i64 a0, .slice a1 len1 cap1, .int .i64 a2, .int .u32 a3] w fun e w' => e = .returned (.bool true) ∧ Below w.heap.size w w' := by
  obtain ⟨l0, hr0⟩ := HasB.of_row w1
  obtain ⟨k0, k9⟩ := i64_of_wf w0
  obtain ⟨f0, f9⟩ := i64_of_wf w2
  obtain ⟨t0, t9⟩ := u32_of_wf w3
  go_enter Try.func7, Try.ntmps7
  go_wp2_with fail
  refine (few_any _ _ _ l0 _ _ hr0 200 (by omega)).mono ?_
  rintro e w' ⟨⟨m, rfl, hA, -, hm⟩, rfl⟩
  have hm2 : m ≤ 200 := hm
  clear hr0 hm
  generalize l0.take (Int.toNat 200) = body at hA
  have hml := Lib.hid hA.len
  by_cases hok : 0 ≤ a0 ∧ a0 ≤ 255
  · obtain ⟨hk0, hk1⟩ := hok
    obtain ⟨k, rfl⟩ := Int.eq_ofNat_of_zero_le hk0
    have hk256 : k < 256 := by omega
    have hnil : HasB w w.heap.size none 0 0 [] := ⟨rfl, Nat.le_refl _, Nat.zero_le _, fun _ => rfl, Has.nil_⟩
    go_wp2_with fail
    refine (put_any none 0 0 [] k _ _ _ body _ hnil hA (by omega) hk256 (by omega)).mono ?_
    rintro e v1 ⟨⟨v, rfl, ho⟩, hb1⟩
    rw [List.nil_append] at ho
    have hz1 := hb1.size
    obtain ⟨A1, n1, c1, rfl, hv1, -⟩ := ho.formN
    have hn1 : n1 = m + 9 := by have := hv1.len; rw [frOf_length, hml.out] at this; exact this.symm
    have Hn1 := Lib.hid hn1
    clear ho hA hnil
    have hF : ∃ F : Nat, F < 8 * n1 - 32 ∧ ((a2 < 0 ∧ (a2 + 1).tmod (8 * (n1 : Int) - 32) = -(F : Int)) ∨ (0 ≤ a2 ∧ a2.tmod (8 * (n1 : Int) - 32) = (F : Int))) := by
      by_cases hneg : a2 < 0
      · have e : (a2 + 1).tmod (8 * (n1 : Int) - 32) = -((-(a2 + 1)) % (8 * (n1 : Int) - 32)) := by
          rw [show (-(a2 + 1)) % (8 * (n1 : Int) - 32) = (-(a2 + 1)).tmod (8 * (n1 : Int) - 32) from (Int.tmod_eq_emod_of_nonneg (by omega)).symm, Int.neg_tmod, Int.neg_neg]
        have h1 := Int.emod_nonneg (-(a2 + 1)) (show (8 * (n1 : Int) - 32) ≠ 0 by omega)
        have h2 := Int.emod_lt_of_pos (-(a2 + 1)) (show 0 < (8 * (n1 : Int) - 32) by omega)
        exact ⟨((-(a2 + 1)) % (8 * (n1 : Int) - 32)).toNat, by omega, .inl ⟨hneg, by rw [e]; omega⟩⟩
      · have h1 := Int.emod_nonneg a2 (show (8 * (n1 : Int) - 32) ≠ 0 by omega)
        have h2 := Int.emod_lt_of_pos a2 (show 0 < (8 * (n1 : Int) - 32) by omega)
        exact ⟨(a2 % (8 * (n1 : Int) - 32)).toNat, by omega, .inr ⟨by omega, by rw [Int.tmod_eq_emod_of_nonneg (by omega)]; omega⟩⟩
    obtain ⟨F, hF, hcut⟩ := hF
    obtain ⟨s, hs⟩ : ∃ s, Hid (someT n1 (32 + F) a3.toNat 32 = s) := ⟨_, Lib.hid rfl⟩
    have hgt := Lib.hid (frGot_turned k body hk256 (by rw [hml.out]; omega) (32 + F) a3.toNat (by omega) (by rw [hml.out]; omega))
    rw [hml.out, ← Hn1.out, hs.out] at hgt
    have hft : ((32 : Int) + (F : Int)).toNat = 32 + F := by omega
    have hn9 : ¬ (n1 : Int) < 9 := by omega
    have hnl : n1 ≤ 1000 := by omega
    clear hn1
    have Hft := Lib.hid hft
    clear hft
    rcases hcut with ⟨hneg, he⟩ | ⟨hneg, he⟩
    all_goals
      go_wp2_with fail
      refine (turned_int _ _ _ _ _ _ hv1 (by omega) _ a3 (by omega) (by omega) t0 t9).mono ?_
      rw [Hft.out]
      rintro e v2 ⟨⟨v, rfl, ho2⟩, hb2⟩
      rw [hs.out]
      obtain ⟨A2, n2, c2, rfl, hv2, -⟩ := ho2.formN
      have hb12 := hb1.trans (hb2.mono hz1)
      have hz2 := hb12.size
      clear ho2 hb2 he hneg hv1 f0 f9 t0 t9
      go_wp2_with fail
      refine (get_any _ _ _ _ _ hv2).mono ?_
      rintro e v3 hge
      cases s
      case' false => have hg1 : frGot (turnT (frOf k body) (32 + F) a3.toNat 32) = ((k, body), n1, 0) := by rw [hgt.out]; rfl
      case' true => have hg1 : frGot (turnT (frOf k body) (32 + F) a3.toNat 32) = ((0, []), 0, 4) := by rw [hgt.out]; rfl
    all_goals
      obtain ⟨v, rfl, hv3, hb3⟩ := getIs_of hg1 hge
      obtain ⟨A3, n3, c3, rfl, hv3', -⟩ := hv3.formN
      have hn3 := hv3'.len
      try simp only [List.length_nil] at hn3
      have hb13 := hb12.trans (hb3.mono hz2)
      have hz3 := hb13.size
      have hbx := hb13.alloc hz3 (.cells #[.int .i64 (k : Int), .slice A3 n3 c3] 31)
      clear hge hg1 hv3 hv3' hb3 hv2 hgt
      first | subst hn3 | skip
      have hnn : ((n1 : Int) == (n1 : Int)) = true := by simp
      go_wp2_with fail
      refine (lives_any _).mono ?_
      rintro e w' ⟨rfl, hl⟩
      go_wp2_with fail
      go_ret
      exact ⟨rfl, (hb13.alloc hz3 _).trans (hl.mono (by simp; omega))⟩
  · have hno : a0 < 0 ∨ 255 < a0 ∨ 65536 < m := by omega
    go_wp2_with fail
    refine (put_no none 0 0 a0 _ m _ _ (by omega) hno).mono ?_
    rintro e w' ⟨rfl, rfl⟩
    go_wp2_with fail
    refine (lives_any _).mono ?_
    rintro e w' ⟨rfl, hl⟩
    go_wp2_with fail
    go_ret
    exact ⟨rfl, hl⟩

set_option maxRecDepth 100000 in
theorem lifted (os : Os) (started : os.Started) (H : Type) (enc : TypeId × Value → H) :
    ReturnsInHanded {} Try.checked os 7 .any (Rows.frameTellsSpec.pre6 enc Try.prog Try.f7 Rows.frameTellsRow.domain false) (Rows.frameTellsSpec.post enc Try.prog Try.f7 false true false false) := by
  refine returnsInHanded_of_change (C := Try.checked) own started (by kernel_rfl) Try.func7
    (ChangeSpec.witness6 (enc := enc) (C := Try.checked) false ⟨#[], #[.int .i64 0, .slice none 0 0, .int .i64 0, .int .u32 0], []⟩ 8 (by kernel_rfl) (by kernel_rfl) (by kernel_rfl) (by kernel_rfl)) ?_
  intro W base args ds gs before hval0 hW hcnd _
  have hval : ∀ (j : Nat) t v, Try.f7.params[j]? = some t → args[j]? = some v → Value.okWide Try.prog W .any base t v := hval0
  have hW' := hW
  obtain ⟨p, q, hA0, hV, rfl, hfz, hnd⟩ := hW
  have hA : DataW.TrodAll enc Try.prog W 0 (fun _ => true) true Try.f7.params.toList args.toList ds p := hA0
  rw [Try.params7] at hA hval
  obtain ⟨v0, vs0, d0, ds0, p0, q0, hargs, rfl, rfl, h0, r0⟩ := trodAll_cons hA
  obtain ⟨v1, vs1, d1, ds1, p1, q1, rfl, rfl, rfl, h1, r1⟩ := trodAll_cons r0
  obtain ⟨v2, vs2, d2, ds2, p2, q2, rfl, rfl, rfl, h2, r2⟩ := trodAll_cons r1
  obtain ⟨v3, vs3, d3, ds3, p3, q3, rfl, rfl, rfl, h3, r3⟩ := trodAll_cons r2
  obtain ⟨rfl, rfl, rfl⟩ := trodAll_nil r3
  obtain rfl : args = #[v0, v1, v2, v3] := by cases args; simp_all
  obtain ⟨rfl, rfl⟩ := trodVars_none hV
  obtain ⟨a0, rfl, rfl, rfl, w0⟩ := open_int Try.underlying3 (hval 0 3 v0 rfl rfl) h0
  obtain ⟨a1, len1, cap1, rfl⟩ := okWide_slice Try.underlying22 (hval 1 22 v1 rfl rfl)
  have k1 := h1
  have lt1 : ∀ x ∈ p1, x.block < W.heap.size := by obtain ⟨m, hm⟩ := k1; exact DataW.trod_lt m _ _ _ hm
  obtain ⟨z1, w1⟩ : ∃ zs, IsRow .u8 W a1 len1 cap1 zs := by
    obtain ⟨fuel, hf⟩ := h1
    rcases open_ints Try.underlying22 Try.underlying5 (by kernel_rfl) hf with ⟨hcs, _⟩ | ⟨x, l, c, zs, hcs, _, hl, hm, hz, _, hcell, hwz⟩
    · simp [Value.cells] at hcs
      obtain ⟨rfl, rfl, rfl⟩ := hcs
      exact ⟨[], .inl ⟨rfl, rfl, rfl, rfl⟩⟩
    · simp [Value.cells] at hcs
      obtain ⟨rfl, rfl, rfl⟩ := hcs
      exact ⟨zs, .inr ⟨_, rfl, hl, hm, by simpa using hz, hcell, hwz⟩⟩
  obtain ⟨a2, rfl, rfl, rfl, w2⟩ := open_int Try.underlying3 (hval 2 3 v2 rfl rfl) h2
  obtain ⟨a3, rfl, rfl, rfl, w3⟩ := open_int Try.underlying51 (hval 3 51 v3 rfl rfl) h3
  clear hA0 hval0
  refine (walk a0 a1 len1 cap1 z1 a2 a3 W w0 w1 w2 w3).mono fun e W' ⟨he, bel⟩ => ?_
  subst he
  exact ⟨_, rfl, _, _, _, [], _, [], hW', trodAll_mk1 (shut_bool Try.underlying4 _), (trodAll_cons_mk (shut_int Try.underlying3 w0) (trodAll_cons_mk (Below.trod laidOut (by kernel_rfl) (of_decide_eq_true (by kernel_rfl)) k1 bel lt1) (trodAll_cons_mk (shut_int Try.underlying3 w2) (trodAll_cons_mk (shut_int Try.underlying51 w3) trodAll_mk0)))), rfl, bel.frame _, fun h => by cases h⟩

theorem over : Rows.frameTellsRow.holds Try.pinned (OpenSpec.ofChange Rows.frameTellsSpec) :=
  OpenClaim.holds_of_wide 7 Try.f7 rfl rfl rfl rfl rfl rfl rfl ⟨rfl, rfl, rfl, rfl, rfl⟩ rfl rfl rfl rfl rfl (by kernel_rfl) Try.func7 (by kernel_rfl)
    (of_decide_eq_true (by kernel_rfl)) (by unfold Func.isWrapper; first | (rw [if_pos (by decide +kernel)]; kernel_rfl) | (rw [if_neg (by decide +kernel)]; exact ⟨rfl, rfl⟩))
    (fun os started H enc _ => lifted os started H enc)

theorem proved : Rows.FrameTellsSaid := over
end Go.Proofs.Ytpegmingmcedmaa.frameTells
