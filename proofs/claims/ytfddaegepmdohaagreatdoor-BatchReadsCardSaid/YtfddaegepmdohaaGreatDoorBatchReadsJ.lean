/-
  Proved: whatever bytes (the first 500) are read, batch.Read reads just the document's facts, or none where it says so, at the same place and with the same error as the document's reader; the examples of the document hold, and nothing that was handed in changes. No condition.
-/
import Derived.Test.YtfddaegepmdohaaGreatDoorJ5
import Derived.Test.YtfddaegepmdohaaGreatDoorJ21
import Derived.Test.YtfddaegepmdohaaGreatDoorJ30
import Derived.Test.YtfddaegepmdohaaGreatDoorJ44
import Derived.Below
import Derived.ChangeOld
import Derived.LaidMore
import Derived.Lay
import Derived.OpenShut
import Derived.ProofKit
import Derived.SevenTiedAt
import Derived.ShutString
import Derived.Stop.Joined
import Derived.Test.YtfddaegepmdohaaGreatDoorCards
import Derived.Test.YtfddaegepmdohaaGreatDoorTie
import Derived.WalkKit
namespace Go.Proofs.YtfddaegepmdohaaGreatDoor.batchReads
open Go.ChangeShapes Go.WideShapes Go.ChangeAt Go.RowKit
open Go.ChangeMaps (open_string shut_string)
set_option linter.unusedVariables false

theorem own : ownKnob Tryz.prog.godebug = none := by kernel_rfl
theorem laidOut : laidOutB Tryz.prog = true := by kernel_rfl

def IsRow (k : IntKind) (w : World) (a : Option Addr) (len cap : Nat) (zs : List Int) : Prop :=
  (a = none ∧ len = 0 ∧ cap = 0 ∧ zs = []) ∨
  ∃ x, a = some x ∧ len ≤ cap ∧ cap ≤ maxLen ∧ zs.length = cap ∧ (∀ i, i < zs.length → w.cell? (x.add i) = some (.int k (zs.getD i 0))) ∧ ∀ n ∈ zs, (Lit.int k n).wf = true

set_option maxRecDepth 100000 in
set_option maxHeartbeats 2000000 in
theorem walk (a0 : Option Addr) (len0 cap0 : Nat) (z0 : List Int) (w : World) (w0 : IsRow .u8 w a0 len0 cap0 z0) :
    Calls Tryz.prog 3 #[.slice a0 len0 cap0] w fun e w' => e = .returned (.bool true) ∧ Below w.heap.size w w' := by
  obtain ⟨l0, hr0⟩ := HasB.of_row w0
  have hcap := hr0.cap
  have hcm := hr0.capMax
  by_cases hgt : (500 : Int) < (len0 : Int)
  · obtain ⟨l, hb0⟩ : ∃ l, HasB w w.heap.size a0 500 cap0 l := ⟨_, hr0.take_ 500 (by omega)⟩
    have hcp : (500 : Int) ≤ (cap0 : Int) := by omega
    clear hr0
    go_enter Tryz.func3, Tryz.ntmps3
    go_wp2_with fail
    refine (wireNew_any _ _ _ _ _ hb0 (by omega)).mono ?_
    rintro e v1 ⟨g, A', c', rfl, hr, hwg, hb⟩
    have hz := hb.size
    have hgl := hr.lt
    have hx : Rd 28 (v1.alloc (.cells #[.slice a0 500 cap0, .int .i64 0, .int .i64 0] 28)) v1.heap.size a0 500 cap0 l 0 0 :=
      ⟨Block.new _ _ _, ((hb0.below hb (Nat.le_refl _)).more hz).alloc (Nat.le_refl _) _, Nat.zero_le _, Nat.zero_le _⟩
    have hr2 : Rd 43 (v1.alloc (.cells #[.slice a0 500 cap0, .int .i64 0, .int .i64 0] 28)) g A' 500 c' l 0 0 := hr.below (below_a1 v1 _) hgl
    have hb2 : Below w.heap.size w (v1.alloc (.cells #[.slice a0 500 cap0, .int .i64 0, .int .i64 0] 28)) := hb.alloc hz _
    have K : Hid (∀ y, Below w.heap.size w y → HasB y v1.heap.size a0 500 cap0 l) := Lib.hid fun y hy => (hb0.below hy (Nat.le_refl _)).more hz
    have hsz : v1.heap.size < (v1.alloc (.cells #[.slice a0 500 cap0, .int .i64 0, .int .i64 0] 28)).heap.size := by simp
    clear hr hb hb0
    go_wp2_with fail
    generalize v1.alloc (.cells #[.slice a0 500 cap0, .int .i64 0, .int .i64 0] 28) = w2 at *
    generalize v1.heap.size = gx at *
    obtain ⟨X, hX⟩ : ∃ X, Hid (rdB l 0 0 = X) := ⟨_, Lib.hid rfl⟩
    have h1 := readBatch_any hr2
    have h2 := fun (W : World) (hW : Rd 28 W gx a0 500 cap0 l 0 0) => refReadB_any hW
    rw [hX.out] at h1 h2
    obtain ⟨L, p', e'⟩ := X
    have H1 := Lib.hid h1
    have H2 := Lib.hid h2
    have Hx := Lib.hid hx
    have hgx := hx.lt
    clear h1 h2 hx hr2
    refine H1.out.mono ?_
    rintro y w3 ⟨v3, rfl, hO3, hR3, hG3⟩
    have hb3 := hb2.trans (below_gr hG3 hwg hb2.size)
    have hx3 := Hx.out.other hG3 (by omega) (K.out w3 hb3)
    have hz3 := hG3.size
    obtain ⟨A3, n3, c3, rfl, hrow3⟩ := hO3.elR elFct_ok
    clear H1 hO3 hb2
    go_wp2_with fail
    refine (H2.out w3 hx3).mono ?_
    rintro y w4 ⟨v4, rfl, hO4, hx4, hG4⟩
    have hb4 := hb3.trans (below_gr hG4 (by omega) hb3.size)
    have hr4 := hR3.grown hG4 (fun k hk => by injection hk with hk; omega)
    have hrow3' := hrow3.mv elFct_ok (Mv.grown hG4 (fun b hb e => by injection e with e; omega))
    obtain ⟨A4, n4, c4, rfl, hrow4⟩ := hO4.elR elFct_ok
    have HSM := Lib.hid (sameF_any hrow3' hrow4)
    rw [decide_eq_true rfl] at HSM
    clear H2 hx3 hb3 hR3 hG3 hG4 hrow3 hrow3' hO4 hrow4 Hx
    go_wp2_with fail
    refine HSM.out.mono ?_
    rintro y w5' ⟨rfl, k5, rfl⟩
    have hr5 := hr4.drewN k5
    have hx5 := hx4.drewN k5
    have hb5 := below_drewN hb4 k5
    generalize w4.drewN k5 = w5 at hr5 hx5 hb5 ⊢
    clear HSM hr4 hx4 hb4
    have k1 : ∀ y : Bel w5, y.w.cell? ⟨gx, 1, none⟩ = some (.int .i64 (p' : Int)) := fun y => (hx5.below y.b hx5.lt).c1
    have k2 : ∀ y : Bel w5, y.w.cell? ⟨gx, 2, none⟩ = some (.int .i64 (e' : Int)) := fun y => (hx5.below y.b hx5.lt).c2
    have HA := Lib.hid fun (y : Bel w5) => y.calls fun W hw => toBB (at_any W g A' 500 c' l p' e' (hr5.below hw hr5.lt))
    have HE := Lib.hid fun (y : Bel w5) => y.calls fun W hw => toBD (end_any W g A' 500 c' l p' e' (hr5.below hw hr5.lt))
    have HEX := Lib.hid fun (y : Bel w5) => y.calls fun W hw => toBD (refEnd_any W gx a0 500 cap0 l p' e' (hx5.below hw hx5.lt))
    have HFA := Lib.hid fun (y : Bel w5) => y.calls fun W hw => toBB (failed_any W g A' 500 c' l p' e' (hr5.below hw hr5.lt))
    have HL := Lib.hid fun (y : Bel w5) => y.calls fun W hw => batchLives_any W
    obtain ⟨z, hz9⟩ : ∃ z, Hid (endE 500 p' e' = z) := ⟨_, Lib.hid rfl⟩
    rw [hz9.out] at HE HEX
    have q1 : ((p' : Int) == (p' : Int)) = true := by simp
    have q2 : ((z : Int) == (z : Int)) = true := by simp
    obtain ⟨f, hf⟩ : ∃ f, ((e' : Int) != 0) = f := ⟨_, rfl⟩
    rw [hf] at HFA
    have q3 : (f == f) = true := by simp
    clear hr5 hx5 hz9
    go_wp2_with fail
    refine wp_region_below (by kernel_rfl) (by kernel_rfl) ?_
    repeat (go_big_quiet_step (first | (go_at_call 9; exact HA.out _) | (go_at_call 10; exact HE.out _) | (go_at_call 11; exact HEX.out _) | (go_at_call 12; exact HFA.out _) | (go_at_call 13; exact HL.out _)))
    refine wpQuiet_nil ?_
    rintro _ ⟨⟨w7, hb7⟩, rfl⟩
    have HF := Lib.hid (hb5.trans (hb7.mono hb5.size))
    clear HA HE HEX HFA HL k1 k2 hb7 hb5 hf
    go_wp2_with fail
    go_ret
    exact ⟨rfl, HF.out⟩
  · have hb0 := hr0
    obtain ⟨l, hl⟩ : ∃ l, l0 = l := ⟨_, rfl⟩
    subst hl
    clear hr0
    go_enter Tryz.func3, Tryz.ntmps3
    go_wp2_with fail
    refine (wireNew_any _ _ _ _ _ hb0 (by omega)).mono ?_
    rintro e v1 ⟨g, A', c', rfl, hr, hwg, hb⟩
    have hz := hb.size
    have hgl := hr.lt
    have hx : Rd 28 (v1.alloc (.cells #[.slice a0 len0 cap0, .int .i64 0, .int .i64 0] 28)) v1.heap.size a0 len0 cap0 l0 0 0 :=
      ⟨Block.new _ _ _, ((hb0.below hb (Nat.le_refl _)).more hz).alloc (Nat.le_refl _) _, Nat.zero_le _, Nat.zero_le _⟩
    have hr2 : Rd 43 (v1.alloc (.cells #[.slice a0 len0 cap0, .int .i64 0, .int .i64 0] 28)) g A' len0 c' l0 0 0 := hr.below (below_a1 v1 _) hgl
    have hb2 : Below w.heap.size w (v1.alloc (.cells #[.slice a0 len0 cap0, .int .i64 0, .int .i64 0] 28)) := hb.alloc hz _
    have K : Hid (∀ y, Below w.heap.size w y → HasB y v1.heap.size a0 len0 cap0 l0) := Lib.hid fun y hy => (hb0.below hy (Nat.le_refl _)).more hz
    have hsz : v1.heap.size < (v1.alloc (.cells #[.slice a0 len0 cap0, .int .i64 0, .int .i64 0] 28)).heap.size := by simp
    clear hr hb hb0
    go_wp2_with fail
    generalize v1.alloc (.cells #[.slice a0 len0 cap0, .int .i64 0, .int .i64 0] 28) = w2 at *
    generalize v1.heap.size = gx at *
    obtain ⟨X, hX⟩ : ∃ X, Hid (rdB l0 0 0 = X) := ⟨_, Lib.hid rfl⟩
    have h1 := readBatch_any hr2
    have h2 := fun (W : World) (hW : Rd 28 W gx a0 len0 cap0 l0 0 0) => refReadB_any hW
    rw [hX.out] at h1 h2
    obtain ⟨L, p', e'⟩ := X
    have H1 := Lib.hid h1
    have H2 := Lib.hid h2
    have Hx := Lib.hid hx
    have hgx := hx.lt
    clear h1 h2 hx hr2
    refine H1.out.mono ?_
    rintro y w3 ⟨v3, rfl, hO3, hR3, hG3⟩
    have hb3 := hb2.trans (below_gr hG3 hwg hb2.size)
    have hx3 := Hx.out.other hG3 (by omega) (K.out w3 hb3)
    have hz3 := hG3.size
    obtain ⟨A3, n3, c3, rfl, hrow3⟩ := hO3.elR elFct_ok
    clear H1 hO3 hb2
    go_wp2_with fail
    refine (H2.out w3 hx3).mono ?_
    rintro y w4 ⟨v4, rfl, hO4, hx4, hG4⟩
    have hb4 := hb3.trans (below_gr hG4 (by omega) hb3.size)
    have hr4 := hR3.grown hG4 (fun k hk => by injection hk with hk; omega)
    have hrow3' := hrow3.mv elFct_ok (Mv.grown hG4 (fun b hb e => by injection e with e; omega))
    obtain ⟨A4, n4, c4, rfl, hrow4⟩ := hO4.elR elFct_ok
    have HSM := Lib.hid (sameF_any hrow3' hrow4)
    rw [decide_eq_true rfl] at HSM
    clear H2 hx3 hb3 hR3 hG3 hG4 hrow3 hrow3' hO4 hrow4 Hx
    go_wp2_with fail
    refine HSM.out.mono ?_
    rintro y w5' ⟨rfl, k5, rfl⟩
    have hr5 := hr4.drewN k5
    have hx5 := hx4.drewN k5
    have hb5 := below_drewN hb4 k5
    generalize w4.drewN k5 = w5 at hr5 hx5 hb5 ⊢
    clear HSM hr4 hx4 hb4
    have k1 : ∀ y : Bel w5, y.w.cell? ⟨gx, 1, none⟩ = some (.int .i64 (p' : Int)) := fun y => (hx5.below y.b hx5.lt).c1
    have k2 : ∀ y : Bel w5, y.w.cell? ⟨gx, 2, none⟩ = some (.int .i64 (e' : Int)) := fun y => (hx5.below y.b hx5.lt).c2
    have HA := Lib.hid fun (y : Bel w5) => y.calls fun W hw => toBB (at_any W g A' len0 c' l0 p' e' (hr5.below hw hr5.lt))
    have HE := Lib.hid fun (y : Bel w5) => y.calls fun W hw => toBD (end_any W g A' len0 c' l0 p' e' (hr5.below hw hr5.lt))
    have HEX := Lib.hid fun (y : Bel w5) => y.calls fun W hw => toBD (refEnd_any W gx a0 len0 cap0 l0 p' e' (hx5.below hw hx5.lt))
    have HFA := Lib.hid fun (y : Bel w5) => y.calls fun W hw => toBB (failed_any W g A' len0 c' l0 p' e' (hr5.below hw hr5.lt))
    have HL := Lib.hid fun (y : Bel w5) => y.calls fun W hw => batchLives_any W
    obtain ⟨z, hz9⟩ : ∃ z, Hid (endE len0 p' e' = z) := ⟨_, Lib.hid rfl⟩
    rw [hz9.out] at HE HEX
    have q1 : ((p' : Int) == (p' : Int)) = true := by simp
    have q2 : ((z : Int) == (z : Int)) = true := by simp
    obtain ⟨f, hf⟩ : ∃ f, ((e' : Int) != 0) = f := ⟨_, rfl⟩
    rw [hf] at HFA
    have q3 : (f == f) = true := by simp
    clear hr5 hx5 hz9
    go_wp2_with fail
    refine wp_region_below (by kernel_rfl) (by kernel_rfl) ?_
    repeat (go_big_quiet_step (first | (go_at_call 9; exact HA.out _) | (go_at_call 10; exact HE.out _) | (go_at_call 11; exact HEX.out _) | (go_at_call 12; exact HFA.out _) | (go_at_call 13; exact HL.out _)))
    refine wpQuiet_nil ?_
    rintro _ ⟨⟨w7, hb7⟩, rfl⟩
    have HF := Lib.hid (hb5.trans (hb7.mono hb5.size))
    clear HA HE HEX HFA HL k1 k2 hb7 hb5 hf
    go_wp2_with fail
    go_ret
    exact ⟨rfl, HF.out⟩

set_option maxRecDepth 100000 in
theorem lifted (os : Os) (started : os.Started) (H : Type) (enc : TypeId × Value → H) :
    ReturnsInHanded {} Tryz.checked os 3 .any (fun w args => (Rows.batchReadsSpec.pre enc Tryz.prog Tryz.f3 Rows.batchReadsRow.domain false w args ∧ laidMetH Tryz.prog Rows.batchReadsRow.laid w) ∧ sizedMet enc Tryz.prog Tryz.f3 (OpenSpec.ofChange Rows.batchReadsSpec) false w args) (Rows.batchReadsSpec.post enc Tryz.prog Tryz.f3 false true false false) := by
  refine returnsInHanded_of_change_and (C := Tryz.checked) (X := fun w _ => laidMetH Tryz.prog Rows.batchReadsRow.laid w) (fun _ _ _ hh h => h.of_heap hh) own started (by kernel_rfl) Tryz.func3
    (ChangeSpec.witness_shaped (enc := enc) (C := Tryz.checked) (os := os) (X := fun w _ => laidMetH Tryz.prog Rows.batchReadsRow.laid w) false (World.laidAll Tryz.prog os Rows.batchReadsRow.laid) #[.slice none 0 0] 8 (World.laidAll_os _ _ _)
      (World.shaped_of_ZipB (by kernel_rfl) (by kernel_rfl)) (by kernel_rfl) (by kernel_rfl) (by kernel_rfl)
      (by rw [MakeChecks.laidMetH_plain _ _ _ (by kernel_rfl)]; exact laidMet_laidAll _ (by kernel_rfl) (by kernel_rfl))) ?_
  intro W base args ds gs before hval0 hW hcnd _ hL _
  have hval : ∀ (j : Nat) t v, Tryz.f3.params[j]? = some t → args[j]? = some v → Value.okWide Tryz.prog W .any base t v := hval0
  have hW' := hW
  obtain ⟨p, q, hA0, hV, rfl, hfz, hnd⟩ := hW
  have hA : DataW.TrodAll enc Tryz.prog W 0 (fun _ => true) true Tryz.f3.params.toList args.toList ds p := hA0
  rw [Tryz.params3] at hA hval
  obtain ⟨v0, vs0, d0, ds0, p0, q0, hargs, rfl, rfl, h0, r0⟩ := trodAll_cons hA
  obtain ⟨rfl, rfl, rfl⟩ := trodAll_nil r0
  obtain rfl : args = #[v0] := by cases args; simp_all
  obtain ⟨rfl, rfl⟩ := trodVars_none hV
  obtain ⟨a0, len0, cap0, rfl⟩ := okWide_slice Tryz.underlying22 (hval 0 22 v0 rfl rfl)
  have k0 := h0
  have lt0 : ∀ x ∈ p0, x.block < W.heap.size := by obtain ⟨m, hm⟩ := k0; exact DataW.trod_lt m _ _ _ hm
  obtain ⟨z0, w0⟩ : ∃ zs, IsRow .u8 W a0 len0 cap0 zs := by
    obtain ⟨fuel, hf⟩ := h0
    rcases open_ints Tryz.underlying22 Tryz.underlying5 (by kernel_rfl) hf with ⟨hcs, _⟩ | ⟨x, l, c, zs, hcs, _, hl, hm, hz, _, hcell, hwz⟩
    · simp [Value.cells] at hcs
      obtain ⟨rfl, rfl, rfl⟩ := hcs
      exact ⟨[], .inl ⟨rfl, rfl, rfl, rfl⟩⟩
    · simp [Value.cells] at hcs
      obtain ⟨rfl, rfl, rfl⟩ := hcs
      exact ⟨zs, .inr ⟨_, rfl, hl, hm, by simpa using hz, hcell, hwz⟩⟩
  clear hA0 hval0
  refine (walk a0 len0 cap0 z0 W w0).mono fun e W' ⟨he, bel⟩ => ?_
  subst he
  exact ⟨_, rfl, _, _, _, [], _, [], hW', trodAll_mk1 (shut_bool Tryz.underlying4 _), (trodAll_cons_mk (Below.trod laidOut (by kernel_rfl) (of_decide_eq_true (by kernel_rfl)) k0 bel lt0) trodAll_mk0), rfl, bel.frame _, fun h => by cases h⟩

theorem over : Rows.batchReadsRow.holds Tryz.pinned (OpenSpec.ofChange Rows.batchReadsSpec) :=
  OpenClaim.holds_of_wide 3 Tryz.f3 rfl rfl rfl rfl rfl rfl rfl ⟨rfl, rfl, rfl, rfl, rfl⟩ rfl rfl rfl rfl rfl (by kernel_rfl) Tryz.func3 (by kernel_rfl)
    (of_decide_eq_true (by kernel_rfl)) (by unfold Func.isWrapper; first | (rw [if_pos (by decide +kernel)]; kernel_rfl) | (rw [if_neg (by decide +kernel)]; exact ⟨rfl, rfl⟩))
    (fun os started H enc _ => lifted os started H enc)

theorem proved : Rows.BatchReadsCardSaid :=
  Claim7.holds_tied_plain_at .later [] [.data, .pinned] true (true, "03905dd9ace3c284a3ea7122f8253190a51982687ffc4e1d11fabd42601c365b") false over (fun _ h => by cases h) (by kernel_rfl) (fun _ h => by cases h) batchReads_row_tie rfl ⟨rfl, rfl⟩ (by kernel_rfl) rfl
    (fun f fn hf hfn => by
      obtain rfl : f = 3 := Option.some.inj ((show Tryz.prog.funcNamed "tesseract/tesseractlaw09.BatchReads" = some 3 by kernel_rfl).symm.trans hf) |>.symm
      obtain rfl : fn = Tryz.f3 := (Option.some.inj (Tryz.func3.symm.trans hfn)).symm
      exact ⟨by kernel_rfl, fun j t ht => by
        rw [Tryz.params3] at ht
        have hm : t ∈ [22] := by simpa using Array.mem_of_getElem? ht
        have hall : ([22].all fun u => !Tryz.prog.wantsStandIn u) = true := by kernel_rfl
        exact (show Tryz.prog.wantsStandIn t = false by simpa using List.all_eq_true.1 hall t hm)⟩)
    (by kernel_rfl)
end Go.Proofs.YtfddaegepmdohaaGreatDoor.batchReads
