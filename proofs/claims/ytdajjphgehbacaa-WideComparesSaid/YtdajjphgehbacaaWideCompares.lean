/-
  Proved: any two wide numbers, such as may be and others, are compared by wide.Cmp as the document says, in both orders, and of those that may be it is the order of the numbers, held against the document's rows of bits; the document's examples hold, and nothing that was handed in changes. No condition.
-/
import Derived.Test.YtdajjphgehbacaaRows
import Derived.Test.YtdajjphgehbacaaWideArg
import Derived.Deep.RegionHeld3
import Derived.WalkKit
import Derived.ProofKit
import Derived.OpenShut
import Derived.ShutString
import Derived.ChangeOld
import Derived.Below
namespace Go.Proofs.Ytdajjphgehbacaa.wideCompares
open Go.ChangeShapes Go.WideShapes Go.ChangeAt Go.RowKit
open Go.ChangeMaps (open_string shut_string)
set_option linter.unusedVariables false

theorem own : ownKnob Try.prog.godebug = none := by kernel_rfl
theorem laidOut : laidOutB Try.prog = true := by kernel_rfl

def IsRow (k : IntKind) (w : World) (a : Option Addr) (len cap : Nat) (zs : List Int) : Prop :=
  (a = none ∧ len = 0 ∧ cap = 0 ∧ zs = []) ∨
  ∃ x, a = some x ∧ len ≤ cap ∧ cap ≤ maxLen ∧ zs.length = cap ∧ (∀ i, i < zs.length → w.cell? (x.add i) = some (.int k (zs.getD i 0))) ∧ ∀ n ∈ zs, (Lit.int k n).wf = true

set_option maxRecDepth 100000 in
set_option maxHeartbeats 2000000 in
theorem walk (cs0 : Array Value) (cs1 : Array Value) (w : World) (w0 : RC Try.prog w 23 cs0.toList) (w1 : RC Try.prog w 23 cs1.toList) :
    Calls Try.prog 7 #[.agg cs0, .agg cs1] w fun e w' => e = .returned (.bool true) ∧ Below w.heap.size w w' := by
  obtain ⟨ah, al, rfl, a1, a2, a3, a4⟩ := wide_of w0
  obtain ⟨bh, bl, rfl, b1, b2, b3, b4⟩ := wide_of w1
  clear w0 w1
  obtain ⟨want, HC1, HC2, HL, hcase⟩ : ∃ want : Int, Hid (∀ W, Calls Try.prog 24 #[.agg #[.int .i64 ah, .int .i64 al], .agg #[.int .i64 bh, .int .i64 bl]] W fun e w' => e = .returned (.int .i64 want) ∧ Below W.heap.size W w') ∧
      Hid (∀ W, Calls Try.prog 24 #[.agg #[.int .i64 bh, .int .i64 bl], .agg #[.int .i64 ah, .int .i64 al]] W fun e w' => e = .returned (.int .i64 (-want)) ∧ Below W.heap.size W w') ∧
      Hid (wMay ah al → wMay bh bl → decide (wNum ah al < wNum bh bl) = decide (want < 0)) ∧
      ((want = -1 ∧ ah < bh) ∨ (want = -1 ∧ ((ah : Int) == bh) = true ∧ ¬ ah < bh ∧ al < bl) ∨ (want = 0 ∧ ((ah : Int) == bh) = true ∧ ((al : Int) == bl) = true ∧ ¬ ah < bh ∧ ¬ al < bl) ∨ (want = 1 ∧ ((ah : Int) == bh) = false ∧ ¬ ah < bh) ∨ (want = 1 ∧ ((ah : Int) == bh) = true ∧ ((al : Int) == bl) = false ∧ ¬ ah < bh ∧ ¬ al < bl)) := by
    have h : (ah < bh ∨ (ah = bh ∧ al < bl)) ∨ (ah = bh ∧ al = bl) ∨ (bh < ah ∨ (ah = bh ∧ bl < al)) := by omega
    rcases h with h | ⟨rfl, rfl⟩ | h
    · exact ⟨-1, Lib.hid fun W => cmp_lt _ _ _ _ W h, Lib.hid fun W => cmp_gt _ _ _ _ W (by omega), Lib.hid fun ha hb => by rw [decide_eq_true ((wNum_lt ha hb).2 h)]; rfl, by simp; omega⟩
    · exact ⟨0, Lib.hid fun W => cmp_eq _ _ W, Lib.hid fun W => cmp_eq _ _ W, Lib.hid fun _ _ => by simp, by simp⟩
    · exact ⟨1, Lib.hid fun W => cmp_gt _ _ _ _ W h, Lib.hid fun W => cmp_lt _ _ _ _ W (by omega), Lib.hid fun ha hb => by rw [decide_eq_false (fun h' => absurd ((wNum_lt ha hb).1 h') (by omega))]; rfl, by
        rcases h with h | ⟨rfl, h⟩
        · exact .inr (.inr (.inr (.inl ⟨rfl, by simp; omega, by omega⟩)))
        · exact .inr (.inr (.inr (.inr ⟨rfl, by simp, by simp; omega, by omega, by omega⟩)))⟩
  by_cases hmm : wMay ah al ∧ wMay bh bl
  · obtain ⟨hma, hmb⟩ := hmm
    have HB := Lib.hid (HL.out hma hmb)
    have HMA := Lib.hid hma
    have HMB := Lib.hid hmb
    have a5 := hma.1
    have a6 := hma.2.1
    have b5 := hmb.1
    have b6 := hmb.2.1
    clear hma hmb HL
    rcases hcase with ⟨rfl, c1⟩ | ⟨rfl, c1, c2, c3⟩ | ⟨rfl, c1, c2, c3, c4⟩ | ⟨rfl, c1, c2⟩ | ⟨rfl, c1, c2, c3, c4⟩
    all_goals
      go_enter Try.func7, Try.ntmps7
      go_wp2_with fail
      refine (refMay_any _ _ _).mono ?_
      rintro e v1 ⟨rfl, hv1⟩
      rw [decide_eq_true HMA.out]
      have hba := Block.alloc (Block.new w 23 #[.int .i64 ah, .int .i64 al]) (.cells #[.int .i64 bh, .int .i64 bl] 23)
      have hbb := Block.new (w.alloc (.cells #[.int .i64 ah, .int .i64 al] 23)) 23 #[.int .i64 bh, .int .i64 bl]
      have hbe := below_a2 w (.cells #[.int .i64 ah, .int .i64 al] 23) (.cells #[.int .i64 bh, .int .i64 bl] 23)
      rw [show (w.alloc (.cells #[.int .i64 ah, .int .i64 al] 23)).heap.size = w.heap.size + 1 from by simp] at hbb
      rw [hv1] at hba hbb hbe
      clear hv1
      have hc0 : v1.cell? ⟨w.heap.size, 0, none⟩ = some (.int .i64 ah) := hba.cell 0
      have hc1 : v1.cell? ⟨w.heap.size, 1, none⟩ = some (.int .i64 al) := hba.cell 1
      have hc2 : v1.cell? ⟨w.heap.size + 1, 0, none⟩ = some (.int .i64 bh) := hbb.cell 0
      have hc3 : v1.cell? ⟨w.heap.size + 1, 1, none⟩ = some (.int .i64 bl) := hbb.cell 1
      go_wp2_with fail
      refine (refMay_any _ _ _).mono ?_
      rintro e v2 ⟨rfl, rfl⟩
      rw [decide_eq_true HMB.out]
      go_wp2_with fail
      have hz1 : w.heap.size + 1 < v1.heap.size := hbb.lt
      go_region_held3 (fun w' => w'.cell? ⟨w.heap.size, 0, none⟩ = some (.int .i64 ah) ∧ w'.cell? ⟨w.heap.size, 1, none⟩ = some (.int .i64 al) ∧ w'.cell? ⟨w.heap.size + 1, 0, none⟩ = some (.int .i64 bh) ∧ w'.cell? ⟨w.heap.size + 1, 1, none⟩ = some (.int .i64 bl))
        (first
          | exact ⟨hc0, hc1, hc2, hc3⟩
          | exact ⟨(hd1.cell (p := ⟨w.heap.size, 0, none⟩) (Nat.lt_of_succ_lt hz1)).trans hc0, (hd1.cell (p := ⟨w.heap.size, 1, none⟩) (Nat.lt_of_succ_lt hz1)).trans hc1, (hd1.cell (p := ⟨w.heap.size + 1, 0, none⟩) hz1).trans hc2, (hd1.cell (p := ⟨w.heap.size + 1, 1, none⟩) hz1).trans hc3⟩
          | exact ⟨(hd2.cell (p := ⟨w.heap.size, 0, none⟩) (Nat.lt_of_succ_lt hz1)).trans hc0, (hd2.cell (p := ⟨w.heap.size, 1, none⟩) (Nat.lt_of_succ_lt hz1)).trans hc1, (hd2.cell (p := ⟨w.heap.size + 1, 0, none⟩) hz1).trans hc2, (hd2.cell (p := ⟨w.heap.size + 1, 1, none⟩) hz1).trans hc3⟩
          | exact ⟨(hd3.cell (p := ⟨w.heap.size, 0, none⟩) (Nat.lt_of_succ_lt hz1)).trans hc0, (hd3.cell (p := ⟨w.heap.size, 1, none⟩) (Nat.lt_of_succ_lt hz1)).trans hc1, (hd3.cell (p := ⟨w.heap.size + 1, 0, none⟩) hz1).trans hc2, (hd3.cell (p := ⟨w.heap.size + 1, 1, none⟩) hz1).trans hc3⟩)
        (first
          | (go_at_call 17; have hsecond := hd1; clear hsecond; refine (refWide_any bh bl _ b1 b2 b5 b6).mono ?_; rintro e y2 ⟨⟨u2, rfl, ho2⟩, hb2⟩; obtain ⟨g2, k2, rfl, hrow2, -, -⟩ := bits_shape ho2; have hrow3 := (hrow1.below hb2 (Nat.le_refl _)).more hb2.size; have hd2 := below_then hd1 hb2)
          | (go_at_call 17; refine (refWide_any ah al _ a1 a2 a5 a6).mono ?_; rintro e y1 ⟨⟨u1, rfl, ho1⟩, hb1⟩; obtain ⟨g1, k1, rfl, hrow1, -, -⟩ := bits_shape ho1; have hd1 := below_then (below_drawn (w := v1) 1) hb1)
          | (go_at_call 23; refine (refLess_any _ _ _ _ _ _ _ _ _ hrow3 hrow2 (wMay_far HMA.out) (wMay_far HMB.out)).mono ?_; rintro e y3 ⟨rfl, q, hq⟩; have hd3 : Below v1.heap.size v1 y3 := (by rw [hq]; exact below_drewN hd2 q)))
      have hd4 : Below v1.heap.size v1 (y2.drewN q) := below_drewN hd2 q
      clear hd3 hq hrow1 hrow2 hrow3 ho1 ho2 hd1 hd2 hb1 hb2
      generalize y2.drewN q = y4 at hd4 ⊢
      rw [HB.out]
      have hm0 := hc0
      have hm1 := hc1
      have hm2 := hc2
      have hm3 := hc3
      clear hc0 hc1 hc2 hc3
      have hc0 := (hd4.cell (p := ⟨w.heap.size, 0, none⟩) (Nat.lt_of_succ_lt hz1)).trans hm0
      have hc1 := (hd4.cell (p := ⟨w.heap.size, 1, none⟩) (Nat.lt_of_succ_lt hz1)).trans hm1
      have hc2 := (hd4.cell (p := ⟨w.heap.size + 1, 0, none⟩) hz1).trans hm2
      have hc3 := (hd4.cell (p := ⟨w.heap.size + 1, 1, none⟩) hz1).trans hm3
      clear HB
      go_wp2_with fail
      refine (HC1.out _).mono ?_
      rintro e y5 ⟨rfl, hb5⟩
      clear hc0 hc1 hc2 hc3
      have hd5 := below_then hd4 hb5
      have hc0 := (hd5.cell (p := ⟨w.heap.size, 0, none⟩) (Nat.lt_of_succ_lt hz1)).trans hm0
      have hc1 := (hd5.cell (p := ⟨w.heap.size, 1, none⟩) (Nat.lt_of_succ_lt hz1)).trans hm1
      have hc2 := (hd5.cell (p := ⟨w.heap.size + 1, 0, none⟩) hz1).trans hm2
      have hc3 := (hd5.cell (p := ⟨w.heap.size + 1, 1, none⟩) hz1).trans hm3
      clear hb5 hd4
      go_wp2_with fail
      refine (HC2.out _).mono ?_
      rintro e y6 ⟨rfl, hb6⟩
      have hd6 := below_then hd5 hb6
      clear hb6 hd5 hc0 hc1 hc2 hc3
      go_wp2_with fail
      refine (lives_any _).mono ?_
      rintro e y7 ⟨rfl, hb7⟩
      have hd7 := below_then hd6 hb7
      go_wp2_with fail
      go_ret
      exact ⟨rfl, hbe.trans (hd7.mono hbe.size)⟩
  · have hmm' : (decide (wMay ah al) = false ∧ True) ∨ (decide (wMay ah al) = true ∧ decide (wMay bh bl) = false) := by
      by_cases h : wMay ah al
      · exact .inr ⟨decide_eq_true h, decide_eq_false fun h' => hmm ⟨h, h'⟩⟩
      · exact .inl ⟨decide_eq_false h, trivial⟩
    clear hmm HL
    obtain ⟨o1, ho1⟩ : ∃ o1, Hid (decide (wMay ah al) = o1) := ⟨_, Lib.hid rfl⟩
    obtain ⟨o2, ho2⟩ : ∃ o2, Hid (decide (wMay bh bl) = o2) := ⟨_, Lib.hid rfl⟩
    rw [ho1.out, ho2.out] at hmm'
    rcases hmm' with ⟨rfl, -⟩ | ⟨rfl, rfl⟩ <;> rcases hcase with ⟨rfl, c1⟩ | ⟨rfl, c1, c2, c3⟩ | ⟨rfl, c1, c2, c3, c4⟩ | ⟨rfl, c1, c2⟩ | ⟨rfl, c1, c2, c3, c4⟩
    all_goals
      go_enter Try.func7, Try.ntmps7
      go_wp2_with fail
      refine (refMay_any _ _ _).mono ?_
      rintro e v1 ⟨rfl, hv1⟩
      rw [ho1.out]
      have hba := Block.alloc (Block.new w 23 #[.int .i64 ah, .int .i64 al]) (.cells #[.int .i64 bh, .int .i64 bl] 23)
      have hbb := Block.new (w.alloc (.cells #[.int .i64 ah, .int .i64 al] 23)) 23 #[.int .i64 bh, .int .i64 bl]
      have hbe := below_a2 w (.cells #[.int .i64 ah, .int .i64 al] 23) (.cells #[.int .i64 bh, .int .i64 bl] 23)
      rw [show (w.alloc (.cells #[.int .i64 ah, .int .i64 al] 23)).heap.size = w.heap.size + 1 from by simp] at hbb
      rw [hv1] at hba hbb hbe
      clear hv1
      have hc0 : v1.cell? ⟨w.heap.size, 0, none⟩ = some (.int .i64 ah) := hba.cell 0
      have hc1 : v1.cell? ⟨w.heap.size, 1, none⟩ = some (.int .i64 al) := hba.cell 1
      have hc2 : v1.cell? ⟨w.heap.size + 1, 0, none⟩ = some (.int .i64 bh) := hbb.cell 0
      have hc3 : v1.cell? ⟨w.heap.size + 1, 1, none⟩ = some (.int .i64 bl) := hbb.cell 1
      go_wp2_with fail
      refine (refMay_any _ _ _).mono ?_
      rintro e v2 ⟨rfl, rfl⟩
      rw [ho2.out]
      have hz1 : w.heap.size + 1 < v1.heap.size := hbb.lt
      have hd4 : Below v1.heap.size v1 v1 := Below.refl _ _
      have hm0 := hc0
      have hm1 := hc1
      have hm2 := hc2
      have hm3 := hc3
      go_wp2_with fail
      refine (HC1.out _).mono ?_
      rintro e y5 ⟨rfl, hb5⟩
      clear hc0 hc1 hc2 hc3
      have hd5 := below_then hd4 hb5
      have hc0 := (hd5.cell (p := ⟨w.heap.size, 0, none⟩) (Nat.lt_of_succ_lt hz1)).trans hm0
      have hc1 := (hd5.cell (p := ⟨w.heap.size, 1, none⟩) (Nat.lt_of_succ_lt hz1)).trans hm1
      have hc2 := (hd5.cell (p := ⟨w.heap.size + 1, 0, none⟩) hz1).trans hm2
      have hc3 := (hd5.cell (p := ⟨w.heap.size + 1, 1, none⟩) hz1).trans hm3
      clear hb5 hd4
      go_wp2_with fail
      refine (HC2.out _).mono ?_
      rintro e y6 ⟨rfl, hb6⟩
      have hd6 := below_then hd5 hb6
      clear hb6 hd5 hc0 hc1 hc2 hc3
      go_wp2_with fail
      refine (lives_any _).mono ?_
      rintro e y7 ⟨rfl, hb7⟩
      have hd7 := below_then hd6 hb7
      go_wp2_with fail
      go_ret
      exact ⟨rfl, hbe.trans (hd7.mono hbe.size)⟩

set_option maxRecDepth 100000 in
theorem lifted (os : Os) (started : os.Started) (H : Type) (enc : TypeId × Value → H) :
    ReturnsInHanded {} Try.checked os 7 .any (Rows.wideComparesSpec.pre6 enc Try.prog Try.f7 Rows.wideComparesRow.domain false) (Rows.wideComparesSpec.post enc Try.prog Try.f7 false true false false) := by
  refine returnsInHanded_of_change (C := Try.checked) own started (by kernel_rfl) Try.func7
    (ChangeSpec.witness6 (enc := enc) (C := Try.checked) false ⟨#[], #[.agg #[.int .i64 0, .int .i64 0], .agg #[.int .i64 0, .int .i64 0]], []⟩ 8 (by kernel_rfl) (by kernel_rfl) (by kernel_rfl) (by kernel_rfl)) ?_
  intro W base args ds gs before hval0 hW hcnd _
  have hval : ∀ (j : Nat) t v, Try.f7.params[j]? = some t → args[j]? = some v → Value.okWide Try.prog W .any base t v := hval0
  have hW' := hW
  obtain ⟨p, q, hA0, hV, rfl, hfz, hnd⟩ := hW
  have hA : DataW.TrodAll enc Try.prog W 0 (fun _ => true) true Try.f7.params.toList args.toList ds p := hA0
  rw [Try.params7] at hA hval
  obtain ⟨v0, vs0, d0, ds0, p0, q0, hargs, rfl, rfl, h0, r0⟩ := trodAll_cons hA
  obtain ⟨v1, vs1, d1, ds1, p1, q1, rfl, rfl, rfl, h1, r1⟩ := trodAll_cons r0
  obtain ⟨rfl, rfl, rfl⟩ := trodAll_nil r1
  obtain rfl : args = #[v0, v1] := by cases args; simp_all
  obtain ⟨rfl, rfl⟩ := trodVars_none hV
  obtain ⟨cs0, rfl, hsz0⟩ := okWide_struct Try.underlying23 (hval 0 23 v0 rfl rfl)
  have k0 := h0
  have lt0 : ∀ x ∈ p0, x.block < W.heap.size := by obtain ⟨m, hm⟩ := k0; exact DataW.trod_lt m _ _ _ hm
  have w0 : RC Try.prog W 23 cs0.toList := by
    obtain ⟨fuel, hf⟩ := h0
    exact ⟨_, _, _, _, _, fuel, _, by simpa [Value.cells] using hf⟩
  obtain ⟨cs1, rfl, hsz1⟩ := okWide_struct Try.underlying23 (hval 1 23 v1 rfl rfl)
  have k1 := h1
  have lt1 : ∀ x ∈ p1, x.block < W.heap.size := by obtain ⟨m, hm⟩ := k1; exact DataW.trod_lt m _ _ _ hm
  have w1 : RC Try.prog W 23 cs1.toList := by
    obtain ⟨fuel, hf⟩ := h1
    exact ⟨_, _, _, _, _, fuel, _, by simpa [Value.cells] using hf⟩
  clear hA0 hval0
  refine (walk cs0 cs1 W w0 w1).mono fun e W' ⟨he, bel⟩ => ?_
  subst he
  exact ⟨_, rfl, _, _, _, [], _, [], hW', trodAll_mk1 (shut_bool Try.underlying4 _), (trodAll_cons_mk (Below.trod laidOut (by kernel_rfl) (of_decide_eq_true (by kernel_rfl)) k0 bel lt0) (trodAll_cons_mk (Below.trod laidOut (by kernel_rfl) (of_decide_eq_true (by kernel_rfl)) k1 bel lt1) trodAll_mk0)), rfl, bel.frame _, fun h => by cases h⟩

theorem over : Rows.wideComparesRow.holds Try.pinned (OpenSpec.ofChange Rows.wideComparesSpec) :=
  OpenClaim.holds_of_wide 7 Try.f7 rfl rfl rfl rfl rfl rfl rfl ⟨rfl, rfl, rfl, rfl, rfl⟩ rfl rfl rfl rfl rfl (by kernel_rfl) Try.func7 (by kernel_rfl)
    (of_decide_eq_true (by kernel_rfl)) (by unfold Func.isWrapper; first | (rw [if_pos (by decide +kernel)]; kernel_rfl) | (rw [if_neg (by decide +kernel)]; exact ⟨rfl, rfl⟩))
    (fun os started H enc _ => lifted os started H enc)

theorem proved : Rows.WideComparesSaid := over
end Go.Proofs.Ytdajjphgehbacaa.wideCompares
