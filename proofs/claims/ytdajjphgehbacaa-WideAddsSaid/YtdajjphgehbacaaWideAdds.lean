/-
  Proved: of any two wide numbers, wide.Add answers just the document's sum, or api.ErrRange where it may not be, or api.ErrArg where one of them may not be, the same in both orders, held against the document's rows of bits; the document's examples hold, and nothing that was handed in changes. No condition.
-/
import Derived.Test.YtdajjphgehbacaaRows
import Derived.Test.YtdajjphgehbacaaWideArg
import Derived.Deep.RegionHeld3
import Derived.WalkKit
import Derived.ProofKit
import Derived.OpenShut
import Derived.ShutString
import Derived.ChangeOld
import Derived.Below
namespace Go.Proofs.Ytdajjphgehbacaa.wideAdds
open Go.ChangeShapes Go.WideShapes Go.ChangeAt Go.RowKit
open Go.ChangeMaps (open_string shut_string)
set_option linter.unusedVariables false

theorem own : ownKnob Try.prog.godebug = none := by kernel_rfl
theorem laidOut : laidOutB Try.prog = true := by kernel_rfl

def IsRow (k : IntKind) (w : World) (a : Option Addr) (len cap : Nat) (zs : List Int) : Prop :=
  (a = none ∧ len = 0 ∧ cap = 0 ∧ zs = []) ∨
  ∃ x, a = some x ∧ len ≤ cap ∧ cap ≤ maxLen ∧ zs.length = cap ∧ (∀ i, i < zs.length → w.cell? (x.add i) = some (.int k (zs.getD i 0))) ∧ ∀ n ∈ zs, (Lit.int k n).wf = true

set_option maxRecDepth 100000 in
set_option maxHeartbeats 2000000 in
theorem walk (cs0 : Array Value) (cs1 : Array Value) (w : World) (w0 : RC Try.prog w 23 cs0.toList) (w1 : RC Try.prog w 23 cs1.toList) :
    Calls Try.prog 5 #[.agg cs0, .agg cs1] w fun e w' => e = .returned (.bool true) ∧ Below w.heap.size w w' := by
  obtain ⟨ah, al, rfl, a1, a2, a3, a4⟩ := wide_of w0
  obtain ⟨bh, bl, rfl, b1, b2, b3, b4⟩ := wide_of w1
  clear w0 w1
  by_cases hmm : wMay ah al ∧ wMay bh bl
  · obtain ⟨hma, hmb⟩ := hmm
    have hfa := wMay_in hma
    have hfb := wMay_in hmb
    obtain ⟨z, hz⟩ : ∃ z, z = wNum ah al + wNum bh bl := ⟨_, rfl⟩
    have hfar : wFar z := by unfold wIn at hfa hfb; unfold wFar; omega
    obtain ⟨H, L, x, hs⟩ : ∃ H L x : Int, (wIn z ∧ H = z / 4294967296 ∧ L = z % 4294967296 ∧ x = 0) ∨ (¬ wIn z ∧ H = 0 ∧ L = 0 ∧ x = 14) := by
      by_cases h : wIn z
      · exact ⟨_, _, _, .inl ⟨h, rfl, rfl, rfl⟩⟩
      · exact ⟨_, _, _, .inr ⟨h, rfl, rfl, rfl⟩⟩
    have e1 : ah + bh + (al + bl) / 4294967296 = z / 4294967296 := by unfold wNum at hz; omega
    have e2 : (al + bl) % 4294967296 = z % 4294967296 := by unfold wNum at hz; omega
    have e3 : bh + ah + (bl + al) / 4294967296 = z / 4294967296 := by omega
    have e4 : (bl + al) % 4294967296 = z % 4294967296 := by omega
    have hmz : wMay (z / 4294967296) (z % 4294967296) ↔ wIn z := wIn_may z
    have HA1 : Hid (∀ W, Calls Try.prog 18 #[.agg #[.int .i64 ah, .int .i64 al], .agg #[.int .i64 bh, .int .i64 bl]] W fun e w' => e = .returned (.tuple #[.agg #[.int .i64 H, .int .i64 L], .int .i64 x]) ∧ Below W.heap.size W w') :=
      Lib.hid fun W => add_sum ah al bh bl W hma hmb H L x (by rw [e1, e2, hmz]; exact hs)
    have HA2 : Hid (∀ W, Calls Try.prog 18 #[.agg #[.int .i64 bh, .int .i64 bl], .agg #[.int .i64 ah, .int .i64 al]] W fun e w' => e = .returned (.tuple #[.agg #[.int .i64 H, .int .i64 L], .int .i64 x]) ∧ Below W.heap.size W w') :=
      Lib.hid fun W => add_sum bh bl ah al W hmb hma H L x (by rw [e3, e4, hmz]; exact hs)
    have HS := Lib.hid hs
    have HZ := Lib.hid hz
    have HF := Lib.hid hfar
    have HMA := Lib.hid hma
    have HMB := Lib.hid hmb
    have a5 := hma.1
    have a6 := hma.2.1
    have b5 := hmb.1
    have b6 := hmb.2.1
    clear hma hmb hfa hfb e1 e2 e3 e4 hmz hs hz hfar
    go_enter Try.func5, Try.ntmps5
    go_wp2_with fail
    refine (HA1.out _).mono ?_
    rintro e v1 ⟨rfl, hb1⟩
    have hba := Block.below (Block.alloc (Block.new w 23 #[.int .i64 ah, .int .i64 al]) (.cells #[.int .i64 bh, .int .i64 bl] 23)) hb1 (by simp; omega)
    have hbb := Block.below (Block.new (w.alloc (.cells #[.int .i64 ah, .int .i64 al] 23)) 23 #[.int .i64 bh, .int .i64 bl]) hb1 (by simp)
    have hbe := below_then (below_a2 w (.cells #[.int .i64 ah, .int .i64 al] 23) (.cells #[.int .i64 bh, .int .i64 bl] 23)) hb1
    rw [show (w.alloc (.cells #[.int .i64 ah, .int .i64 al] 23)).heap.size = w.heap.size + 1 from by simp] at hbb
    clear hb1
    have hba2 := hba.alloc (.cells #[.int .i64 H, .int .i64 L] 23)
    have hbb2 := hbb.alloc (.cells #[.int .i64 H, .int .i64 L] 23)
    have hbs2 := Block.new v1 23 #[.int .i64 H, .int .i64 L]
    have hbe2 := below_then hbe (below_a1 v1 (.cells #[.int .i64 H, .int .i64 L] 23))
    have hq0 : (v1.alloc (.cells #[.int .i64 H, .int .i64 L] 23)).cell? ⟨w.heap.size, 0, none⟩ = some (.int .i64 ah) := hba2.cell 0
    have hq1 : (v1.alloc (.cells #[.int .i64 H, .int .i64 L] 23)).cell? ⟨w.heap.size, 1, none⟩ = some (.int .i64 al) := hba2.cell 1
    clear hba hbb hbe
    go_wp2_with fail
    refine (refMay_any _ _ _).mono ?_
    rintro e v2 ⟨rfl, hv2⟩
    rw [decide_eq_true HMA.out]
    rw [hv2] at hba2 hbb2 hbs2 hbe2
    clear hv2 hq0 hq1
    have hc0 : v2.cell? ⟨w.heap.size, 0, none⟩ = some (.int .i64 ah) := hba2.cell 0
    have hc1 : v2.cell? ⟨w.heap.size, 1, none⟩ = some (.int .i64 al) := hba2.cell 1
    have hc2 : v2.cell? ⟨w.heap.size + 1, 0, none⟩ = some (.int .i64 bh) := hbb2.cell 0
    have hc3 : v2.cell? ⟨w.heap.size + 1, 1, none⟩ = some (.int .i64 bl) := hbb2.cell 1
    go_wp2_with fail
    refine (refMay_any _ _ _).mono ?_
    rintro e v3 ⟨rfl, rfl⟩
    rw [decide_eq_true HMB.out]
    go_wp2_with fail
    refine (HA2.out _).mono ?_
    rintro e v4 ⟨rfl, hb4⟩
    have hba4 := hba2.below hb4 hba2.lt
    have hbb4 := hbb2.below hb4 hbb2.lt
    have hbs4 := hbs2.below hb4 hbs2.lt
    have hbe4 := below_then hbe2 hb4
    clear hc0 hc1 hc2 hc3 hb4 hba2 hbb2 hbs2 hbe2
    go_wp2_with fail
    have hba5 := hba4.alloc (.cells #[.int .i64 H, .int .i64 L] 23)
    have hbb5 := hbb4.alloc (.cells #[.int .i64 H, .int .i64 L] 23)
    have hbs5 := hbs4.alloc (.cells #[.int .i64 H, .int .i64 L] 23)
    have hbt5 := Block.new v4 23 #[.int .i64 H, .int .i64 L]
    have hbe5 := below_then hbe4 (below_a1 v4 (.cells #[.int .i64 H, .int .i64 L] 23))
    generalize v4.alloc (.cells #[.int .i64 H, .int .i64 L] 23) = v5 at hba5 hbb5 hbs5 hbt5 hbe5 ⊢
    clear hba4 hbb4 hbs4 hbe4
    have K : Hid (∀ y, Below v5.heap.size v5 y → y.cell? ⟨w.heap.size, 0, none⟩ = some (.int .i64 ah) ∧ y.cell? ⟨w.heap.size, 1, none⟩ = some (.int .i64 al) ∧ y.cell? ⟨w.heap.size + 1, 0, none⟩ = some (.int .i64 bh) ∧ y.cell? ⟨w.heap.size + 1, 1, none⟩ = some (.int .i64 bl) ∧ y.cell? ⟨v1.heap.size, 0, none⟩ = some (.int .i64 H) ∧ y.cell? ⟨v1.heap.size, 1, none⟩ = some (.int .i64 L)) :=
      Lib.hid fun y hy => ⟨(hba5.below hy hba5.lt).cell 0, (hba5.below hy hba5.lt).cell 1, (hbb5.below hy hbb5.lt).cell 0, (hbb5.below hy hbb5.lt).cell 1, (hbs5.below hy hbs5.lt).cell 0, (hbs5.below hy hbs5.lt).cell 1⟩
    go_region_held3 (fun w' => w'.cell? ⟨w.heap.size, 0, none⟩ = some (.int .i64 ah) ∧ w'.cell? ⟨w.heap.size, 1, none⟩ = some (.int .i64 al) ∧ w'.cell? ⟨w.heap.size + 1, 0, none⟩ = some (.int .i64 bh) ∧ w'.cell? ⟨w.heap.size + 1, 1, none⟩ = some (.int .i64 bl) ∧ w'.cell? ⟨v1.heap.size, 0, none⟩ = some (.int .i64 H) ∧ w'.cell? ⟨v1.heap.size, 1, none⟩ = some (.int .i64 L))
      (first
        | exact K.out _ hd4
        | exact K.out _ hd3
        | exact K.out _ hd2
        | exact K.out _ hd1
        | exact K.out _ (Below.drew (Below.refl _ _)))
      (first
        | (go_at_call 17; have hsecond := hd1; clear hsecond; refine (refWide_any bh bl _ b1 b2 b5 b6).mono ?_; rintro e y2 ⟨⟨u2, rfl, ho2⟩, hb2⟩; obtain ⟨g2, k2, rfl, hrow2, -, -⟩ := bits_shape ho2; have hrow3 := (hrow1.below hb2 (Nat.le_refl _)).more hb2.size; have hd2 := below_then hd1 hb2)
        | (go_at_call 17; refine (refWide_any ah al _ a1 a2 a5 a6).mono ?_; rintro e y1 ⟨⟨u1, rfl, ho1⟩, hb1⟩; obtain ⟨g1, k1, rfl, hrow1, -, -⟩ := bits_shape ho1; have hd1 := below_then (below_drawn (w := v5) 1) hb1)
        | (go_at_call 20; refine (refAdd_any _ _ _ _ _ _ _ hrow3 hrow2).mono ?_; rintro e y3 ⟨⟨u3, rfl, ho3⟩, hb3⟩; obtain ⟨g3, k3, rfl, hrow4, -, -⟩ := bits_shape ho3; have hd3 := below_then hd2 hb3)
        | (go_at_call 19; refine (right_any _ 0 _ z _ (by rw [HZ.out]; exact hrow4) HF.out H L x HS.out).mono ?_; rintro e y4 ⟨rfl, hb4⟩; have hd4 := below_then hd3 hb4))
    obtain ⟨-, -, -, -, hs0, hs1⟩ := K.out _ hd4
    have hbt6 := hbt5.below hd4 hbt5.lt
    have ht0 : y4.cell? ⟨v4.heap.size, 0, none⟩ = some (.int .i64 H) := hbt6.cell 0
    have ht1 : y4.cell? ⟨v4.heap.size, 1, none⟩ = some (.int .i64 L) := hbt6.cell 1
    have hbe6 := below_then hbe5 hd4
    clear hd1 hd2 hd3 hd4 hb1 hb2 hb3 hb4 ho1 ho2 ho3 hrow1 hrow2 hrow3 hrow4 hbt6 hbt5 hba5 hbb5 hbs5 K
    go_wp2_with fail
    refine (lives_any _).mono ?_
    rintro e y7 ⟨rfl, hb7⟩
    have hd7 := below_then hbe6 hb7
    go_wp2_with fail
    go_ret
    exact ⟨rfl, hd7⟩
  · obtain ⟨HA1, hmm'⟩ : Hid (∀ W, Calls Try.prog 18 #[.agg #[.int .i64 ah, .int .i64 al], .agg #[.int .i64 bh, .int .i64 bl]] W fun e w' => e = .returned (.tuple #[.agg #[.int .i64 0, .int .i64 0], .int .i64 1]) ∧ Below W.heap.size W w') ∧ ((decide (wMay ah al) = false ∧ True) ∨ (decide (wMay ah al) = true ∧ decide (wMay bh bl) = false)) := by
      by_cases h : wMay ah al
      · exact ⟨Lib.hid fun W => add_second ah al bh bl W h (fun h' => hmm ⟨h, h'⟩), .inr ⟨decide_eq_true h, decide_eq_false fun h' => hmm ⟨h, h'⟩⟩⟩
      · exact ⟨Lib.hid fun W => add_first ah al bh bl W h, .inl ⟨decide_eq_false h, trivial⟩⟩
    clear hmm
    obtain ⟨o1, ho1⟩ : ∃ o1, Hid (decide (wMay ah al) = o1) := ⟨_, Lib.hid rfl⟩
    obtain ⟨o2, ho2⟩ : ∃ o2, Hid (decide (wMay bh bl) = o2) := ⟨_, Lib.hid rfl⟩
    rw [ho1.out, ho2.out] at hmm'
    rcases hmm' with ⟨rfl, -⟩ | ⟨rfl, rfl⟩
    all_goals
      go_enter Try.func5, Try.ntmps5
      go_wp2_with fail
      refine (HA1.out _).mono ?_
      rintro e v1 ⟨rfl, hb1⟩
      have hba := Block.below (Block.alloc (Block.new w 23 #[.int .i64 ah, .int .i64 al]) (.cells #[.int .i64 bh, .int .i64 bl] 23)) hb1 (by simp; omega)
      have hbb := Block.below (Block.new (w.alloc (.cells #[.int .i64 ah, .int .i64 al] 23)) 23 #[.int .i64 bh, .int .i64 bl]) hb1 (by simp)
      have hbe := below_then (below_a2 w (.cells #[.int .i64 ah, .int .i64 al] 23) (.cells #[.int .i64 bh, .int .i64 bl] 23)) hb1
      rw [show (w.alloc (.cells #[.int .i64 ah, .int .i64 al] 23)).heap.size = w.heap.size + 1 from by simp] at hbb
      clear hb1
      have hba2 := hba.alloc (.cells #[.int .i64 0, .int .i64 0] 23)
      have hbb2 := hbb.alloc (.cells #[.int .i64 0, .int .i64 0] 23)
      have hc0 : (v1.alloc (.cells #[.int .i64 0, .int .i64 0] 23)).cell? ⟨w.heap.size, 0, none⟩ = some (.int .i64 ah) := hba2.cell 0
      have hc1 : (v1.alloc (.cells #[.int .i64 0, .int .i64 0] 23)).cell? ⟨w.heap.size, 1, none⟩ = some (.int .i64 al) := hba2.cell 1
      have hc2 : (v1.alloc (.cells #[.int .i64 0, .int .i64 0] 23)).cell? ⟨w.heap.size + 1, 0, none⟩ = some (.int .i64 bh) := hbb2.cell 0
      have hc3 : (v1.alloc (.cells #[.int .i64 0, .int .i64 0] 23)).cell? ⟨w.heap.size + 1, 1, none⟩ = some (.int .i64 bl) := hbb2.cell 1
      go_wp2_with fail
      refine (refMay_any _ _ _).mono ?_
      rintro e v2 ⟨rfl, rfl⟩
      rw [ho1.out]
      go_wp2_with fail
      refine (refMay_any _ _ _).mono ?_
      rintro e v3 ⟨rfl, rfl⟩
      rw [ho2.out]
      clear hc0 hc1 hc2 hc3
      go_wp2_with fail
      refine (lives_any _).mono ?_
      rintro e y7 ⟨rfl, hb7⟩
      have hd7 := below_then (below_then hbe (below_a1 _ _)) hb7
      go_wp2_with fail
      go_ret
      exact ⟨rfl, hd7⟩

set_option maxRecDepth 100000 in
theorem lifted (os : Os) (started : os.Started) (H : Type) (enc : TypeId × Value → H) :
    ReturnsInHanded {} Try.checked os 5 .any (Rows.wideAddsSpec.pre6 enc Try.prog Try.f5 Rows.wideAddsRow.domain false) (Rows.wideAddsSpec.post enc Try.prog Try.f5 false true false false) := by
  refine returnsInHanded_of_change (C := Try.checked) own started (by kernel_rfl) Try.func5
    (ChangeSpec.witness6 (enc := enc) (C := Try.checked) false ⟨#[], #[.agg #[.int .i64 0, .int .i64 0], .agg #[.int .i64 0, .int .i64 0]], []⟩ 8 (by kernel_rfl) (by kernel_rfl) (by kernel_rfl) (by kernel_rfl)) ?_
  intro W base args ds gs before hval0 hW hcnd _
  have hval : ∀ (j : Nat) t v, Try.f5.params[j]? = some t → args[j]? = some v → Value.okWide Try.prog W .any base t v := hval0
  have hW' := hW
  obtain ⟨p, q, hA0, hV, rfl, hfz, hnd⟩ := hW
  have hA : DataW.TrodAll enc Try.prog W 0 (fun _ => true) true Try.f5.params.toList args.toList ds p := hA0
  rw [Try.params5] at hA hval
  obtain ⟨v0, vs0, d0, ds0, p0, q0, hargs, rfl, rfl, h0, r0⟩ := trodAll_cons hA
  obtain ⟨v1, vs1, d1, ds1, p1, q1, rfl, rfl, rfl, h1, r1⟩ := trodAll_cons r0
  obtain ⟨rfl, rfl, rfl⟩ := trodAll_nil r1
  obtain rfl : args = #[v0, v1] := by cases args; simp_all
  obtain ⟨rfl, rfl⟩ := trodVars_none hV
  obtain ⟨cs0, rfl, hsz0⟩ := okWide_struct Try.underlying23 (hval 0 23 v0 rfl rfl)
  have k0 := h0
  have lt0 : ∀ x ∈ p0, x.block < W.heap.size := by obtain ⟨m, hm⟩ := k0; exact DataW.trod_lt m _ _ _ hm
  have w0 : RC Try.prog W 23 cs0.toList := by
    obtain ⟨fuel, hf⟩ := h0
    exact ⟨_, _, _, _, _, fuel, _, by simpa [Value.cells] using hf⟩
  obtain ⟨cs1, rfl, hsz1⟩ := okWide_struct Try.underlying23 (hval 1 23 v1 rfl rfl)
  have k1 := h1
  have lt1 : ∀ x ∈ p1, x.block < W.heap.size := by obtain ⟨m, hm⟩ := k1; exact DataW.trod_lt m _ _ _ hm
  have w1 : RC Try.prog W 23 cs1.toList := by
    obtain ⟨fuel, hf⟩ := h1
    exact ⟨_, _, _, _, _, fuel, _, by simpa [Value.cells] using hf⟩
  clear hA0 hval0
  refine (walk cs0 cs1 W w0 w1).mono fun e W' ⟨he, bel⟩ => ?_
  subst he
  exact ⟨_, rfl, _, _, _, [], _, [], hW', trodAll_mk1 (shut_bool Try.underlying4 _), (trodAll_cons_mk (Below.trod laidOut (by kernel_rfl) (of_decide_eq_true (by kernel_rfl)) k0 bel lt0) (trodAll_cons_mk (Below.trod laidOut (by kernel_rfl) (of_decide_eq_true (by kernel_rfl)) k1 bel lt1) trodAll_mk0)), rfl, bel.frame _, fun h => by cases h⟩

theorem over : Rows.wideAddsRow.holds Try.pinned (OpenSpec.ofChange Rows.wideAddsSpec) :=
  OpenClaim.holds_of_wide 5 Try.f5 rfl rfl rfl rfl rfl rfl rfl ⟨rfl, rfl, rfl, rfl, rfl⟩ rfl rfl rfl rfl rfl (by kernel_rfl) Try.func5 (by kernel_rfl)
    (of_decide_eq_true (by kernel_rfl)) (by unfold Func.isWrapper; first | (rw [if_pos (by decide +kernel)]; kernel_rfl) | (rw [if_neg (by decide +kernel)]; exact ⟨rfl, rfl⟩))
    (fun os started H enc _ => lifted os started H enc)

theorem proved : Rows.WideAddsSaid := over
end Go.Proofs.Ytdajjphgehbacaa.wideAdds
