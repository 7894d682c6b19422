/-
  Proved: for all bytes (the first 1000) with their sum behind them, wherever some of 32 bits side by side are turned, crc.Whole says no; where none is turned it says yes; nothing that was handed in changes. No condition.
-/
import Derived.Test.YtkgednapdnjhbaaRows
import Derived.Test.YtkgednapdnjhbaaCrcE
import Derived.WalkKit
import Derived.ProofKit
import Derived.OpenShut
import Derived.ShutString
import Derived.ChangeOld
import Derived.Below
namespace Go.Proofs.Ytkgednapdnjhbaa.crcBursts
open Go.ChangeShapes Go.WideShapes Go.ChangeAt Go.RowKit
open Go.ChangeMaps (open_string shut_string)
set_option linter.unusedVariables false

theorem own : ownKnob Try.prog.godebug = none := by kernel_rfl
theorem laidOut : laidOutB Try.prog = true := by kernel_rfl

def IsRow (k : IntKind) (w : World) (a : Option Addr) (len cap : Nat) (zs : List Int) : Prop :=
  (a = none ∧ len = 0 ∧ cap = 0 ∧ zs = []) ∨
  ∃ x, a = some x ∧ len ≤ cap ∧ cap ≤ maxLen ∧ zs.length = cap ∧ (∀ i, i < zs.length → w.cell? (x.add i) = some (.int k (zs.getD i 0))) ∧ ∀ n ∈ zs, (Lit.int k n).wf = true

set_option maxRecDepth 100000 in
set_option maxHeartbeats 2000000 in
theorem walk (a0 : Option Addr) (len0 cap0 : Nat) (z0 : List Int) (a1 : Int) (a2 : Int) (w : World) (w0 : IsRow .u8 w a0 len0 cap0 z0) (w1 : (Lit.int .i64 a1).wf = true) (w2 : (Lit.int .u32 a2).wf = true) :
    Calls Try.prog 6 #[.slice a0 len0 cap0, .int .i64 a1, .int .u32 a2] w fun e w' => e = .returned (.bool true) ∧ Below w.heap.size w w' := by
  obtain ⟨l0, hr0⟩ := HasB.of_row w0
  obtain ⟨f0, f1⟩ := i64_of_wf w1
  obtain ⟨t0, t1⟩ := u32_of_wf w2
  go_enter Try.func6, Try.ntmps6
  go_wp2_with fail
  refine (few_any _ _ _ l0 _ _ hr0 1000 (by omega)).mono ?_
  rintro e w' ⟨⟨n, rfl, hr, hn1, hn2⟩, rfl⟩
  clear hr0
  generalize l0.take (Int.toNat 1000) = l at hr
  have hn : n ≤ 1000 := hn2
  have hll := Lib.hid hr.len
  clear hn2 hn1
  go_wp2_with fail
  refine (with_any _ _ _ _ _ _ (Nat.le_refl _) hr (by omega)).mono ?_
  rintro e w1' ⟨⟨v, rfl, ho⟩, hb1⟩
  have hwl : (l ++ le4 (more 0 l)).length = n + 4 := by rw [List.length_append, hll.out, le4_length]
  obtain ⟨A, m, c, rfl, hv, -⟩ := ho.formN
  have hml := hv.len
  rw [hwl] at hml
  subst hml
  have hww := Lib.hid (whole_with l)
  have Hwl := Lib.hid hwl
  generalize l ++ le4 (more 0 l) = x at *
  have hz1 := hb1.size
  clear hr ho hwl
  have key (F : Int) (hF0 : 0 ≤ F) (hF1 : F < 8 * ((n + 4 : Nat) : Int)) : Hid (wholeB (turnT x F.toNat a2.toNat 32) = !someT (n + 4) F.toNat a2.toNat 32) := Lib.hid (by
    rw [← Hwl.out]
    exact turn_whole x F.toNat a2.toNat hww.out (by have := Hwl.out; omega))
  have fin : ∀ (F : Int), 0 ≤ F → F < 8 * ((n : Int) + 4) → ∀ w2 : World, HasB w2 w2.heap.size A (n + 4) c x → Below w.heap.size w w2 → Calls Try.prog 18 #[.slice A (n + 4) c, .int .i64 F, .int .u32 a2] w2 fun e w' => ∃ B m d y s, e = .returned (.tuple #[.slice B m d, .bool s]) ∧ HasB w' w'.heap.size B m d y ∧ HasB w' w'.heap.size A (n + 4) c x ∧ Below w.heap.size w w' ∧ Hid (wholeB y = !s) := by
    intro F h0 h1 w2 hh hb
    refine (turned_int _ _ _ _ _ _ hh (by omega) F a2 h0 (by omega) t0 t1).mono ?_
    rintro e w3 ⟨⟨v, rfl, ho⟩, hb3⟩
    obtain ⟨B, m, d, rfl, hy, -⟩ := ho.formN
    exact ⟨B, m, d, _, _, rfl, hy, (hh.below hb3 (Nat.le_refl _)).more hb3.size, hb.trans (hb3.mono hb.size), key F h0 (by omega)⟩
  clear t0 t1
  by_cases hneg : a1 < 0
  all_goals
    go_wp2_with fail
  · have hN : (0 : Int) < 8 * ((n : Int) + 4) := by omega
    have hF : (-(a1 + 1).tmod (8 * ((n : Int) + 4))) = (-(a1 + 1)) % (8 * ((n : Int) + 4)) := by
      rw [← Int.neg_tmod, Int.tmod_eq_emod_of_nonneg (by omega)]
    refine (fin _ (by rw [hF]; exact Int.emod_nonneg _ (by omega)) (by rw [hF]; exact Int.emod_lt_of_pos _ hN) _ hv hb1).mono ?_
    clear fin key hF hN hneg f0 f1
    rintro e w3 ⟨B, m, d, y, s, rfl, hy, hx, hb3, hs⟩
    have hz3 := hb3.size
    go_wp2_with fail
    refine (whole_any _ _ _ _ _ hx).mono ?_
    rw [hww.out]
    rintro e w4 ⟨rfl, hb4⟩
    have hy4 := hy.below hb4 (Nat.le_refl _)
    have hb34 := hb3.trans (hb4.mono hz3)
    have hy5 := hy4.more hb4.size
    clear hy hy4 hx hb3 hb4
    go_wp2_with fail
    refine (whole_any _ _ _ _ _ hy5).mono ?_
    rw [hs.out]
    rintro e w5 ⟨rfl, hb5⟩
    have hb35 := hb34.trans (hb5.mono hb34.size)
    clear hb34 hb5 hy5
    have hss : ((!s) == (!s)) = true := by simp
    go_wp2_with fail
    refine (lives_any _).mono ?_
    rintro e w' ⟨rfl, hl⟩
    go_wp2_with fail
    go_ret
    exact ⟨rfl, hb35.trans (hl.mono hb35.size)⟩
  · refine (fin _ (Int.emod_nonneg _ (by omega)) (Int.emod_lt_of_pos _ (by omega)) _ hv hb1).mono ?_
    clear fin key hneg f0 f1
    rintro e w3 ⟨B, m, d, y, s, rfl, hy, hx, hb3, hs⟩
    have hz3 := hb3.size
    go_wp2_with fail
    refine (whole_any _ _ _ _ _ hx).mono ?_
    rw [hww.out]
    rintro e w4 ⟨rfl, hb4⟩
    have hy4 := hy.below hb4 (Nat.le_refl _)
    have hb34 := hb3.trans (hb4.mono hz3)
    have hy5 := hy4.more hb4.size
    clear hy hy4 hx hb3 hb4
    go_wp2_with fail
    refine (whole_any _ _ _ _ _ hy5).mono ?_
    rw [hs.out]
    rintro e w5 ⟨rfl, hb5⟩
    have hb35 := hb34.trans (hb5.mono hb34.size)
    clear hb34 hb5 hy5
    have hss : ((!s) == (!s)) = true := by simp
    go_wp2_with fail
    refine (lives_any _).mono ?_
    rintro e w' ⟨rfl, hl⟩
    go_wp2_with fail
    go_ret
    exact ⟨rfl, hb35.trans (hl.mono hb35.size)⟩

set_option maxRecDepth 100000 in
theorem lifted (os : Os) (started : os.Started) (H : Type) (enc : TypeId × Value → H) :
    ReturnsInHanded {} Try.checked os 6 .any (Rows.crcBurstsSpec.pre6 enc Try.prog Try.f6 Rows.crcBurstsRow.domain false) (Rows.crcBurstsSpec.post enc Try.prog Try.f6 false true false false) := by
  refine returnsInHanded_of_change (C := Try.checked) own started (by kernel_rfl) Try.func6
    (ChangeSpec.witness6 (enc := enc) (C := Try.checked) false ⟨#[], #[.slice none 0 0, .int .i64 0, .int .u32 0], []⟩ 8 (by kernel_rfl) (by kernel_rfl) (by kernel_rfl) (by kernel_rfl)) ?_
  intro W base args ds gs before hval0 hW hcnd _
  have hval : ∀ (j : Nat) t v, Try.f6.params[j]? = some t → args[j]? = some v → Value.okWide Try.prog W .any base t v := hval0
  have hW' := hW
  obtain ⟨p, q, hA0, hV, rfl, hfz, hnd⟩ := hW
  have hA : DataW.TrodAll enc Try.prog W 0 (fun _ => true) true Try.f6.params.toList args.toList ds p := hA0
  rw [Try.params6] at hA hval
  obtain ⟨v0, vs0, d0, ds0, p0, q0, hargs, rfl, rfl, h0, r0⟩ := trodAll_cons hA
  obtain ⟨v1, vs1, d1, ds1, p1, q1, rfl, rfl, rfl, h1, r1⟩ := trodAll_cons r0
  obtain ⟨v2, vs2, d2, ds2, p2, q2, rfl, rfl, rfl, h2, r2⟩ := trodAll_cons r1
  obtain ⟨rfl, rfl, rfl⟩ := trodAll_nil r2
  obtain rfl : args = #[v0, v1, v2] := by cases args; simp_all
  obtain ⟨rfl, rfl⟩ := trodVars_none hV
  obtain ⟨a0, len0, cap0, rfl⟩ := okWide_slice Try.underlying23 (hval 0 23 v0 rfl rfl)
  have k0 := h0
  have lt0 : ∀ x ∈ p0, x.block < W.heap.size := by obtain ⟨m, hm⟩ := k0; exact DataW.trod_lt m _ _ _ hm
  obtain ⟨z0, w0⟩ : ∃ zs, IsRow .u8 W a0 len0 cap0 zs := by
    obtain ⟨fuel, hf⟩ := h0
    rcases open_ints Try.underlying23 Try.underlying5 (by kernel_rfl) hf with ⟨hcs, _⟩ | ⟨x, l, c, zs, hcs, _, hl, hm, hz, _, hcell, hwz⟩
    · simp [Value.cells] at hcs
      obtain ⟨rfl, rfl, rfl⟩ := hcs
      exact ⟨[], .inl ⟨rfl, rfl, rfl, rfl⟩⟩
    · simp [Value.cells] at hcs
      obtain ⟨rfl, rfl, rfl⟩ := hcs
      exact ⟨zs, .inr ⟨_, rfl, hl, hm, by simpa using hz, hcell, hwz⟩⟩
  obtain ⟨a1, rfl, rfl, rfl, w1⟩ := open_int Try.underlying3 (hval 1 3 v1 rfl rfl) h1
  obtain ⟨a2, rfl, rfl, rfl, w2⟩ := open_int Try.underlying22 (hval 2 22 v2 rfl rfl) h2
  clear hA0 hval0
  refine (walk a0 len0 cap0 z0 a1 a2 W w0 w1 w2).mono fun e W' ⟨he, bel⟩ => ?_
  subst he
  exact ⟨_, rfl, _, _, _, [], _, [], hW', trodAll_mk1 (shut_bool Try.underlying4 _), (trodAll_cons_mk (Below.trod laidOut (by kernel_rfl) (of_decide_eq_true (by kernel_rfl)) k0 bel lt0) (trodAll_cons_mk (shut_int Try.underlying3 w1) (trodAll_cons_mk (shut_int Try.underlying22 w2) trodAll_mk0))), rfl, bel.frame _, fun h => by cases h⟩

theorem over : Rows.crcBurstsRow.holds Try.pinned (OpenSpec.ofChange Rows.crcBurstsSpec) :=
  OpenClaim.holds_of_wide 6 Try.f6 rfl rfl rfl rfl rfl rfl rfl ⟨rfl, rfl, rfl, rfl, rfl⟩ rfl rfl rfl rfl rfl (by kernel_rfl) Try.func6 (by kernel_rfl)
    (of_decide_eq_true (by kernel_rfl)) (by unfold Func.isWrapper; first | (rw [if_pos (by decide +kernel)]; kernel_rfl) | (rw [if_neg (by decide +kernel)]; exact ⟨rfl, rfl⟩))
    (fun os started H enc _ => lifted os started H enc)

theorem proved : Rows.CrcBurstsSaid := over
end Go.Proofs.Ytkgednapdnjhbaa.crcBursts
