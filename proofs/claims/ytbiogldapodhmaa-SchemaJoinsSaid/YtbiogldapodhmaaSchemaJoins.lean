/-
  Proved: of any three rows of levels (the first 8 of each), what schema.Join answers covers both, whatever covers both covers it, and of rows that have not the same length it is nothing; the document's examples hold, and nothing that was handed in changes. No condition.
-/
import Derived.Test.YtbiogldapodhmaaRows
import Derived.Test.YtbiogldapodhmaaSchemaE
import Derived.Test.YtbiogldapodhmaaSchemaR
import Derived.Test.YtbiogldapodhmaaSchemaF
import Derived.WalkKit
import Derived.ProofKit
import Derived.OpenShut
import Derived.ShutString
import Derived.ChangeOld
import Derived.Below
namespace Go.Proofs.Ytbiogldapodhmaa.schemaJoins
open Go.ChangeShapes Go.WideShapes Go.ChangeAt Go.RowKit
open Go.ChangeMaps (open_string shut_string)
set_option linter.unusedVariables false

theorem own : ownKnob Try.prog.godebug = none := by kernel_rfl
theorem laidOut : laidOutB Try.prog = true := by kernel_rfl

def IsRow (k : IntKind) (w : World) (a : Option Addr) (len cap : Nat) (zs : List Int) : Prop :=
  (a = none ∧ len = 0 ∧ cap = 0 ∧ zs = []) ∨
  ∃ x, a = some x ∧ len ≤ cap ∧ cap ≤ maxLen ∧ zs.length = cap ∧ (∀ i, i < zs.length → w.cell? (x.add i) = some (.int k (zs.getD i 0))) ∧ ∀ n ∈ zs, (Lit.int k n).wf = true

set_option maxRecDepth 100000 in
set_option maxHeartbeats 2000000 in
theorem walk (a0 : Option Addr) (len0 cap0 : Nat) (z0 : List Int) (a1 : Option Addr) (len1 cap1 : Nat) (z1 : List Int) (a2 : Option Addr) (len2 cap2 : Nat) (z2 : List Int) (w : World) (w0 : IsRow .i64 w a0 len0 cap0 z0) (w1 : IsRow .i64 w a1 len1 cap1 z1) (w2 : IsRow .i64 w a2 len2 cap2 z2) :
    Calls Try.prog 7 #[.slice a0 len0 cap0, .slice a1 len1 cap1, .slice a2 len2 cap2] w fun e w' => e = .returned (.bool true) ∧ Below w.heap.size w w' := by
  obtain ⟨l0, h0, _⟩ := HasI.of_row w0
  obtain ⟨m0, hm0⟩ : ∃ m, Hid (m = min len0 8) := ⟨_, Lib.hid rfl⟩
  have g0 := h0.cut8 hm0
  obtain ⟨t0, ht0⟩ : ∃ t, Hid (l0.take 8 = t) := ⟨_, Lib.hid rfl⟩
  rw [ht0.out] at g0
  have hs0 : m0 ≤ 1000000 := by have := hm0.out; omega
  obtain ⟨l1, h1, _⟩ := HasI.of_row w1
  obtain ⟨m1, hm1⟩ : ∃ m, Hid (m = min len1 8) := ⟨_, Lib.hid rfl⟩
  have g1 := h1.cut8 hm1
  obtain ⟨t1, ht1⟩ : ∃ t, Hid (l1.take 8 = t) := ⟨_, Lib.hid rfl⟩
  rw [ht1.out] at g1
  have hs1 : m1 ≤ 1000000 := by have := hm1.out; omega
  obtain ⟨l2, h2, _⟩ := HasI.of_row w2
  obtain ⟨m2, hm2⟩ : ∃ m, Hid (m = min len2 8) := ⟨_, Lib.hid rfl⟩
  have g2 := h2.cut8 hm2
  obtain ⟨t2, ht2⟩ : ∃ t, Hid (l2.take 8 = t) := ⟨_, Lib.hid rfl⟩
  rw [ht2.out] at g2
  have hs2 : m2 ≤ 1000000 := by have := hm2.out; omega
  clear w0 w1 w2
  go_enter Try.func7, Try.ntmps7
  go_wp2_with fail
  refine (cutL_is h0 hm0).mono ?_
  rintro e v ⟨rfl, rfl⟩
  go_wp2_with fail
  refine (cutL_is h1 hm1).mono ?_
  rintro e v ⟨rfl, rfl⟩
  go_wp2_with fail
  refine (cutL_is h2 hm2).mono ?_
  rintro e v ⟨rfl, rfl⟩
  go_wp2_with fail
  have hl0 := Lib.hid g0.len
  have hl1 := Lib.hid g1.len
  by_cases he : m0 = m1
  · have hE : Hid (t0.length = t1.length) := Lib.hid (by rw [hl0.out, hl1.out]; exact he)
    subst he
    have hne : ((m0 : Int) != (m0 : Int)) = false := by simp
    refine (join_any g0 g1 hs0).mono ?_
    rintro e v1 ⟨⟨x, rfl, hO⟩, hb1⟩
    obtain ⟨Aj1, nj1, cj1, rfl, j1, _⟩ := hO.formN
    clear hO
    have g0 := g0.belowS hb1
    have g1 := g1.belowS hb1
    have g2 := g2.belowS hb1
    have HB := hb1
    clear hb1
    go_wp2_with fail
    have HC := Lib.hid (toB (covers_any j1 g0))
    rw [decide_eq_true (joinP_covers hE.out).1] at HC
    refine (HC.out).mono ?_
    rintro e v2 ⟨rfl, hb2⟩
    have g0 := g0.belowS hb2
    have g1 := g1.belowS hb2
    have g2 := g2.belowS hb2
    have j1 := j1.belowS hb2
    have HB := below_then HB hb2
    clear hb2
    go_wp2_with fail
    clear HC
    have HC := Lib.hid (toB (covers_any j1 g1))
    rw [decide_eq_true (joinP_covers hE.out).2] at HC
    refine (HC.out).mono ?_
    rintro e v3 ⟨rfl, hb3⟩
    have g0 := g0.belowS hb3
    have g1 := g1.belowS hb3
    have g2 := g2.belowS hb3
    have j1 := j1.belowS hb3
    have HB := below_then HB hb3
    clear hb3
    go_wp2_with fail
    clear HC
    obtain ⟨p, hp⟩ : ∃ p, Hid (decide (coversP t2 t0) = p) := ⟨_, Lib.hid rfl⟩
    obtain ⟨r, hr⟩ : ∃ r, Hid (decide (coversP t2 t1) = r) := ⟨_, Lib.hid rfl⟩
    have hJ : Hid (decide (coversP t2 (joinP t0 t1)) = (p && r)) := Lib.hid (by
      rw [← hp.out, ← hr.out, ← Bool.decide_and]
      exact decide_eq_decide.2 (joinP_least hE.out))
    have HP := Lib.hid (toB (covers_any g2 g0))
    rw [hp.out] at HP
    refine (HP.out).mono ?_
    rintro e v4 ⟨rfl, hb4⟩
    have g0 := g0.belowS hb4
    have g1 := g1.belowS hb4
    have g2 := g2.belowS hb4
    have j1 := j1.belowS hb4
    have HB := below_then HB hb4
    clear hb4
    clear HP
    cases p
    · go_wp2_with fail
      have HJ := Lib.hid (toB (covers_any g2 j1))
      rw [hJ.out, Bool.false_and] at HJ
      refine (HJ.out).mono ?_
      rintro e v5 ⟨rfl, hb5⟩
      have g0 := g0.belowS hb5
      have g1 := g1.belowS hb5
      have g2 := g2.belowS hb5
      have j1 := j1.belowS hb5
      have HB := below_then HB hb5
      clear hb5
      go_wp2_with fail
      refine (schemaLives_any _).mono ?_
      rintro e vz ⟨rfl, hbz⟩
      have HF := Lib.hid (below_then HB hbz)
      clear hbz HB
      go_wp2_with fail
      go_ret
      exact ⟨rfl, HF.out⟩
    · go_wp2_with fail
      have HR := Lib.hid (toB (covers_any g2 g1))
      rw [hr.out] at HR
      refine (HR.out).mono ?_
      rintro e v5 ⟨rfl, hb5⟩
      have g0 := g0.belowS hb5
      have g1 := g1.belowS hb5
      have g2 := g2.belowS hb5
      have j1 := j1.belowS hb5
      have HB := below_then HB hb5
      clear hb5
      have HJ := Lib.hid (toB (covers_any g2 j1))
      rw [hJ.out, Bool.true_and] at HJ
      clear HR
      go_wp2_with fail
      refine (HJ.out).mono ?_
      rintro e v6 ⟨rfl, hb6⟩
      have g0 := g0.belowS hb6
      have g1 := g1.belowS hb6
      have g2 := g2.belowS hb6
      have j1 := j1.belowS hb6
      have HB := below_then HB hb6
      clear hb6
      clear HJ hr hJ
      cases r
      all_goals
        go_wp2_with fail
        refine (schemaLives_any _).mono ?_
        rintro e vz ⟨rfl, hbz⟩
        have HF := Lib.hid (below_then HB hbz)
        clear hbz HB
        go_wp2_with fail
        go_ret
        exact ⟨rfl, HF.out⟩
  · have hne : ((m0 : Int) != (m1 : Int)) = true := by simp; omega
    have hj := joinP_ne (v := t0) (w := t1) (by rw [hl0.out, hl1.out]; exact he)
    have HJ := Lib.hid (join_any g0 g1 hs0)
    rw [hj] at HJ
    clear hj
    refine HJ.out.mono ?_
    rintro e v1 ⟨⟨x, rfl, hO⟩, hb1⟩
    obtain ⟨Aj, nj, cj, rfl, j1, _⟩ := hO.formN
    obtain rfl : nj = 0 := j1.len.symm
    clear hO HJ j1
    have g0 := g0.belowS hb1
    have g1 := g1.belowS hb1
    have g2 := g2.belowS hb1
    have HB := hb1
    clear hb1
    go_wp2_with fail
    refine (schemaLives_any _).mono ?_
    rintro e vz ⟨rfl, hbz⟩
    have HF := Lib.hid (below_then HB hbz)
    clear hbz HB
    go_wp2_with fail
    go_ret
    exact ⟨rfl, HF.out⟩

set_option maxRecDepth 100000 in
theorem lifted (os : Os) (started : os.Started) (H : Type) (enc : TypeId × Value → H) :
    ReturnsInHanded {} Try.checked os 7 .any (Rows.schemaJoinsSpec.pre6 enc Try.prog Try.f7 Rows.schemaJoinsRow.domain false) (Rows.schemaJoinsSpec.post enc Try.prog Try.f7 false true false false) := by
  refine returnsInHanded_of_change (C := Try.checked) own started (by kernel_rfl) Try.func7
    (ChangeSpec.witness6 (enc := enc) (C := Try.checked) false ⟨#[], #[.slice none 0 0, .slice none 0 0, .slice none 0 0], []⟩ 8 (by kernel_rfl) (by kernel_rfl) (by kernel_rfl) (by kernel_rfl)) ?_
  intro W base args ds gs before hval0 hW hcnd _
  have hval : ∀ (j : Nat) t v, Try.f7.params[j]? = some t → args[j]? = some v → Value.okWide Try.prog W .any base t v := hval0
  have hW' := hW
  obtain ⟨p, q, hA0, hV, rfl, hfz, hnd⟩ := hW
  have hA : DataW.TrodAll enc Try.prog W 0 (fun _ => true) true Try.f7.params.toList args.toList ds p := hA0
  rw [Try.params7] at hA hval
  obtain ⟨v0, vs0, d0, ds0, p0, q0, hargs, rfl, rfl, h0, r0⟩ := trodAll_cons hA
  obtain ⟨v1, vs1, d1, ds1, p1, q1, rfl, rfl, rfl, h1, r1⟩ := trodAll_cons r0
  obtain ⟨v2, vs2, d2, ds2, p2, q2, rfl, rfl, rfl, h2, r2⟩ := trodAll_cons r1
  obtain ⟨rfl, rfl, rfl⟩ := trodAll_nil r2
  obtain rfl : args = #[v0, v1, v2] := by cases args; simp_all
  obtain ⟨rfl, rfl⟩ := trodVars_none hV
  obtain ⟨a0, len0, cap0, rfl⟩ := okWide_slice Try.underlying30 (hval 0 30 v0 rfl rfl)
  have k0 := h0
  have lt0 : ∀ x ∈ p0, x.block < W.heap.size := by obtain ⟨m, hm⟩ := k0; exact DataW.trod_lt m _ _ _ hm
  obtain ⟨z0, w0⟩ : ∃ zs, IsRow .i64 W a0 len0 cap0 zs := by
    obtain ⟨fuel, hf⟩ := h0
    rcases open_ints Try.underlying30 Try.underlying3 (by kernel_rfl) hf with ⟨hcs, _⟩ | ⟨x, l, c, zs, hcs, _, hl, hm, hz, _, hcell, hwz⟩
    · simp [Value.cells] at hcs
      obtain ⟨rfl, rfl, rfl⟩ := hcs
      exact ⟨[], .inl ⟨rfl, rfl, rfl, rfl⟩⟩
    · simp [Value.cells] at hcs
      obtain ⟨rfl, rfl, rfl⟩ := hcs
      exact ⟨zs, .inr ⟨_, rfl, hl, hm, by simpa using hz, hcell, hwz⟩⟩
  obtain ⟨a1, len1, cap1, rfl⟩ := okWide_slice Try.underlying30 (hval 1 30 v1 rfl rfl)
  have k1 := h1
  have lt1 : ∀ x ∈ p1, x.block < W.heap.size := by obtain ⟨m, hm⟩ := k1; exact DataW.trod_lt m _ _ _ hm
  obtain ⟨z1, w1⟩ : ∃ zs, IsRow .i64 W a1 len1 cap1 zs := by
    obtain ⟨fuel, hf⟩ := h1
    rcases open_ints Try.underlying30 Try.underlying3 (by kernel_rfl) hf with ⟨hcs, _⟩ | ⟨x, l, c, zs, hcs, _, hl, hm, hz, _, hcell, hwz⟩
    · simp [Value.cells] at hcs
      obtain ⟨rfl, rfl, rfl⟩ := hcs
      exact ⟨[], .inl ⟨rfl, rfl, rfl, rfl⟩⟩
    · simp [Value.cells] at hcs
      obtain ⟨rfl, rfl, rfl⟩ := hcs
      exact ⟨zs, .inr ⟨_, rfl, hl, hm, by simpa using hz, hcell, hwz⟩⟩
  obtain ⟨a2, len2, cap2, rfl⟩ := okWide_slice Try.underlying30 (hval 2 30 v2 rfl rfl)
  have k2 := h2
  have lt2 : ∀ x ∈ p2, x.block < W.heap.size := by obtain ⟨m, hm⟩ := k2; exact DataW.trod_lt m _ _ _ hm
  obtain ⟨z2, w2⟩ : ∃ zs, IsRow .i64 W a2 len2 cap2 zs := by
    obtain ⟨fuel, hf⟩ := h2
    rcases open_ints Try.underlying30 Try.underlying3 (by kernel_rfl) hf with ⟨hcs, _⟩ | ⟨x, l, c, zs, hcs, _, hl, hm, hz, _, hcell, hwz⟩
    · simp [Value.cells] at hcs
      obtain ⟨rfl, rfl, rfl⟩ := hcs
      exact ⟨[], .inl ⟨rfl, rfl, rfl, rfl⟩⟩
    · simp [Value.cells] at hcs
      obtain ⟨rfl, rfl, rfl⟩ := hcs
      exact ⟨zs, .inr ⟨_, rfl, hl, hm, by simpa using hz, hcell, hwz⟩⟩
  clear hA0 hval0
  refine (walk a0 len0 cap0 z0 a1 len1 cap1 z1 a2 len2 cap2 z2 W w0 w1 w2).mono fun e W' ⟨he, bel⟩ => ?_
  subst he
  exact ⟨_, rfl, _, _, _, [], _, [], hW', trodAll_mk1 (shut_bool Try.underlying4 _), (trodAll_cons_mk (Below.trod laidOut (by kernel_rfl) (of_decide_eq_true (by kernel_rfl)) k0 bel lt0) (trodAll_cons_mk (Below.trod laidOut (by kernel_rfl) (of_decide_eq_true (by kernel_rfl)) k1 bel lt1) (trodAll_cons_mk (Below.trod laidOut (by kernel_rfl) (of_decide_eq_true (by kernel_rfl)) k2 bel lt2) trodAll_mk0))), rfl, bel.frame _, fun h => by cases h⟩

theorem over : Rows.schemaJoinsRow.holds Try.pinned (OpenSpec.ofChange Rows.schemaJoinsSpec) :=
  OpenClaim.holds_of_wide 7 Try.f7 rfl rfl rfl rfl rfl rfl rfl ⟨rfl, rfl, rfl, rfl, rfl⟩ rfl rfl rfl rfl rfl (by kernel_rfl) Try.func7 (by kernel_rfl)
    (of_decide_eq_true (by kernel_rfl)) (by unfold Func.isWrapper; first | (rw [if_pos (by decide +kernel)]; kernel_rfl) | (rw [if_neg (by decide +kernel)]; exact ⟨rfl, rfl⟩))
    (fun os started H enc _ => lifted os started H enc)

theorem proved : Rows.SchemaJoinsSaid := over
end Go.Proofs.Ytbiogldapodhmaa.schemaJoins
