/-
  Proved: whatever the widths, measures, cells (the first 60) and ways up (the first five, of at most 45 codes each), a cuboid is rolled up just as the document says, or refused, and is as it was; the document's examples hold, and nothing that was handed in is changed. No condition.
-/
import Derived.Test.YteifhgcjmjihgaaGreatJ35
import Derived.Test.YteifhgcjmjihgaaGreatJ43
import Derived.Test.YteifhgcjmjihgaaGreatJ45
import Derived.Below
import Derived.ChangeOld
import Derived.OpenShut
import Derived.ProofKit
import Derived.ShutString
import Derived.Test.YteifhgcjmjihgaaGreatRows
import Derived.WalkKit
namespace Go.Proofs.YteifhgcjmjihgaaGreat.cuboidRolls
open Go.ChangeShapes Go.WideShapes Go.ChangeAt Go.RowKit
open Go.ChangeMaps (open_string shut_string)
set_option linter.unusedVariables false

theorem own : ownKnob Tryz.prog.godebug = none := by kernel_rfl
theorem laidOut : laidOutB Tryz.prog = true := by kernel_rfl

def IsRow (k : IntKind) (w : World) (a : Option Addr) (len cap : Nat) (zs : List Int) : Prop :=
  (a = none ∧ len = 0 ∧ cap = 0 ∧ zs = []) ∨
  ∃ x, a = some x ∧ len ≤ cap ∧ cap ≤ maxLen ∧ zs.length = cap ∧ (∀ i, i < zs.length → w.cell? (x.add i) = some (.int k (zs.getD i 0))) ∧ ∀ n ∈ zs, (Lit.int k n).wf = true

set_option maxRecDepth 100000 in
set_option maxHeartbeats 2000000 in
theorem walk (a0 : Int) (a1 : Int) (a2 : Option Addr) (len2 cap2 : Nat) (a3 : Option Addr) (len3 cap3 : Nat) (w : World) (w0 : (Lit.int .i64 a0).wf = true) (w1 : (Lit.int .i64 a1).wf = true) (w2 : RC Tryz.prog w 22 [.slice a2 len2 cap2]) (w3 : RC Tryz.prog w 23 [.slice a3 len3 cap3]) :
    Calls Tryz.prog 4 #[.int .i64 a0, .int .i64 a1, .slice a2 len2 cap2, .slice a3 len3 cap3] w fun e w' => e = .returned (.bool true) ∧ Below w.heap.size w w' := by
  obtain ⟨l1, l2⟩ := i64_of_wf w0
  obtain ⟨l3, l4⟩ := i64_of_wf w1
  obtain ⟨D, hD⟩ := deeds_of w2
  obtain ⟨us, hU⟩ := ups_of w3
  clear w0 w1 w2 w3
  go_enter Tryz.func4, Tryz.ntmps4
  go_wp2_with fail

  refine (lawFew_any hU).mono ?_
  rintro e v1 ⟨Au, nu, cu, rfl, hU1, hB1⟩
  have hD1 : Row elUnd 5 v1 (fun k => k < v1.heap.size) a2 len2 cap2 D := hD.mv elUnd_ok (fun k hk hl => ⟨hB1.block k hl, Nat.lt_of_lt_of_le hk hB1.size⟩)
  obtain ⟨V, hV⟩ : ∃ V, Hid (fewU us = V) := ⟨_, Lib.hid rfl⟩
  rw [hV.out] at hU1
  have HB1 := Lib.hid hB1
  clear hB1 hD hU
  go_wp2_with fail

  refine (both_any ⟨l1, l2⟩ ⟨l3, l4⟩ hD1).mono ?_
  rintro e v2 ⟨g, b, r, rfl, hP⟩
  obtain ⟨W, hW⟩ : ∃ W, Hid (wideP a0 = W) := ⟨_, Lib.hid rfl⟩
  obtain ⟨m, hm⟩ : ∃ m, Hid (measP a1 = m) := ⟨_, Lib.hid rfl⟩
  rw [hW.out, hm.out] at hP

  obtain ⟨C, hC⟩ : ∃ C, Hid (addsK W m D (min len2 60) = C) := ⟨_, Lib.hid rfl⟩
  rw [hC.out] at hP
  have HP := Lib.hid hP
  have HU2 := Lib.hid (hU1.belowS hP.bel)
  have hCl := hP.pc.len
  have hroll := cubRoll_any hP.pc HU2.out
  have hn60 : Hid (C.length ≤ 60) := Lib.hid (by rw [← hC.out]; exact Nat.le_trans (addsK_len _ _ _ _) (Nat.min_le_right _ _))
  obtain ⟨R, hR⟩ : ∃ R, Hid (rollK W C V = R) := ⟨_, Lib.hid rfl⟩
  rw [hR.out] at hroll
  have HRo := Lib.hid hroll
  clear hP hU1 hD1 hroll
  go_wp2_with fail
  refine HRo.out.mono ?_
  rintro e v3 ht3
  have hb3 := ht3.below
  have HP3 := Lib.hid (HP.out.belowS hb3)
  have HU3 := Lib.hid (HU2.out.belowS hb3)
  obtain ⟨Ar, nr, cr, hRq⟩ := HP3.out.pr
  have hrr := refRollK_any hRq (by have h1 := hRq.row.len; have h2 := hn60.out; omega) HP3.out.pc.ok HP3.out.pc.w3 HU3.out
  rw [hR.out] at hrr
  have HRr := Lib.hid hrr
  clear hrr HRo
  obtain ⟨_ | Dd, x⟩ := R
  · obtain ⟨rfl, _⟩ := ht3.none_
    have hx : Hid (x = 1 ∨ x = 14) := Lib.hid (rollK_none hR.out)
    have hxx : ((x : Int) != x) = false := by simp
    have hx0 : ((x : Int) == 0) = false := by have := hx.out; simp; omega
    clear ht3 hb3 hRq
    go_wp2_with fail
    refine HRr.out.mono ?_
    rintro e v4 ht4
    obtain ⟨rfl, hb4⟩ := ht4.none_
    have HP4 := Lib.hid (HP3.out.belowS hb4)
    obtain ⟨Ar4, nr4, cr4, hRq4⟩ := HP4.out.pr
    have hlk := Lib.hid (like_any HP4.out.pc hRq4)
    clear ht4 hb4 hRq4 HRr
    go_wp2_with fail
    refine hlk.out.mono ?_
    rintro e v5 ⟨rfl, hb5⟩
    have HB5 := Lib.hid (below_then HB1.out (HP4.out.bel.trans (hb5.mono HP4.out.bel.size)))
    clear hlk hb5
    go_wp2_with fail
    refine (cubLives_any _).mono ?_
    rintro y wz ⟨rfl, hBz⟩
    have HBz := Lib.hid (below_then HB5.out hBz)
    clear hBz
    go_wp2_with fail
    go_ret
    exact ⟨rfl, HBz.out⟩

  · obtain rfl : x = 0 := rollK_some hR.out
    obtain ⟨⟨vd, rfl, g2, b2, rfl, hC2, _, _⟩, _⟩ := ht3.some_
    have HC3 := Lib.hid hC2
    clear ht3 hb3 hRq hC2
    go_wp2_with fail
    refine HRr.out.mono ?_
    rintro e v4 ht4
    obtain ⟨⟨r2, A2, n2, c2, rfl, _, hRq2⟩, hb4⟩ := ht4.some_
    have HP4 := Lib.hid (HP3.out.belowS hb4)
    have hlk2 := Lib.hid (like_any (HC3.out.belowS hb4) hRq2)
    clear ht4 hb4 hRq2 HRr
    go_wp2_with fail
    refine hlk2.out.mono ?_
    rintro e v5 ⟨rfl, hb5⟩
    have HP5 := Lib.hid (HP4.out.belowS hb5)
    obtain ⟨Ar5, nr5, cr5, hRq5⟩ := HP5.out.pr
    have hlk := Lib.hid (like_any HP5.out.pc hRq5)
    clear hlk2 hb5 hRq5
    go_wp2_with fail
    refine hlk.out.mono ?_
    rintro e v6 ⟨rfl, hb6⟩
    have HB6 := Lib.hid (below_then HB1.out (HP5.out.bel.trans (hb6.mono HP5.out.bel.size)))
    clear hlk hb6
    go_wp2_with fail
    refine (cubLives_any _).mono ?_
    rintro y wz ⟨rfl, hBz⟩
    have HBz := Lib.hid (below_then HB6.out hBz)
    clear hBz
    go_wp2_with fail
    go_ret
    exact ⟨rfl, HBz.out⟩

set_option maxRecDepth 100000 in
theorem lifted (os : Os) (started : os.Started) (H : Type) (enc : TypeId × Value → H) :
    ReturnsInHanded {} Tryz.checked os 4 .any (Rows.cuboidRollsSpec.pre6 enc Tryz.prog Tryz.f4 Rows.cuboidRollsRow.domain false) (Rows.cuboidRollsSpec.post enc Tryz.prog Tryz.f4 false true false false) := by
  refine returnsInHanded_of_change (C := Tryz.checked) own started (by kernel_rfl) Tryz.func4
    (ChangeSpec.witness6 (enc := enc) (C := Tryz.checked) false ⟨#[], #[.int .i64 0, .int .i64 0, .slice none 0 0, .slice none 0 0], []⟩ 8 (by kernel_rfl) (by kernel_rfl) (by kernel_rfl) (by kernel_rfl)) ?_
  intro W base args ds gs before hval0 hW hcnd _
  have hval : ∀ (j : Nat) t v, Tryz.f4.params[j]? = some t → args[j]? = some v → Value.okWide Tryz.prog W .any base t v := hval0
  have hW' := hW
  obtain ⟨p, q, hA0, hV, rfl, hfz, hnd⟩ := hW
  have hA : DataW.TrodAll enc Tryz.prog W 0 (fun _ => true) true Tryz.f4.params.toList args.toList ds p := hA0
  rw [Tryz.params4] at hA hval
  obtain ⟨v0, vs0, d0, ds0, p0, q0, hargs, rfl, rfl, h0, r0⟩ := trodAll_cons hA
  obtain ⟨v1, vs1, d1, ds1, p1, q1, rfl, rfl, rfl, h1, r1⟩ := trodAll_cons r0
  obtain ⟨v2, vs2, d2, ds2, p2, q2, rfl, rfl, rfl, h2, r2⟩ := trodAll_cons r1
  obtain ⟨v3, vs3, d3, ds3, p3, q3, rfl, rfl, rfl, h3, r3⟩ := trodAll_cons r2
  obtain ⟨rfl, rfl, rfl⟩ := trodAll_nil r3
  obtain rfl : args = #[v0, v1, v2, v3] := by cases args; simp_all
  obtain ⟨rfl, rfl⟩ := trodVars_none hV
  obtain ⟨a0, rfl, rfl, rfl, w0⟩ := open_int Tryz.underlying3 (hval 0 3 v0 rfl rfl) h0
  obtain ⟨a1, rfl, rfl, rfl, w1⟩ := open_int Tryz.underlying3 (hval 1 3 v1 rfl rfl) h1
  obtain ⟨a2, len2, cap2, rfl⟩ := okWide_slice Tryz.underlying22 (hval 2 22 v2 rfl rfl)
  have k2 := h2
  have lt2 : ∀ x ∈ p2, x.block < W.heap.size := by obtain ⟨m, hm⟩ := k2; exact DataW.trod_lt m _ _ _ hm
  have w2 : RC Tryz.prog W 22 [.slice a2 len2 cap2] := by
    obtain ⟨fuel, hf⟩ := h2
    exact ⟨_, _, _, _, _, fuel, _, hf⟩
  obtain ⟨a3, len3, cap3, rfl⟩ := okWide_slice Tryz.underlying23 (hval 3 23 v3 rfl rfl)
  have k3 := h3
  have lt3 : ∀ x ∈ p3, x.block < W.heap.size := by obtain ⟨m, hm⟩ := k3; exact DataW.trod_lt m _ _ _ hm
  have w3 : RC Tryz.prog W 23 [.slice a3 len3 cap3] := by
    obtain ⟨fuel, hf⟩ := h3
    exact ⟨_, _, _, _, _, fuel, _, hf⟩
  clear hA0 hval0
  refine (walk a0 a1 a2 len2 cap2 a3 len3 cap3 W w0 w1 w2 w3).mono fun e W' ⟨he, bel⟩ => ?_
  subst he
  exact ⟨_, rfl, _, _, _, [], _, [], hW', trodAll_mk1 (shut_bool Tryz.underlying4 _), (trodAll_cons_mk (shut_int Tryz.underlying3 w0) (trodAll_cons_mk (shut_int Tryz.underlying3 w1) (trodAll_cons_mk (Below.trod laidOut (by kernel_rfl) (of_decide_eq_true (by kernel_rfl)) k2 bel lt2) (trodAll_cons_mk (Below.trod laidOut (by kernel_rfl) (of_decide_eq_true (by kernel_rfl)) k3 bel lt3) trodAll_mk0)))), rfl, bel.frame _, fun h => by cases h⟩

theorem over : Rows.cuboidRollsRow.holds Tryz.pinned (OpenSpec.ofChange Rows.cuboidRollsSpec) :=
  OpenClaim.holds_of_wide 4 Tryz.f4 rfl rfl rfl rfl rfl rfl rfl ⟨rfl, rfl, rfl, rfl, rfl⟩ rfl rfl rfl rfl rfl (by kernel_rfl) Tryz.func4 (by kernel_rfl)
    (of_decide_eq_true (by kernel_rfl)) (by unfold Func.isWrapper; first | (rw [if_pos (by decide +kernel)]; kernel_rfl) | (rw [if_neg (by decide +kernel)]; exact ⟨rfl, rfl⟩))
    (fun os started H enc _ => lifted os started H enc)

theorem proved : Rows.CuboidRollsSaid := over
end Go.Proofs.YteifhgcjmjihgaaGreat.cuboidRolls
