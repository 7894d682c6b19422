/-
  Proved: whatever the widths, measures and cells (the first 60), what is put is read again, as the same cuboid; the document's examples hold, and nothing that was handed in is changed. No condition.
-/
import Derived.Test.YteifhgcjmjihgaaGreatJ45
import Derived.Below
import Derived.ChangeOld
import Derived.Deep.RegionHeld3
import Derived.OpenShut
import Derived.ProofKit
import Derived.ShutString
import Derived.Test.YteifhgcjmjihgaaGreatRows
import Derived.WalkKit
namespace Go.Proofs.YteifhgcjmjihgaaGreat.cuboidRound
open Go.ChangeShapes Go.WideShapes Go.ChangeAt Go.RowKit
open Go.ChangeMaps (open_string shut_string)
set_option linter.unusedVariables false

theorem own : ownKnob Tryz.prog.godebug = none := by kernel_rfl
theorem laidOut : laidOutB Tryz.prog = true := by kernel_rfl

def IsRow (k : IntKind) (w : World) (a : Option Addr) (len cap : Nat) (zs : List Int) : Prop :=
  (a = none ∧ len = 0 ∧ cap = 0 ∧ zs = []) ∨
  ∃ x, a = some x ∧ len ≤ cap ∧ cap ≤ maxLen ∧ zs.length = cap ∧ (∀ i, i < zs.length → w.cell? (x.add i) = some (.int k (zs.getD i 0))) ∧ ∀ n ∈ zs, (Lit.int k n).wf = true

set_option maxRecDepth 100000 in
set_option maxHeartbeats 2000000 in
theorem walk (a0 : Int) (a1 : Int) (a2 : Option Addr) (len2 cap2 : Nat) (w : World) (w0 : (Lit.int .i64 a0).wf = true) (w1 : (Lit.int .i64 a1).wf = true) (w2 : RC Tryz.prog w 22 [.slice a2 len2 cap2]) :
    Calls Tryz.prog 6 #[.int .i64 a0, .int .i64 a1, .slice a2 len2 cap2] w fun e w' => e = .returned (.bool true) ∧ Below w.heap.size w w' := by
  obtain ⟨l1, l2⟩ := i64_of_wf w0
  obtain ⟨l3, l4⟩ := i64_of_wf w1
  obtain ⟨D, hD⟩ := deeds_of w2
  clear w0 w1 w2
  go_enter Tryz.func6, Tryz.ntmps6
  go_wp2_with fail

  refine (both_any ⟨l1, l2⟩ ⟨l3, l4⟩ hD).mono ?_
  rintro e v2 ⟨g, b, r, rfl, hP⟩
  obtain ⟨W, hW⟩ : ∃ W, Hid (wideP a0 = W) := ⟨_, Lib.hid rfl⟩
  obtain ⟨m, hm⟩ : ∃ m, Hid (measP a1 = m) := ⟨_, Lib.hid rfl⟩
  rw [hW.out, hm.out] at hP

  obtain ⟨C, hC⟩ : ∃ C, Hid (addsK W m D (min len2 60) = C) := ⟨_, Lib.hid rfl⟩
  rw [hC.out] at hP
  have HP := Lib.hid hP
  have hn60 : Hid (C.length ≤ 60) := Lib.hid (by rw [← hC.out]; exact Nat.le_trans (addsK_len _ _ _ _) (Nat.min_le_right _ _))
  have hput := Lib.hid (put_any hP.pc)
  clear hP hD
  go_wp2_with fail
  refine hput.out.mono ?_
  rintro e v3 ⟨vb, rfl, hO3, hB3⟩
  obtain ⟨Ab, nb, cb, rfl, hb3, _⟩ := hO3.formN
  have HP3 := Lib.hid (HP.out.belowS hB3)
  have hnl : nb ≤ 100000 := by
    have h1 := hb3.len
    have h2 := encC_len HP.out.pc.ok HP.out.pc.w3 HP.out.pc.m2 (by have := hn60.out; omega)
    have h3 := hn60.out
    omega
  have hnb := Lib.hid hb3.len
  have hnew := Lib.hid (wireNew_any _ _ _ _ _ hb3 (by omega))
  obtain ⟨Ar, nr, cr, hRq⟩ := HP3.out.pr
  have HRq := Lib.hid hRq.low
  clear hput hO3 hB3 hb3 hRq
  go_wp2_with fail
  refine hnew.out.mono ?_
  rintro e v4 ⟨gr, A4, c4, rfl, hR4, hg4, hB4⟩
  have HP4 := Lib.hid (HP3.out.belowS hB4)
  have HRq4 := Lib.hid (HRq.out.belowS hB4)
  have hrd := cubRead_yes HP.out.pc.w1 HP.out.pc.w3 HP.out.pc.m1 HP.out.pc.m2 (hR4.drewN 1)
  have hrc := rdC_put HP.out.pc.ok (by have := hn60.out; omega) []
  rw [List.append_nil, hnb.out] at hrc
  rw [hrc] at hrd
  have HRd := Lib.hid hrd
  have hgr : Hid (v3.heap.size ≤ gr) := Lib.hid hg4
  have KQ : Hid (∀ y : World, v4.grownBy y (some gr) → Rq y r W m (fun k => k < v3.heap.size) Ar nr cr C) := Lib.hid fun y hy => HRq4.out.kept hy (by have h1 := HRq.out.blk.lt; omega) (by omega)
  have KC : Hid (∀ y : World, v4.grownBy y (some gr) → y.cell? ⟨r, 0, none⟩ = some (.int .i64 (W : Int)) ∧ y.cell? ⟨r, 1, none⟩ = some (.int .i64 (m : Int))) := Lib.hid fun y hy => ⟨(KQ.out y hy).c0, (KQ.out y hy).c1⟩
  obtain ⟨y0, y1⟩ := KC.out v4 (grown_of (Below.refl _ _) _)
  clear hnew hR4 hg4 hB4 hrd hrc
  go_wp2_with fail
  go_region_held3 (fun w' => w'.cell? ⟨r, 0, none⟩ = some (.int .i64 (W : Int)) ∧ w'.cell? ⟨r, 1, none⟩ = some (.int .i64 (m : Int)))
    (first
      | with_reducible exact KC.out _ hGG
      | go_keep)
    (first
      | (go_at_call 19; refine HRd.out.mono ?_; rintro e v5 ht5; obtain ⟨⟨gd, bd, rfl, hC5, hgd, hbd⟩, _, hR5, hG5⟩ := ht5.yes; have hGG : v4.grownBy v5 (some gr) := grownBy_trans (grown_of (below_drewN (Below.refl _ v4) 1) _) hG5 (fun _ h => .inl h)))
  all_goals
    have hend := Lib.hid (end_any _ _ _ _ _ _ _ _ hR5)
    rw [endE_same _ _ rfl] at hend
    have HC5 := Lib.hid hC5
    have HQ5 := Lib.hid (KQ.out v5 hGG)
    have HB5 := Lib.hid (below_grown_new HP4.out.bel hGG (by have h1 := hgr.out; have h2 := HP3.out.bel.size; omega))
    clear y0 y1 hC5 hgd hbd hR5 hG5 hGG KC KQ HRd
    go_wp2_with fail
    refine hend.out.mono ?_
    rintro e v6 ⟨rfl, kq, rfl⟩
    have hlk := Lib.hid (like_any (HC5.out.drewN kq) (HQ5.out.belowS (below_drewN (Below.refl _ _) kq)))
    clear hend
    go_wp2_with fail
    refine hlk.out.mono ?_
    rintro e v7 ⟨rfl, hb7⟩
    have HB7 := Lib.hid (HB5.out.trans (((below_drewN (Below.refl _ v5) kq).trans hb7).mono HB5.out.size))
    clear hlk hb7
    go_wp2_with fail
    refine (cubLives_any _).mono ?_
    rintro y wz ⟨rfl, hBz⟩
    have HBz := Lib.hid (below_then HB7.out hBz)
    clear hBz
    go_wp2_with fail
    go_ret
    exact ⟨rfl, HBz.out⟩

set_option maxRecDepth 100000 in
theorem lifted (os : Os) (started : os.Started) (H : Type) (enc : TypeId × Value → H) :
    ReturnsInHanded {} Tryz.checked os 6 .any (Rows.cuboidRoundSpec.pre6 enc Tryz.prog Tryz.f6 Rows.cuboidRoundRow.domain false) (Rows.cuboidRoundSpec.post enc Tryz.prog Tryz.f6 false true false false) := by
  refine returnsInHanded_of_change (C := Tryz.checked) own started (by kernel_rfl) Tryz.func6
    (ChangeSpec.witness6 (enc := enc) (C := Tryz.checked) false ⟨#[], #[.int .i64 0, .int .i64 0, .slice none 0 0], []⟩ 8 (by kernel_rfl) (by kernel_rfl) (by kernel_rfl) (by kernel_rfl)) ?_
  intro W base args ds gs before hval0 hW hcnd _
  have hval : ∀ (j : Nat) t v, Tryz.f6.params[j]? = some t → args[j]? = some v → Value.okWide Tryz.prog W .any base t v := hval0
  have hW' := hW
  obtain ⟨p, q, hA0, hV, rfl, hfz, hnd⟩ := hW
  have hA : DataW.TrodAll enc Tryz.prog W 0 (fun _ => true) true Tryz.f6.params.toList args.toList ds p := hA0
  rw [Tryz.params6] at hA hval
  obtain ⟨v0, vs0, d0, ds0, p0, q0, hargs, rfl, rfl, h0, r0⟩ := trodAll_cons hA
  obtain ⟨v1, vs1, d1, ds1, p1, q1, rfl, rfl, rfl, h1, r1⟩ := trodAll_cons r0
  obtain ⟨v2, vs2, d2, ds2, p2, q2, rfl, rfl, rfl, h2, r2⟩ := trodAll_cons r1
  obtain ⟨rfl, rfl, rfl⟩ := trodAll_nil r2
  obtain rfl : args = #[v0, v1, v2] := by cases args; simp_all
  obtain ⟨rfl, rfl⟩ := trodVars_none hV
  obtain ⟨a0, rfl, rfl, rfl, w0⟩ := open_int Tryz.underlying3 (hval 0 3 v0 rfl rfl) h0
  obtain ⟨a1, rfl, rfl, rfl, w1⟩ := open_int Tryz.underlying3 (hval 1 3 v1 rfl rfl) h1
  obtain ⟨a2, len2, cap2, rfl⟩ := okWide_slice Tryz.underlying22 (hval 2 22 v2 rfl rfl)
  have k2 := h2
  have lt2 : ∀ x ∈ p2, x.block < W.heap.size := by obtain ⟨m, hm⟩ := k2; exact DataW.trod_lt m _ _ _ hm
  have w2 : RC Tryz.prog W 22 [.slice a2 len2 cap2] := by
    obtain ⟨fuel, hf⟩ := h2
    exact ⟨_, _, _, _, _, fuel, _, hf⟩
  clear hA0 hval0
  refine (walk a0 a1 a2 len2 cap2 W w0 w1 w2).mono fun e W' ⟨he, bel⟩ => ?_
  subst he
  exact ⟨_, rfl, _, _, _, [], _, [], hW', trodAll_mk1 (shut_bool Tryz.underlying4 _), (trodAll_cons_mk (shut_int Tryz.underlying3 w0) (trodAll_cons_mk (shut_int Tryz.underlying3 w1) (trodAll_cons_mk (Below.trod laidOut (by kernel_rfl) (of_decide_eq_true (by kernel_rfl)) k2 bel lt2) trodAll_mk0))), rfl, bel.frame _, fun h => by cases h⟩

theorem over : Rows.cuboidRoundRow.holds Tryz.pinned (OpenSpec.ofChange Rows.cuboidRoundSpec) :=
  OpenClaim.holds_of_wide 6 Tryz.f6 rfl rfl rfl rfl rfl rfl rfl ⟨rfl, rfl, rfl, rfl, rfl⟩ rfl rfl rfl rfl rfl (by kernel_rfl) Tryz.func6 (by kernel_rfl)
    (of_decide_eq_true (by kernel_rfl)) (by unfold Func.isWrapper; first | (rw [if_pos (by decide +kernel)]; kernel_rfl) | (rw [if_neg (by decide +kernel)]; exact ⟨rfl, rfl⟩))
    (fun os started H enc _ => lifted os started H enc)

theorem proved : Rows.CuboidRoundSaid := over
end Go.Proofs.YteifhgcjmjihgaaGreat.cuboidRound
