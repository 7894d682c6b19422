/-
  Proved: whatever query (a Group of at most 6, at most 5 Filters of at most 8 Members of 5 names) and whatever paths (the first 8, of 5 names each), query.Passes tells whether they pass, and query.Key their key, just as the document says; the examples of the document hold, and nothing that was handed in changes. No condition.
-/
import Derived.Test.YtmcccpbpijnbmaaJ29
import Derived.Test.YtmcccpbpijnbmaaJ31
import Derived.Test.YtmcccpbpijnbmaaJ38
import Derived.Test.YtmcccpbpijnbmaaJ39
import Derived.Below
import Derived.ChangeOld
import Derived.Deep.RegionHeld3
import Derived.OpenShut
import Derived.ProofKit
import Derived.ShutString
import Derived.Test.YtmcccpbpijnbmaaRows
import Derived.WalkKit
namespace Go.Proofs.Ytmcccpbpijnbmaa.queryPasses
open Go.ChangeShapes Go.WideShapes Go.ChangeAt Go.RowKit
open Go.ChangeMaps (open_string shut_string)
set_option linter.unusedVariables false

theorem own : ownKnob Try.prog.godebug = none := by kernel_rfl
theorem laidOut : laidOutB Try.prog = true := by kernel_rfl

def IsRow (k : IntKind) (w : World) (a : Option Addr) (len cap : Nat) (zs : List Int) : Prop :=
  (a = none ∧ len = 0 ∧ cap = 0 ∧ zs = []) ∨
  ∃ x, a = some x ∧ len ≤ cap ∧ cap ≤ maxLen ∧ zs.length = cap ∧ (∀ i, i < zs.length → w.cell? (x.add i) = some (.int k (zs.getD i 0))) ∧ ∀ n ∈ zs, (Lit.int k n).wf = true

set_option maxRecDepth 100000 in
set_option maxHeartbeats 2000000 in
theorem walk (cs0 : Array Value) (a1 : Option Addr) (len1 cap1 : Nat) (w : World) (w0 : RC Try.prog w 30 cs0.toList) (w1 : RC Try.prog w 41 [.slice a1 len1 cap1]) :
    Calls Try.prog 4 #[.agg cs0, .slice a1 len1 cap1] w fun e w' => e = .returned (.bool true) ∧ Below w.heap.size w w' := by
  obtain ⟨A4, n4, c4, A5, n5, c5, q, eq, hQ, _⟩ := query_of w0
  obtain rfl : cs0 = #[.slice A4 n4 c4, .slice A5 n5 c5] := by rw [← Array.toArray_toList (xs := cs0), eq]
  obtain ⟨P, hP⟩ := paths_of w1
  clear w0 w1 eq
  have hb0 := below_a1 w (.cells #[.slice A4 n4 c4, .slice A5 n5 c5] 30)
  have hY := Block.new w 30 #[.slice A4 n4 c4, .slice A5 n5 c5]
  have HFW := Lib.hid (fewQ_any (hQ.mv (S' := fun b => b < w.heap.size) (Mv.below hb0 fun _ h => h)))
  clear hQ
  go_enter Try.func4, Try.ntmps4
  go_wp2_with fail
  generalize w.alloc (.cells #[.slice A4 n4 c4, .slice A5 n5 c5] 30) = w3 at hb0 hY HFW ⊢
  refine HFW.out.mono ?_
  rintro e w4 ⟨B4, m4, d4, B5, m5, d5, rfl, hQ4, hb4⟩
  have hY4 := hY.below hb4 hY.lt
  have hzb := hY.lt
  have hsh := fewQ_short q
  generalize fewQ q = q' at hQ4 hsh
  have y0 : w4.cell? ⟨w.heap.size, 0, none⟩ = some (.slice A4 n4 c4) := hY4.cell 0
  have y1 : w4.cell? ⟨w.heap.size, 1, none⟩ = some (.slice A5 n5 c5) := hY4.cell 1
  have f0 := hY4.free 0
  have f1 := hY4.free 1
  have hns : ¬ ((w.heap.size < w.heap.size ∧ w.heap.size < w3.heap.size) ∨ (w3.heap.size ≤ w.heap.size ∧ w.heap.size < w4.heap.size)) := by omega
  have hQ5 : HasQ ((w4.setCell ⟨w.heap.size, 0, none⟩ (.slice B4 m4 d4)).setCell ⟨w.heap.size, 1, none⟩ (.slice B5 m5 d5)) (fun b => b < w.heap.size ∨ w.heap.size < b) B4 m4 d4 B5 m5 d5 q' := hQ4.mv ((Mv.set w4 w.heap.size 0 (.slice B4 m4 d4) hns).trans ((Mv.set _ w.heap.size 1 (.slice B5 m5 d5) hns).trans (Mv.to _ fun b hb _ => by omega)))
  have hY5 := (hY4.set_ 0 (.slice B4 m4 d4)).set_ 1 (.slice B5 m5 d5)
  have hB5 := ((hb0.trans (hb4.mono hb0.size)).setCell (p := ⟨w.heap.size, 0, none⟩) (Nat.le_refl _) (.slice B4 m4 d4)).setCell (p := ⟨w.heap.size, 1, none⟩) (Nat.le_refl _) (.slice B5 m5 d5)
  have hm4 : m4 ≤ 6 := by have h1 := hQ4.g.len; have h2 := hsh.1; omega
  clear HFW hQ4 hY hb0 hb4 hY4 hns hzb
  go_upto_region 2 with fail
  clear y0 y1 f0 f1
  generalize (w4.setCell ⟨w.heap.size, 0, none⟩ (.slice B4 m4 d4)).setCell ⟨w.heap.size, 1, none⟩ (.slice B5 m5 d5) = w5 at hQ5 hY5 hB5 ⊢
  have HCu := Lib.hid (cutQ_any (hP.mv elPath_ok (Mv.below hB5 fun _ h => h)))
  clear hP
  go_wp2_with fail
  refine HCu.out.mono ?_
  rintro e w6 ⟨⟨Ap, np, cp, rfl, hP6'⟩, hb6⟩
  have hPs := cutQ_short P
  generalize cutQ P = P' at hP6' hPs
  have HPL := Lib.hid (fun p hp => Nat.le_trans (hPs.2 p hp) (by decide) : ∀ p ∈ P', p.length ≤ 1000000)
  have hY6 := hY5.below hb6 hY5.lt
  have hQ6 := hQ5.belowS hb6
  have hB6 := hB5.trans (hb6.mono hB5.size)
  have hP6 := hP6'.mv (S' := fun b => b < w6.heap.size) elPath_ok (Mv.to w6 fun _ _ hl => hl)
  obtain ⟨WW, hWW⟩ : ∃ WW, WW = w6 := ⟨_, rfl⟩
  subst hWW
  obtain ⟨Z, hZ⟩ : ∃ Z, Hid (keyQ q' P' = Z) := ⟨_, Lib.hid rfl⟩
  have HK1 := key_any (hQ6.mv (Mv.drewN WW 1 _)) (hP6.mv elPath_ok (Mv.drewN WW 1 _)) (by omega) HPL.out
  have HK2 := Lib.hid (fun (y : World) (hy : Below WW.heap.size WW y) => refKeyQ_any (hQ6.belowS hy) (hP6.mv elPath_ok (Mv.belowS hy _)) (by omega) HPL.out)
  rw [hZ.out] at HK1
  simp only [hZ.out] at HK2
  have HK1 := Lib.hid HK1
  have HQ6 := Lib.hid hQ6
  have HP6 := Lib.hid hP6
  have HY6 := Lib.hid hY6
  have HB6 := Lib.hid hB6
  have K : Hid (∀ y, Below WW.heap.size WW y → y.cell? ⟨w.heap.size, 0, none⟩ = some (.slice B4 m4 d4) ∧ y.cell? ⟨w.heap.size, 1, none⟩ = some (.slice B5 m5 d5)) := Lib.hid fun y hy => ⟨(HY6.out.below hy HY6.out.lt).cell 0, (HY6.out.below hy HY6.out.lt).cell 1⟩
  have y0 : WW.cell? ⟨w.heap.size, 0, none⟩ = some (.slice B4 m4 d4) := hY6.cell 0
  have y1 : WW.cell? ⟨w.heap.size, 1, none⟩ = some (.slice B5 m5 d5) := hY6.cell 1
  clear HCu hP6' hY5 hQ5 hB5 hb6 hPs hQ6 hP6 hY6 hB6
  go_wp2_with fail
  go_region_held3 (fun w' => w'.cell? ⟨w.heap.size, 0, none⟩ = some (.slice B4 m4 d4) ∧ w'.cell? ⟨w.heap.size, 1, none⟩ = some (.slice B5 m5 d5))
    (first
      | go_keep
      | exact K.out _ hBB3
      | exact K.out _ hBB2
      | exact K.out _ hBB1)
    (first
      | (go_at_call 19; have hfst := hBB1; refine (HK2.out _ hBB1).mono ?_; rintro e wy2 ⟨v2, rfl, hO2, hb2⟩; obtain ⟨AK2, cK2, rfl, hr2⟩ := hO2.read elPathO_ok; have hR2 : Row (elRow elText 1) 1 wy2 (fun b => b < wy2.heap.size) AK2 Z.length cK2 Z := (hr2.map (E' := elRow elText 1) fun us x h => elOwn_row elText_ok (fun _ _ h => h) h).mv elPath_ok (Mv.to wy2 fun _ _ hl => hl); have hBB2 := hBB1.trans (hb2.mono hBB1.size); have hR3 := hR1.mv elPath_ok (Mv.belowS hb2 _))
      | (go_at_call 18; refine (HK1.out).mono ?_; rintro e wy1 ⟨v1, rfl, hO1, hb1⟩; obtain ⟨AK1, cK1, rfl, hr1⟩ := hO1.read elPathO_ok; have hR1 : Row (elRow elText 1) 1 wy1 (fun b => b < wy1.heap.size) AK1 Z.length cK1 Z := (hr1.map (E' := elRow elText 1) fun us x h => elOwn_row elText_ok (fun _ _ h => h) h).mv elPath_ok (Mv.to wy1 fun _ _ hl => hl); have hBB1 : Below WW.heap.size WW wy1 := (below_drewN (Below.refl _ WW) 1).trans hb1)
      | (go_at_call 17; refine (samePs_eq hR3 hR2).mono ?_; rintro e wy3 ⟨rfl, k3, rfl⟩; have hBB3 := below_drewN hBB2 k3))
  clear HK1 HK2 K hR1 hR2 hR3 hr1 hr2 hO1 hO2 hb1 hb2 y0 y1 hfst
  have hq7 := Lib.hid (HQ6.out.belowS hBB3)
  have hp7 := Lib.hid (HP6.out.mv elPath_ok (Mv.belowS hBB3 _))
  have hy7 := HY6.out.below hBB3 HY6.out.lt
  have hB7 := Lib.hid (HB6.out.trans (hBB3.mono HB6.out.size))
  have HY7 := Lib.hid hy7
  generalize wy2.drewN k3 = WX at hq7 hp7 hy7 hB7 HY7 ⊢
  clear hBB1 hBB2 hBB3 HQ6 HP6 HY6 HB6
  obtain ⟨WW, hWW⟩ : ∃ WW, WW = WX := ⟨_, rfl⟩
  subst hWW
  obtain ⟨r, hr⟩ : ∃ r, Hid (decide (passQ P' q') = r) := ⟨_, Lib.hid rfl⟩
  have HK1 := passes_any (hq7.out.mv (Mv.drewN WW 1 _)) (hp7.out.mv elPath_ok (Mv.drewN WW 1 _))
  have HK2 := Lib.hid (fun (y : World) (hy : Below WW.heap.size WW y) => refPasses_any (hq7.out.belowS hy) (hp7.out.mv elPath_ok (Mv.belowS hy _)))
  rw [hr.out] at HK1
  simp only [hr.out] at HK2
  have HK1 := Lib.hid HK1
  have K : Hid (∀ y, Below WW.heap.size WW y → y.cell? ⟨w.heap.size, 0, none⟩ = some (.slice B4 m4 d4) ∧ y.cell? ⟨w.heap.size, 1, none⟩ = some (.slice B5 m5 d5)) := Lib.hid fun y hy => ⟨(HY7.out.below hy HY7.out.lt).cell 0, (HY7.out.below hy HY7.out.lt).cell 1⟩
  have hrr : (r == r) = true := by simp
  have y0 : WW.cell? ⟨w.heap.size, 0, none⟩ = some (.slice B4 m4 d4) := hy7.cell 0
  have y1 : WW.cell? ⟨w.heap.size, 1, none⟩ = some (.slice B5 m5 d5) := hy7.cell 1
  clear hy7
  go_wp2_with fail
  go_region_held3 (fun w' => w'.cell? ⟨w.heap.size, 0, none⟩ = some (.slice B4 m4 d4) ∧ w'.cell? ⟨w.heap.size, 1, none⟩ = some (.slice B5 m5 d5))
    (first
      | go_keep
      | exact K.out _ hBB3
      | exact K.out _ hBB2
      | exact K.out _ hBB1)
    (first
      | (go_at_call 21; have hfst := hBB1; refine (HK2.out _ hBB1).mono ?_; rintro e wy2 ⟨rfl, hb2⟩; have hBB2 := hBB1.trans (hb2.mono hBB1.size))
      | (go_at_call 20; refine (HK1.out).mono ?_; rintro e wy1 ⟨rfl, hb1⟩; have hBB1 : Below WW.heap.size WW wy1 := (below_drewN (Below.refl _ WW) 1).trans hb1)
      | (go_at_call 13; refine (qryLives_any _).mono ?_; rintro e wy3 ⟨rfl, hb3⟩; have hBB3 := hBB2.trans (hb3.mono hBB2.size)))
  have HF := Lib.hid (hB7.out.trans (hBB3.mono hB7.out.size))
  clear HK1 HK2 K hb1 hb2 hb3 y0 y1 hBB1 hBB2 hBB3 hfst
  go_wp2_with fail
  go_ret
  exact ⟨rfl, HF.out⟩

set_option maxRecDepth 100000 in
theorem lifted (os : Os) (started : os.Started) (H : Type) (enc : TypeId × Value → H) :
    ReturnsInHanded {} Try.checked os 4 .any (Rows.queryPassesSpec.pre6 enc Try.prog Try.f4 Rows.queryPassesRow.domain false) (Rows.queryPassesSpec.post enc Try.prog Try.f4 false true false false) := by
  refine returnsInHanded_of_change (C := Try.checked) own started (by kernel_rfl) Try.func4
    (ChangeSpec.witness6 (enc := enc) (C := Try.checked) false ⟨#[], #[.agg #[.slice none 0 0, .slice none 0 0], .slice none 0 0], []⟩ 8 (by kernel_rfl) (by kernel_rfl) (by kernel_rfl) (by kernel_rfl)) ?_
  intro W base args ds gs before hval0 hW hcnd _
  have hval : ∀ (j : Nat) t v, Try.f4.params[j]? = some t → args[j]? = some v → Value.okWide Try.prog W .any base t v := hval0
  have hW' := hW
  obtain ⟨p, q, hA0, hV, rfl, hfz, hnd⟩ := hW
  have hA : DataW.TrodAll enc Try.prog W 0 (fun _ => true) true Try.f4.params.toList args.toList ds p := hA0
  rw [Try.params4] at hA hval
  obtain ⟨v0, vs0, d0, ds0, p0, q0, hargs, rfl, rfl, h0, r0⟩ := trodAll_cons hA
  obtain ⟨v1, vs1, d1, ds1, p1, q1, rfl, rfl, rfl, h1, r1⟩ := trodAll_cons r0
  obtain ⟨rfl, rfl, rfl⟩ := trodAll_nil r1
  obtain rfl : args = #[v0, v1] := by cases args; simp_all
  obtain ⟨rfl, rfl⟩ := trodVars_none hV
  obtain ⟨cs0, rfl, hsz0⟩ := okWide_struct Try.underlying30 (hval 0 30 v0 rfl rfl)
  have k0 := h0
  have lt0 : ∀ x ∈ p0, x.block < W.heap.size := by obtain ⟨m, hm⟩ := k0; exact DataW.trod_lt m _ _ _ hm
  have w0 : RC Try.prog W 30 cs0.toList := by
    obtain ⟨fuel, hf⟩ := h0
    exact ⟨_, _, _, _, _, fuel, _, by simpa [Value.cells] using hf⟩
  obtain ⟨a1, len1, cap1, rfl⟩ := okWide_slice Try.underlying41 (hval 1 41 v1 rfl rfl)
  have k1 := h1
  have lt1 : ∀ x ∈ p1, x.block < W.heap.size := by obtain ⟨m, hm⟩ := k1; exact DataW.trod_lt m _ _ _ hm
  have w1 : RC Try.prog W 41 [.slice a1 len1 cap1] := by
    obtain ⟨fuel, hf⟩ := h1
    exact ⟨_, _, _, _, _, fuel, _, hf⟩
  clear hA0 hval0
  refine (walk cs0 a1 len1 cap1 W w0 w1).mono fun e W' ⟨he, bel⟩ => ?_
  subst he
  exact ⟨_, rfl, _, _, _, [], _, [], hW', trodAll_mk1 (shut_bool Try.underlying4 _), (trodAll_cons_mk (Below.trod laidOut (by kernel_rfl) (of_decide_eq_true (by kernel_rfl)) k0 bel lt0) (trodAll_cons_mk (Below.trod laidOut (by kernel_rfl) (of_decide_eq_true (by kernel_rfl)) k1 bel lt1) trodAll_mk0)), rfl, bel.frame _, fun h => by cases h⟩

theorem over : Rows.queryPassesRow.holds Try.pinned (OpenSpec.ofChange Rows.queryPassesSpec) :=
  OpenClaim.holds_of_wide 4 Try.f4 rfl rfl rfl rfl rfl rfl rfl ⟨rfl, rfl, rfl, rfl, rfl⟩ rfl rfl rfl rfl rfl (by kernel_rfl) Try.func4 (by kernel_rfl)
    (of_decide_eq_true (by kernel_rfl)) (by unfold Func.isWrapper; first | (rw [if_pos (by decide +kernel)]; kernel_rfl) | (rw [if_neg (by decide +kernel)]; exact ⟨rfl, rfl⟩))
    (fun os started H enc _ => lifted os started H enc)

theorem proved : Rows.QueryPassesSaid := over
end Go.Proofs.Ytmcccpbpijnbmaa.queryPasses
