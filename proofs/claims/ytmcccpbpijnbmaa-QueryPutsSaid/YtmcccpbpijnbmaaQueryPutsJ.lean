/-
  Proved: whatever query (a Group of at most 6, at most 5 Filters of at most 8 Members of 5 names), behind whatever bytes (the first 20), query.Put puts just the bytes of the document, or refuses it as it says; the examples of the document hold, and nothing that was handed in changes. No condition.
-/
import Derived.Test.YtmcccpbpijnbmaaJ2
import Derived.Test.YtmcccpbpijnbmaaJ38
import Derived.Test.YtmcccpbpijnbmaaJ39
import Derived.Test.YtmcccpbpijnbmaaJ40
import Derived.Below
import Derived.ChangeOld
import Derived.OpenShut
import Derived.ProofKit
import Derived.ShutString
import Derived.Test.YtmcccpbpijnbmaaRows
import Derived.WalkKit
namespace Go.Proofs.Ytmcccpbpijnbmaa.queryPuts
open Go.ChangeShapes Go.WideShapes Go.ChangeAt Go.RowKit
open Go.ChangeMaps (open_string shut_string)
set_option linter.unusedVariables false

theorem own : ownKnob Try.prog.godebug = none := by kernel_rfl
theorem laidOut : laidOutB Try.prog = true := by kernel_rfl

def IsRow (k : IntKind) (w : World) (a : Option Addr) (len cap : Nat) (zs : List Int) : Prop :=
  (a = none ∧ len = 0 ∧ cap = 0 ∧ zs = []) ∨
  ∃ x, a = some x ∧ len ≤ cap ∧ cap ≤ maxLen ∧ zs.length = cap ∧ (∀ i, i < zs.length → w.cell? (x.add i) = some (.int k (zs.getD i 0))) ∧ ∀ n ∈ zs, (Lit.int k n).wf = true

set_option maxRecDepth 100000 in
set_option maxHeartbeats 2000000 in
theorem walk (a0 : Option Addr) (len0 cap0 : Nat) (z0 : List Int) (cs1 : Array Value) (w : World) (w0 : IsRow .u8 w a0 len0 cap0 z0) (w1 : RC Try.prog w 30 cs1.toList) :
    Calls Try.prog 5 #[.slice a0 len0 cap0, .agg cs1] w fun e w' => e = .returned (.bool true) ∧ Below w.heap.size w w' := by
  obtain ⟨l0, hr0⟩ := HasB.of_row w0
  obtain ⟨A4, n4, c4, A5, n5, c5, q, eq, hQ, _⟩ := query_of w1
  obtain rfl : cs1 = #[.slice A4 n4 c4, .slice A5 n5 c5] := by rw [← Array.toArray_toList (xs := cs1), eq]
  clear w0 w1 eq
  have hb0 := below_a1 w (.cells #[.slice A4 n4 c4, .slice A5 n5 c5] 30)
  have hY := Block.new w 30 #[.slice A4 n4 c4, .slice A5 n5 c5]
  have HFW := Lib.hid (fewQ_any (hQ.mv (S' := fun b => b < w.heap.size) (Mv.below hb0 fun _ h => h)))
  clear hQ
  go_enter Try.func5, Try.ntmps5
  go_wp2_with fail
  generalize w.alloc (.cells #[.slice A4 n4 c4, .slice A5 n5 c5] 30) = w3 at hb0 hY HFW ⊢
  refine HFW.out.mono ?_
  rintro e w4 ⟨B4, m4, d4, B5, m5, d5, rfl, hQ4, hb4⟩
  have hY4 := hY.below hb4 hY.lt
  have hzb := hY.lt
  have hsh := fewQ_short q
  generalize fewQ q = q' at hQ4 hsh
  have y0 : w4.cell? ⟨w.heap.size, 0, none⟩ = some (.slice A4 n4 c4) := hY4.cell 0
  have y1 : w4.cell? ⟨w.heap.size, 1, none⟩ = some (.slice A5 n5 c5) := hY4.cell 1
  have f0 := hY4.free 0
  have f1 := hY4.free 1
  have hns : ¬ ((w.heap.size < w.heap.size ∧ w.heap.size < w3.heap.size) ∨ (w3.heap.size ≤ w.heap.size ∧ w.heap.size < w4.heap.size)) := by omega
  have hQ5 : HasQ ((w4.setCell ⟨w.heap.size, 0, none⟩ (.slice B4 m4 d4)).setCell ⟨w.heap.size, 1, none⟩ (.slice B5 m5 d5)) (fun b => b < w.heap.size ∨ w.heap.size < b) B4 m4 d4 B5 m5 d5 q' := hQ4.mv ((Mv.set w4 w.heap.size 0 (.slice B4 m4 d4) hns).trans ((Mv.set _ w.heap.size 1 (.slice B5 m5 d5) hns).trans (Mv.to _ fun b hb _ => by omega)))
  have hY5 := (hY4.set_ 0 (.slice B4 m4 d4)).set_ 1 (.slice B5 m5 d5)
  have hB5 := ((hb0.trans (hb4.mono hb0.size)).setCell (p := ⟨w.heap.size, 0, none⟩) (Nat.le_refl _) (.slice B4 m4 d4)).setCell (p := ⟨w.heap.size, 1, none⟩) (Nat.le_refl _) (.slice B5 m5 d5)
  have hm4 : m4 ≤ 6 := by have h1 := hQ4.g.len; have h2 := hsh.1; omega
  clear HFW hQ4 hY hb0 hb4 hY4 hns hzb
  go_upto_region 2 with fail
  clear y0 y1 f0 f1
  generalize (w4.setCell ⟨w.heap.size, 0, none⟩ (.slice B4 m4 d4)).setCell ⟨w.heap.size, 1, none⟩ (.slice B5 m5 d5) = w5 at hQ5 hY5 hB5 ⊢
  have hcap := hr0.cap
  have hcm := hr0.capMax
  have hA := (hr0.below hB5 (Nat.le_refl _)).more hB5.size
  clear hr0
  by_cases h20 : (20 : Int) < (len0 : Int)
  · have h2 : (20 : Int) ≤ (cap0 : Int) := by omega
    have hA5 := hA.take_ 20 (by omega)
    generalize l0.take 20 = l0 at hA5
    clear hA
    have HP := Lib.hid (putQry_any hQ5 hA5 (by omega))
    have y0 : w5.cell? ⟨w.heap.size, 0, none⟩ = some (.slice B4 m4 d4) := hY5.cell 0
    have y1 : w5.cell? ⟨w.heap.size, 1, none⟩ = some (.slice B5 m5 d5) := hY5.cell 1
    go_wp2_with fail
    refine HP.out.mono ?_
    rintro e w6 ⟨v6, rfl, hO6, hb6⟩
    obtain ⟨A6, n6, c6, rfl, hO6'⟩ := hO6.at_
    have hY6 := hY5.below hb6 hY5.lt
    have hQ6 := hQ5.belowS hb6
    have hB6 := hB5.trans (hb6.mono hB5.size)
    have HRP := Lib.hid (refPutQ_any hQ6 (hA5.belowS hb6) (by omega))
    clear HP hY5 hQ5 hB5 hb6 hO6 y0 y1
    have y0 : w6.cell? ⟨w.heap.size, 0, none⟩ = some (.slice B4 m4 d4) := hY6.cell 0
    have y1 : w6.cell? ⟨w.heap.size, 1, none⟩ = some (.slice B5 m5 d5) := hY6.cell 1
    go_wp2_with fail
    refine HRP.out.mono ?_
    rintro e w7 ⟨v7, rfl, ⟨A7, n7, c7, rfl, hO7⟩, hb7⟩
    have hO8 := hO6'.belowS hb7
    have hB7 := hB6.trans (hb7.mono hB6.size)
    have HS := Lib.hid (same_any _ _ _ _ _ _ _ _ _ _ _ hO8 hO7)
    have hyy : (putQ l0 q' == putQ l0 q') = true := by simp
    rw [hyy] at HS
    obtain ⟨z, hz⟩ : ∃ z, putQE q' = z := ⟨_, rfl⟩
    rw [hz]
    have hxx : ((z : Int) == (z : Int)) = true := by simp
    clear HRP hO6' hb7 hB6 hO7 hyy hO8 hY6 hQ6 y0 y1 hz
    go_wp2_with fail
    refine HS.out.mono ?_
    rintro e w9 ⟨rfl, k9, rfl⟩
    have hB9 := below_drewN hB7 k9
    clear HS hB7
    go_wp2_with fail
    refine (qryLives_any _).mono ?_
    rintro e vz ⟨rfl, hbz⟩
    have HF := Lib.hid (hB9.trans (hbz.mono hB9.size))
    clear hbz hB9
    go_wp2_with fail
    go_ret
    exact ⟨rfl, HF.out⟩
  · have hA5 := hA
    clear hA
    have HP := Lib.hid (putQry_any hQ5 hA5 (by omega))
    have y0 : w5.cell? ⟨w.heap.size, 0, none⟩ = some (.slice B4 m4 d4) := hY5.cell 0
    have y1 : w5.cell? ⟨w.heap.size, 1, none⟩ = some (.slice B5 m5 d5) := hY5.cell 1
    go_wp2_with fail
    refine HP.out.mono ?_
    rintro e w6 ⟨v6, rfl, hO6, hb6⟩
    obtain ⟨A6, n6, c6, rfl, hO6'⟩ := hO6.at_
    have hY6 := hY5.below hb6 hY5.lt
    have hQ6 := hQ5.belowS hb6
    have hB6 := hB5.trans (hb6.mono hB5.size)
    have HRP := Lib.hid (refPutQ_any hQ6 (hA5.belowS hb6) (by omega))
    clear HP hY5 hQ5 hB5 hb6 hO6 y0 y1
    have y0 : w6.cell? ⟨w.heap.size, 0, none⟩ = some (.slice B4 m4 d4) := hY6.cell 0
    have y1 : w6.cell? ⟨w.heap.size, 1, none⟩ = some (.slice B5 m5 d5) := hY6.cell 1
    go_wp2_with fail
    refine HRP.out.mono ?_
    rintro e w7 ⟨v7, rfl, ⟨A7, n7, c7, rfl, hO7⟩, hb7⟩
    have hO8 := hO6'.belowS hb7
    have hB7 := hB6.trans (hb7.mono hB6.size)
    have HS := Lib.hid (same_any _ _ _ _ _ _ _ _ _ _ _ hO8 hO7)
    have hyy : (putQ l0 q' == putQ l0 q') = true := by simp
    rw [hyy] at HS
    obtain ⟨z, hz⟩ : ∃ z, putQE q' = z := ⟨_, rfl⟩
    rw [hz]
    have hxx : ((z : Int) == (z : Int)) = true := by simp
    clear HRP hO6' hb7 hB6 hO7 hyy hO8 hY6 hQ6 y0 y1 hz
    go_wp2_with fail
    refine HS.out.mono ?_
    rintro e w9 ⟨rfl, k9, rfl⟩
    have hB9 := below_drewN hB7 k9
    clear HS hB7
    go_wp2_with fail
    refine (qryLives_any _).mono ?_
    rintro e vz ⟨rfl, hbz⟩
    have HF := Lib.hid (hB9.trans (hbz.mono hB9.size))
    clear hbz hB9
    go_wp2_with fail
    go_ret
    exact ⟨rfl, HF.out⟩

set_option maxRecDepth 100000 in
theorem lifted (os : Os) (started : os.Started) (H : Type) (enc : TypeId × Value → H) :
    ReturnsInHanded {} Try.checked os 5 .any (Rows.queryPutsSpec.pre6 enc Try.prog Try.f5 Rows.queryPutsRow.domain false) (Rows.queryPutsSpec.post enc Try.prog Try.f5 false true false false) := by
  refine returnsInHanded_of_change (C := Try.checked) own started (by kernel_rfl) Try.func5
    (ChangeSpec.witness6 (enc := enc) (C := Try.checked) false ⟨#[], #[.slice none 0 0, .agg #[.slice none 0 0, .slice none 0 0]], []⟩ 8 (by kernel_rfl) (by kernel_rfl) (by kernel_rfl) (by kernel_rfl)) ?_
  intro W base args ds gs before hval0 hW hcnd _
  have hval : ∀ (j : Nat) t v, Try.f5.params[j]? = some t → args[j]? = some v → Value.okWide Try.prog W .any base t v := hval0
  have hW' := hW
  obtain ⟨p, q, hA0, hV, rfl, hfz, hnd⟩ := hW
  have hA : DataW.TrodAll enc Try.prog W 0 (fun _ => true) true Try.f5.params.toList args.toList ds p := hA0
  rw [Try.params5] at hA hval
  obtain ⟨v0, vs0, d0, ds0, p0, q0, hargs, rfl, rfl, h0, r0⟩ := trodAll_cons hA
  obtain ⟨v1, vs1, d1, ds1, p1, q1, rfl, rfl, rfl, h1, r1⟩ := trodAll_cons r0
  obtain ⟨rfl, rfl, rfl⟩ := trodAll_nil r1
  obtain rfl : args = #[v0, v1] := by cases args; simp_all
  obtain ⟨rfl, rfl⟩ := trodVars_none hV
  obtain ⟨a0, len0, cap0, rfl⟩ := okWide_slice Try.underlying46 (hval 0 46 v0 rfl rfl)
  have k0 := h0
  have lt0 : ∀ x ∈ p0, x.block < W.heap.size := by obtain ⟨m, hm⟩ := k0; exact DataW.trod_lt m _ _ _ hm
  obtain ⟨z0, w0⟩ : ∃ zs, IsRow .u8 W a0 len0 cap0 zs := by
    obtain ⟨fuel, hf⟩ := h0
    rcases open_ints Try.underlying46 Try.underlying5 (by kernel_rfl) hf with ⟨hcs, _⟩ | ⟨x, l, c, zs, hcs, _, hl, hm, hz, _, hcell, hwz⟩
    · simp [Value.cells] at hcs
      obtain ⟨rfl, rfl, rfl⟩ := hcs
      exact ⟨[], .inl ⟨rfl, rfl, rfl, rfl⟩⟩
    · simp [Value.cells] at hcs
      obtain ⟨rfl, rfl, rfl⟩ := hcs
      exact ⟨zs, .inr ⟨_, rfl, hl, hm, by simpa using hz, hcell, hwz⟩⟩
  obtain ⟨cs1, rfl, hsz1⟩ := okWide_struct Try.underlying30 (hval 1 30 v1 rfl rfl)
  have k1 := h1
  have lt1 : ∀ x ∈ p1, x.block < W.heap.size := by obtain ⟨m, hm⟩ := k1; exact DataW.trod_lt m _ _ _ hm
  have w1 : RC Try.prog W 30 cs1.toList := by
    obtain ⟨fuel, hf⟩ := h1
    exact ⟨_, _, _, _, _, fuel, _, by simpa [Value.cells] using hf⟩
  clear hA0 hval0
  refine (walk a0 len0 cap0 z0 cs1 W w0 w1).mono fun e W' ⟨he, bel⟩ => ?_
  subst he
  exact ⟨_, rfl, _, _, _, [], _, [], hW', trodAll_mk1 (shut_bool Try.underlying4 _), (trodAll_cons_mk (Below.trod laidOut (by kernel_rfl) (of_decide_eq_true (by kernel_rfl)) k0 bel lt0) (trodAll_cons_mk (Below.trod laidOut (by kernel_rfl) (of_decide_eq_true (by kernel_rfl)) k1 bel lt1) trodAll_mk0)), rfl, bel.frame _, fun h => by cases h⟩

theorem over : Rows.queryPutsRow.holds Try.pinned (OpenSpec.ofChange Rows.queryPutsSpec) :=
  OpenClaim.holds_of_wide 5 Try.f5 rfl rfl rfl rfl rfl rfl rfl ⟨rfl, rfl, rfl, rfl, rfl⟩ rfl rfl rfl rfl rfl (by kernel_rfl) Try.func5 (by kernel_rfl)
    (of_decide_eq_true (by kernel_rfl)) (by unfold Func.isWrapper; first | (rw [if_pos (by decide +kernel)]; kernel_rfl) | (rw [if_neg (by decide +kernel)]; exact ⟨rfl, rfl⟩))
    (fun os started H enc _ => lifted os started H enc)

theorem proved : Rows.QueryPutsSaid := over
end Go.Proofs.Ytmcccpbpijnbmaa.queryPuts
