/-
  Proved: whatever schema (at most 6 Dims, 9 Views, 6 Measures) and whatever query (a Group of at most 6, at most 5 Filters of at most 8 Members of 5 names), query.May tells just what the document says, and query.Need the same error and just the corner that the document tells; the examples of the document hold, and nothing that was handed in changes. No condition.
-/
import Derived.Test.YtmcccpbpijnbmaaJ27
import Derived.Test.YtmcccpbpijnbmaaJ38
import Derived.Test.YtmcccpbpijnbmaaJ39
import Derived.Below
import Derived.ChangeOld
import Derived.OpenShut
import Derived.ProofKit
import Derived.ShutString
import Derived.Test.YtmcccpbpijnbmaaRows
import Derived.WalkKit
namespace Go.Proofs.Ytmcccpbpijnbmaa.queryMay
open Go.ChangeShapes Go.WideShapes Go.ChangeAt Go.RowKit
open Go.ChangeMaps (open_string shut_string)
set_option linter.unusedVariables false

theorem own : ownKnob Try.prog.godebug = none := by kernel_rfl
theorem laidOut : laidOutB Try.prog = true := by kernel_rfl

def IsRow (k : IntKind) (w : World) (a : Option Addr) (len cap : Nat) (zs : List Int) : Prop :=
  (a = none ∧ len = 0 ∧ cap = 0 ∧ zs = []) ∨
  ∃ x, a = some x ∧ len ≤ cap ∧ cap ≤ maxLen ∧ zs.length = cap ∧ (∀ i, i < zs.length → w.cell? (x.add i) = some (.int k (zs.getD i 0))) ∧ ∀ n ∈ zs, (Lit.int k n).wf = true

set_option maxRecDepth 100000 in
set_option maxHeartbeats 2000000 in
theorem walk (cs0 : Array Value) (cs1 : Array Value) (w : World) (w0 : RC Try.prog w 26 cs0.toList) (w1 : RC Try.prog w 30 cs1.toList) :
    Calls Try.prog 3 #[.agg cs0, .agg cs1] w fun e w' => e = .returned (.bool true) ∧ Below w.heap.size w w' := by
  obtain ⟨A1, n1, c1, A2, n2, c2, A3, n3, c3, D, M, V, es, hS, hf, hm⟩ := schema_of w0
  obtain rfl : cs0 = #[.slice A1 n1 c1, .slice A2 n2 c2, .slice A3 n3 c3] := by rw [← Array.toArray_toList (xs := cs0), es]
  obtain ⟨A4, n4, c4, A5, n5, c5, q, eq, hQ, _⟩ := query_of w1
  obtain rfl : cs1 = #[.slice A4 n4 c4, .slice A5 n5 c5] := by rw [← Array.toArray_toList (xs := cs1), eq]
  clear w0 es w1 eq
  obtain ⟨hb0, hX, hY⟩ := boxes2 w 26 30 #[.slice A1 n1 c1, .slice A2 n2 c2, .slice A3 n3 c3] #[.slice A4 n4 c4, .slice A5 n5 c5]
  have hS1 := hS.belowS hb0
  have HSM := Lib.hid (small_any hS1)
  have HfD := Lib.hid hf
  have HfM := Lib.hid hm
  have HS0 := Lib.hid hS
  have HQ0 := Lib.hid hQ
  clear hS hf hm hQ
  go_enter Try.func3, Try.ntmps3
  go_wp2_with fail
  generalize (w.alloc (.cells #[.slice A1 n1 c1, .slice A2 n2 c2, .slice A3 n3 c3] 26)).alloc (.cells #[.slice A4 n4 c4, .slice A5 n5 c5] 30) = w1 at hb0 hX hY hS1 HSM ⊢
  refine HSM.out.mono ?_
  rintro e w2 ⟨rfl, hb2⟩
  have hX2 := hX.below hb2 hX.lt
  have hY2 := hY.below hb2 hY.lt
  have x0 : w2.cell? ⟨w.heap.size, 0, none⟩ = some (.slice A1 n1 c1) := hX2.cell 0
  have x1 : w2.cell? ⟨w.heap.size, 1, none⟩ = some (.slice A2 n2 c2) := hX2.cell 1
  have x2 : w2.cell? ⟨w.heap.size, 2, none⟩ = some (.slice A3 n3 c3) := hX2.cell 2
  have f0 := hX2.free 0
  have f1 := hX2.free 1
  have f2 := hX2.free 2
  have hX3 := ((hX2.set_ 0 (.slice A1 (min n1 6) c1)).set_ 1 (.slice A2 (min n2 6) c2)).set_ 2 (.slice A3 (min n3 9) c3)
  have hY3 := ((hY2.elsewhere w.heap.size 0 (.slice A1 (min n1 6) c1) (by omega)).elsewhere w.heap.size 1 (.slice A2 (min n2 6) c2) (by omega)).elsewhere w.heap.size 2 (.slice A3 (min n3 9) c3) (by omega)
  have hB3 := (((hb0.trans (hb2.mono hb0.size)).setCell (p := ⟨w.heap.size, 0, none⟩) (Nat.le_refl _) (.slice A1 (min n1 6) c1)).setCell (p := ⟨w.heap.size, 1, none⟩) (Nat.le_refl _) (.slice A2 (min n2 6) c2)).setCell (p := ⟨w.heap.size, 2, none⟩) (Nat.le_refl _) (.slice A3 (min n3 9) c3)
  obtain ⟨N1, hN1⟩ : ∃ N1, min n1 6 = N1 := ⟨_, rfl⟩
  obtain ⟨N2, hN2⟩ : ∃ N2, min n2 6 = N2 := ⟨_, rfl⟩
  obtain ⟨N3, hN3⟩ : ∃ N3, min n3 9 = N3 := ⟨_, rfl⟩
  have l1 : N1 ≤ 1000 := by omega
  have l3 : N3 ≤ 1000 := by omega
  rw [hN1, hN2, hN3] at hX3 hY3 hB3
  rw [hN1, hN2, hN3]
  have hSt := Lib.hid (show HasS w w.heap.size A1 N1 c1 A2 N2 c2 A3 N3 c3 (D.take 6) (M.take 6) (V.take 9) from by
    rw [← hN1, ← hN2, ← hN3]
    exact ⟨HS0.out.d.take9 6, HS0.out.m.take9 6, HS0.out.v.take9 9⟩)
  have HfD6 : Hid (FitD (D.take 6)) := Lib.hid fun d hd => HfD.out d (List.mem_of_mem_take hd)
  have HfM6 : Hid (∀ s ∈ M.take 6, s.length ≤ maxLen) := Lib.hid fun s hs => HfM.out s (List.mem_of_mem_take hs)
  clear HSM hX hY hS1 hb0 hb2 hX2 hY2 hN1 hN2 hN3 HfD HfM HS0
  generalize D.take 6 = D' at hSt HfD6
  generalize M.take 6 = M' at hSt HfM6
  generalize V.take 9 = V' at hSt
  go_upto_region 2 with fail
  clear x0 x1 x2 f0 f1 f2
  generalize ((w2.setCell ⟨w.heap.size, 0, none⟩ (.slice A1 N1 c1)).setCell ⟨w.heap.size, 1, none⟩ (.slice A2 N2 c2)).setCell ⟨w.heap.size, 2, none⟩ (.slice A3 N3 c3) = w3 at hX3 hY3 hB3 ⊢
  have y0 : w3.cell? ⟨w.heap.size + 1, 0, none⟩ = some (.slice A4 n4 c4) := hY3.cell 0
  have y1 : w3.cell? ⟨w.heap.size + 1, 1, none⟩ = some (.slice A5 n5 c5) := hY3.cell 1
  have HFW := Lib.hid (fewQ_any (HQ0.out.mv (S' := fun b => b < w.heap.size) (Mv.below hB3 fun _ h => h)))
  go_wp2_with fail
  refine HFW.out.mono ?_
  rintro e w4 ⟨B4, m4, d4, B5, m5, d5, rfl, hQ4, hb4⟩
  have hX4 := hX3.below hb4 hX3.lt
  have hY4 := hY3.below hb4 hY3.lt
  have hzb := hY3.lt
  have hsh := fewQ_short q
  generalize fewQ q = q' at hQ4 hsh
  have y0 : w4.cell? ⟨w.heap.size + 1, 0, none⟩ = some (.slice A4 n4 c4) := hY4.cell 0
  have y1 : w4.cell? ⟨w.heap.size + 1, 1, none⟩ = some (.slice A5 n5 c5) := hY4.cell 1
  have f0 := hY4.free 0
  have f1 := hY4.free 1
  have hns : ¬ ((w.heap.size + 1 < w.heap.size ∧ w.heap.size + 1 < w3.heap.size) ∨ (w3.heap.size ≤ w.heap.size + 1 ∧ w.heap.size + 1 < w4.heap.size)) := by omega
  have hQ5 : HasQ ((w4.setCell ⟨w.heap.size + 1, 0, none⟩ (.slice B4 m4 d4)).setCell ⟨w.heap.size + 1, 1, none⟩ (.slice B5 m5 d5)) (fun b => b < w.heap.size ∨ w.heap.size + 1 < b) B4 m4 d4 B5 m5 d5 q' := hQ4.mv ((Mv.set w4 (w.heap.size + 1) 0 (.slice B4 m4 d4) hns).trans ((Mv.set _ (w.heap.size + 1) 1 (.slice B5 m5 d5) hns).trans (Mv.to _ fun b hb _ => by omega)))
  have hX5 := (hX4.elsewhere (w.heap.size + 1) 0 (.slice B4 m4 d4) (by omega)).elsewhere (w.heap.size + 1) 1 (.slice B5 m5 d5) (by omega)
  have hY5 := (hY4.set_ 0 (.slice B4 m4 d4)).set_ 1 (.slice B5 m5 d5)
  have hB5 := ((hB3.trans (hb4.mono hB3.size)).setCell (p := ⟨w.heap.size + 1, 0, none⟩) (Nat.le_succ _) (.slice B4 m4 d4)).setCell (p := ⟨w.heap.size + 1, 1, none⟩) (Nat.le_succ _) (.slice B5 m5 d5)
  have hm4 : m4 ≤ 6 := by have h1 := hQ4.g.len; have h2 := hsh.1; omega
  clear HFW hQ4 hX3 hY3 hB3 hb4 hX4 hY4 hns hzb
  go_upto_region 3 with fail
  clear y0 y1 f0 f1
  generalize (w4.setCell ⟨w.heap.size + 1, 0, none⟩ (.slice B4 m4 d4)).setCell ⟨w.heap.size + 1, 1, none⟩ (.slice B5 m5 d5) = w5 at hQ5 hX5 hY5 hB5 ⊢
  have hS5 := (hSt.out.below hB5 (Nat.le_refl _)).more hB5.size
  clear hSt
  have HR := Lib.hid (refMayQ_any hS5 l1 l3 hQ5)
  obtain ⟨x, hx⟩ : ∃ x, Hid (mayQ D' M' V' q' = x) := ⟨_, Lib.hid rfl⟩
  rw [hx.out] at HR
  have x0 : w5.cell? ⟨w.heap.size, 0, none⟩ = some (.slice A1 N1 c1) := hX5.cell 0
  have x1 : w5.cell? ⟨w.heap.size, 1, none⟩ = some (.slice A2 N2 c2) := hX5.cell 1
  have x2 : w5.cell? ⟨w.heap.size, 2, none⟩ = some (.slice A3 N3 c3) := hX5.cell 2
  have y0 : w5.cell? ⟨w.heap.size + 1, 0, none⟩ = some (.slice B4 m4 d4) := hY5.cell 0
  have y1 : w5.cell? ⟨w.heap.size + 1, 1, none⟩ = some (.slice B5 m5 d5) := hY5.cell 1
  go_wp2_with fail
  refine HR.out.mono ?_
  rintro e w6 ⟨rfl, hb6⟩
  have hX6 := hX5.below hb6 hX5.lt
  have hY6 := hY5.below hb6 hY5.lt
  have hS6 := hS5.belowS hb6
  have hQ6 := hQ5.belowS hb6
  have hB6 := hB5.trans (hb6.mono hB5.size)
  have HN := Lib.hid (need_any hS6 HfD6.out HfM6.out l1 hQ6)
  rw [hx.out] at HN
  clear HR hX5 hY5 hS5 hQ5 hb6 hB5
  clear x0 x1 x2 y0 y1
  have x0 : w6.cell? ⟨w.heap.size, 0, none⟩ = some (.slice A1 N1 c1) := hX6.cell 0
  have x1 : w6.cell? ⟨w.heap.size, 1, none⟩ = some (.slice A2 N2 c2) := hX6.cell 1
  have x2 : w6.cell? ⟨w.heap.size, 2, none⟩ = some (.slice A3 N3 c3) := hX6.cell 2
  have y0 : w6.cell? ⟨w.heap.size + 1, 0, none⟩ = some (.slice B4 m4 d4) := hY6.cell 0
  have y1 : w6.cell? ⟨w.heap.size + 1, 1, none⟩ = some (.slice B5 m5 d5) := hY6.cell 1
  go_wp2_with fail
  refine HN.out.mono ?_
  rintro e w7 ⟨v7, rfl, hO7, hb7⟩
  have hX7 := hX6.below hb7 hX6.lt
  have hY7 := hY6.below hb7 hY6.lt
  have hS7 := hS6.belowS hb7
  have hQ7 := hQ6.belowS hb7
  have hB7 := hB6.trans (hb7.mono hB6.size)
  have HM := Lib.hid (mayQry_any hS7 HfD6.out HfM6.out l1 hQ7)
  rw [hx.out] at HM
  clear HN hX6 hY6 hS6 hQ6 hb7 hB6
  clear x0 x1 x2 y0 y1
  have x0 : w7.cell? ⟨w.heap.size, 0, none⟩ = some (.slice A1 N1 c1) := hX7.cell 0
  have x1 : w7.cell? ⟨w.heap.size, 1, none⟩ = some (.slice A2 N2 c2) := hX7.cell 1
  have x2 : w7.cell? ⟨w.heap.size, 2, none⟩ = some (.slice A3 N3 c3) := hX7.cell 2
  have y0 : w7.cell? ⟨w.heap.size + 1, 0, none⟩ = some (.slice B4 m4 d4) := hY7.cell 0
  have y1 : w7.cell? ⟨w.heap.size + 1, 1, none⟩ = some (.slice B5 m5 d5) := hY7.cell 1
  have hxx : ((x : Int) != (x : Int)) = false := by simp
  by_cases hx0 : x = 0
  · subst hx0
    have HND : Hid (needA D' M' V' q' = needQ q') := Lib.hid (if_pos hx.out)
    rw [HND.out] at hO7
    obtain ⟨An, nn, cn, rfl, _⟩ := hO7.formN
    go_wp2_with fail
    refine HM.out.mono ?_
    rintro e w8 ⟨rfl, hb8⟩
    have hY8 := hY7.below hb8 hY7.lt
    have hQ8 := hQ7.belowS hb8
    have hB8 := hB7.trans (hb8.mono hB7.size)
    have hO8 := hO7.below hb8 (Nat.le_refl _)
    have HRN := Lib.hid (refNeedQ_any hQ8 (by omega))
    clear HM hX7 hY7 hS7 hQ7 hb8 hB7 hO7 hxx
    clear x0 x1 x2 y0 y1
    have y0 : w8.cell? ⟨w.heap.size + 1, 0, none⟩ = some (.slice B4 m4 d4) := hY8.cell 0
    have y1 : w8.cell? ⟨w.heap.size + 1, 1, none⟩ = some (.slice B5 m5 d5) := hY8.cell 1
    go_wp2_with fail
    refine HRN.out.mono ?_
    rintro e w9 ⟨⟨v9, rfl, hO9⟩, hb9⟩
    obtain ⟨Am, nm, cm, rfl, _⟩ := hO9.formN
    have hB9 := hB8.trans (hb9.mono hB8.size)
    have HSm := Lib.hid (sameI_any (hO8.below hb9 (Nat.le_refl _)).has hO9.has)
    rw [decide_eq_true rfl] at HSm
    clear HRN hY8 hQ8 hb9 hB8 hO8 hO9 y0 y1
    go_wp2_with fail
    refine HSm.out.mono ?_
    rintro e w10 ⟨rfl, t10, rfl⟩
    have hB10 := below_drewN hB9 t10
    clear HSm hB9
    go_wp2_with fail
    refine (qryLives_any _).mono ?_
    rintro e vz ⟨rfl, hbz⟩
    have HF := Lib.hid (hB10.trans (hbz.mono hB10.size))
    clear hbz hB10
    go_wp2_with fail
    go_ret
    exact ⟨rfl, HF.out⟩
  · have hx1 : ((x : Int) != 0) = true := by simp; omega
    have HND : Hid (needA D' M' V' q' = []) := Lib.hid (if_neg (by rw [hx.out]; exact hx0))
    rw [HND.out] at hO7
    obtain ⟨An, cn, rfl, _⟩ := hO7.form
    clear hx0 hO7
    go_wp2_with fail
    refine HM.out.mono ?_
    rintro e w8 ⟨rfl, hb8⟩
    have hB8 := hB7.trans (hb8.mono hB7.size)
    clear HM hX7 hY7 hS7 hQ7 hb8 hB7
    clear x0 x1 x2 y0 y1
    go_wp2_with fail
    refine (qryLives_any _).mono ?_
    rintro e vz ⟨rfl, hbz⟩
    have HF := Lib.hid (hB8.trans (hbz.mono hB8.size))
    clear hbz hB8
    go_wp2_with fail
    go_ret
    exact ⟨rfl, HF.out⟩

set_option maxRecDepth 100000 in
theorem lifted (os : Os) (started : os.Started) (H : Type) (enc : TypeId × Value → H) :
    ReturnsInHanded {} Try.checked os 3 .any (Rows.queryMaySpec.pre6 enc Try.prog Try.f3 Rows.queryMayRow.domain false) (Rows.queryMaySpec.post enc Try.prog Try.f3 false true false false) := by
  refine returnsInHanded_of_change (C := Try.checked) own started (by kernel_rfl) Try.func3
    (ChangeSpec.witness6 (enc := enc) (C := Try.checked) false ⟨#[], #[.agg #[.slice none 0 0, .slice none 0 0, .slice none 0 0], .agg #[.slice none 0 0, .slice none 0 0]], []⟩ 8 (by kernel_rfl) (by kernel_rfl) (by kernel_rfl) (by kernel_rfl)) ?_
  intro W base args ds gs before hval0 hW hcnd _
  have hval : ∀ (j : Nat) t v, Try.f3.params[j]? = some t → args[j]? = some v → Value.okWide Try.prog W .any base t v := hval0
  have hW' := hW
  obtain ⟨p, q, hA0, hV, rfl, hfz, hnd⟩ := hW
  have hA : DataW.TrodAll enc Try.prog W 0 (fun _ => true) true Try.f3.params.toList args.toList ds p := hA0
  rw [Try.params3] at hA hval
  obtain ⟨v0, vs0, d0, ds0, p0, q0, hargs, rfl, rfl, h0, r0⟩ := trodAll_cons hA
  obtain ⟨v1, vs1, d1, ds1, p1, q1, rfl, rfl, rfl, h1, r1⟩ := trodAll_cons r0
  obtain ⟨rfl, rfl, rfl⟩ := trodAll_nil r1
  obtain rfl : args = #[v0, v1] := by cases args; simp_all
  obtain ⟨rfl, rfl⟩ := trodVars_none hV
  obtain ⟨cs0, rfl, hsz0⟩ := okWide_struct Try.underlying26 (hval 0 26 v0 rfl rfl)
  have k0 := h0
  have lt0 : ∀ x ∈ p0, x.block < W.heap.size := by obtain ⟨m, hm⟩ := k0; exact DataW.trod_lt m _ _ _ hm
  have w0 : RC Try.prog W 26 cs0.toList := by
    obtain ⟨fuel, hf⟩ := h0
    exact ⟨_, _, _, _, _, fuel, _, by simpa [Value.cells] using hf⟩
  obtain ⟨cs1, rfl, hsz1⟩ := okWide_struct Try.underlying30 (hval 1 30 v1 rfl rfl)
  have k1 := h1
  have lt1 : ∀ x ∈ p1, x.block < W.heap.size := by obtain ⟨m, hm⟩ := k1; exact DataW.trod_lt m _ _ _ hm
  have w1 : RC Try.prog W 30 cs1.toList := by
    obtain ⟨fuel, hf⟩ := h1
    exact ⟨_, _, _, _, _, fuel, _, by simpa [Value.cells] using hf⟩
  clear hA0 hval0
  refine (walk cs0 cs1 W w0 w1).mono fun e W' ⟨he, bel⟩ => ?_
  subst he
  exact ⟨_, rfl, _, _, _, [], _, [], hW', trodAll_mk1 (shut_bool Try.underlying4 _), (trodAll_cons_mk (Below.trod laidOut (by kernel_rfl) (of_decide_eq_true (by kernel_rfl)) k0 bel lt0) (trodAll_cons_mk (Below.trod laidOut (by kernel_rfl) (of_decide_eq_true (by kernel_rfl)) k1 bel lt1) trodAll_mk0)), rfl, bel.frame _, fun h => by cases h⟩

theorem over : Rows.queryMayRow.holds Try.pinned (OpenSpec.ofChange Rows.queryMaySpec) :=
  OpenClaim.holds_of_wide 3 Try.f3 rfl rfl rfl rfl rfl rfl rfl ⟨rfl, rfl, rfl, rfl, rfl⟩ rfl rfl rfl rfl rfl (by kernel_rfl) Try.func3 (by kernel_rfl)
    (of_decide_eq_true (by kernel_rfl)) (by unfold Func.isWrapper; first | (rw [if_pos (by decide +kernel)]; kernel_rfl) | (rw [if_neg (by decide +kernel)]; exact ⟨rfl, rfl⟩))
    (fun os started H enc _ => lifted os started H enc)

theorem proved : Rows.QueryMaySaid := over
end Go.Proofs.Ytmcccpbpijnbmaa.queryMay
