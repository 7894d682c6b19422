/-
  Proved: whatever schema (at most 6 Dims, 9 Views, 6 Measures) and whatever query (a Group of at most 6, at most 5 Filters of at most 8 Members of 5 names): what query.Put puts, query.Read reads again, whole; what it refuses, query.May refuses too, and then no bytes come; the examples of the document hold, and nothing that was handed in changes. No condition.
-/
import Derived.Test.YtmcccpbpijnbmaaDoorJ1
import Derived.Test.YtmcccpbpijnbmaaDoorJ18
import Derived.Test.YtmcccpbpijnbmaaDoorJ28
import Derived.Test.YtmcccpbpijnbmaaDoorJ32
import Derived.Test.YtmcccpbpijnbmaaDoorJ36
import Derived.Test.YtmcccpbpijnbmaaDoorJ39
import Derived.Test.YtmcccpbpijnbmaaDoorJ40
import Derived.Below
import Derived.ChangeOld
import Derived.LaidMore
import Derived.Lay
import Derived.OpenShut
import Derived.ProofKit
import Derived.SevenTiedAt
import Derived.ShutString
import Derived.Stop.Joined
import Derived.Test.YtmcccpbpijnbmaaDoorCards
import Derived.Test.YtmcccpbpijnbmaaDoorTie
import Derived.WalkKit
namespace Go.Proofs.YtmcccpbpijnbmaaDoor.queryRound
open Go.ChangeShapes Go.WideShapes Go.ChangeAt Go.RowKit
open Go.ChangeMaps (open_string shut_string)
set_option linter.unusedVariables false

theorem own : ownKnob Tryd.prog.godebug = none := by kernel_rfl
theorem laidOut : laidOutB Tryd.prog = true := by kernel_rfl

def IsRow (k : IntKind) (w : World) (a : Option Addr) (len cap : Nat) (zs : List Int) : Prop :=
  (a = none ∧ len = 0 ∧ cap = 0 ∧ zs = []) ∨
  ∃ x, a = some x ∧ len ≤ cap ∧ cap ≤ maxLen ∧ zs.length = cap ∧ (∀ i, i < zs.length → w.cell? (x.add i) = some (.int k (zs.getD i 0))) ∧ ∀ n ∈ zs, (Lit.int k n).wf = true

set_option maxRecDepth 100000 in
set_option maxHeartbeats 2000000 in
theorem walk (cs0 : Array Value) (cs1 : Array Value) (w : World) (w0 : RC Tryd.prog w 44 cs0.toList) (w1 : RC Tryd.prog w 32 cs1.toList) :
    Calls Tryd.prog 4 #[.agg cs0, .agg cs1] w fun e w' => e = .returned (.bool true) ∧ Below w.heap.size w w' := by
  obtain ⟨A1, n1, c1, A2, n2, c2, A3, n3, c3, D, M, V, es, hS, hf, hm⟩ := schema_of w0
  obtain rfl : cs0 = #[.slice A1 n1 c1, .slice A2 n2 c2, .slice A3 n3 c3] := by rw [← Array.toArray_toList (xs := cs0), es]
  obtain ⟨A4, n4, c4, A5, n5, c5, q, eq, hQ, _⟩ := query_of w1
  obtain rfl : cs1 = #[.slice A4 n4 c4, .slice A5 n5 c5] := by rw [← Array.toArray_toList (xs := cs1), eq]
  clear w0 es w1 eq
  obtain ⟨hb0, hX, hY⟩ := boxes2 w 44 32 #[.slice A1 n1 c1, .slice A2 n2 c2, .slice A3 n3 c3] #[.slice A4 n4 c4, .slice A5 n5 c5]
  have hS1 := hS.belowS hb0
  have HSM := Lib.hid (small_any hS1)
  have HfD := Lib.hid hf
  have HfM := Lib.hid hm
  have HS0 := Lib.hid hS
  have HQ0 := Lib.hid hQ
  clear hS hf hm hQ
  go_enter Tryd.func4, Tryd.ntmps4
  go_wp2_with fail
  generalize (w.alloc (.cells #[.slice A1 n1 c1, .slice A2 n2 c2, .slice A3 n3 c3] 44)).alloc (.cells #[.slice A4 n4 c4, .slice A5 n5 c5] 32) = w1 at hb0 hX hY hS1 HSM ⊢
  refine HSM.out.mono ?_
  rintro e w2 ⟨rfl, hb2⟩
  have hX2 := hX.below hb2 hX.lt
  have hY2 := hY.below hb2 hY.lt
  have x0 : w2.cell? ⟨w.heap.size, 0, none⟩ = some (.slice A1 n1 c1) := hX2.cell 0
  have x1 : w2.cell? ⟨w.heap.size, 1, none⟩ = some (.slice A2 n2 c2) := hX2.cell 1
  have x2 : w2.cell? ⟨w.heap.size, 2, none⟩ = some (.slice A3 n3 c3) := hX2.cell 2
  have f0 := hX2.free 0
  have f1 := hX2.free 1
  have f2 := hX2.free 2
  have hX3 := ((hX2.set_ 0 (.slice A1 (min n1 6) c1)).set_ 1 (.slice A2 (min n2 6) c2)).set_ 2 (.slice A3 (min n3 9) c3)
  have hY3 := ((hY2.elsewhere w.heap.size 0 (.slice A1 (min n1 6) c1) (by omega)).elsewhere w.heap.size 1 (.slice A2 (min n2 6) c2) (by omega)).elsewhere w.heap.size 2 (.slice A3 (min n3 9) c3) (by omega)
  have hB3 := (((hb0.trans (hb2.mono hb0.size)).setCell (p := ⟨w.heap.size, 0, none⟩) (Nat.le_refl _) (.slice A1 (min n1 6) c1)).setCell (p := ⟨w.heap.size, 1, none⟩) (Nat.le_refl _) (.slice A2 (min n2 6) c2)).setCell (p := ⟨w.heap.size, 2, none⟩) (Nat.le_refl _) (.slice A3 (min n3 9) c3)
  obtain ⟨N1, hN1⟩ : ∃ N1, min n1 6 = N1 := ⟨_, rfl⟩
  obtain ⟨N2, hN2⟩ : ∃ N2, min n2 6 = N2 := ⟨_, rfl⟩
  obtain ⟨N3, hN3⟩ : ∃ N3, min n3 9 = N3 := ⟨_, rfl⟩
  have l1 : N1 ≤ 1000 := by omega
  have l3 : N3 ≤ 1000 := by omega
  rw [hN1, hN2, hN3] at hX3 hY3 hB3
  rw [hN1, hN2, hN3]
  have hSt := Lib.hid (show HasS w w.heap.size A1 N1 c1 A2 N2 c2 A3 N3 c3 (D.take 6) (M.take 6) (V.take 9) from by
    rw [← hN1, ← hN2, ← hN3]
    exact ⟨HS0.out.d.take9 6, HS0.out.m.take9 6, HS0.out.v.take9 9⟩)
  have HfD6 : Hid (FitD (D.take 6)) := Lib.hid fun d hd => HfD.out d (List.mem_of_mem_take hd)
  have HfM6 : Hid (∀ s ∈ M.take 6, s.length ≤ maxLen) := Lib.hid fun s hs => HfM.out s (List.mem_of_mem_take hs)
  clear HSM hX hY hS1 hb0 hb2 hX2 hY2 hN1 hN2 hN3 HfD HfM HS0
  generalize D.take 6 = D' at hSt HfD6
  generalize M.take 6 = M' at hSt HfM6
  generalize V.take 9 = V' at hSt
  go_upto_region 2 with fail
  clear x0 x1 x2 f0 f1 f2
  generalize ((w2.setCell ⟨w.heap.size, 0, none⟩ (.slice A1 N1 c1)).setCell ⟨w.heap.size, 1, none⟩ (.slice A2 N2 c2)).setCell ⟨w.heap.size, 2, none⟩ (.slice A3 N3 c3) = w3 at hX3 hY3 hB3 ⊢
  have y0 : w3.cell? ⟨w.heap.size + 1, 0, none⟩ = some (.slice A4 n4 c4) := hY3.cell 0
  have y1 : w3.cell? ⟨w.heap.size + 1, 1, none⟩ = some (.slice A5 n5 c5) := hY3.cell 1
  have HFW := Lib.hid (fewQ_any (HQ0.out.mv (S' := fun b => b < w.heap.size) (Mv.below hB3 fun _ h => h)))
  go_wp2_with fail
  refine HFW.out.mono ?_
  rintro e w4 ⟨B4, m4, d4, B5, m5, d5, rfl, hQ4, hb4⟩
  have hX4 := hX3.below hb4 hX3.lt
  have hY4 := hY3.below hb4 hY3.lt
  have hzb := hY3.lt
  have hsh := fewQ_short q
  generalize fewQ q = q' at hQ4 hsh
  have y0 : w4.cell? ⟨w.heap.size + 1, 0, none⟩ = some (.slice A4 n4 c4) := hY4.cell 0
  have y1 : w4.cell? ⟨w.heap.size + 1, 1, none⟩ = some (.slice A5 n5 c5) := hY4.cell 1
  have f0 := hY4.free 0
  have f1 := hY4.free 1
  have hns : ¬ ((w.heap.size + 1 < w.heap.size ∧ w.heap.size + 1 < w3.heap.size) ∨ (w3.heap.size ≤ w.heap.size + 1 ∧ w.heap.size + 1 < w4.heap.size)) := by omega
  have hQ5 : HasQ ((w4.setCell ⟨w.heap.size + 1, 0, none⟩ (.slice B4 m4 d4)).setCell ⟨w.heap.size + 1, 1, none⟩ (.slice B5 m5 d5)) (fun b => b < w.heap.size ∨ w.heap.size + 1 < b) B4 m4 d4 B5 m5 d5 q' := hQ4.mv ((Mv.set w4 (w.heap.size + 1) 0 (.slice B4 m4 d4) hns).trans ((Mv.set _ (w.heap.size + 1) 1 (.slice B5 m5 d5) hns).trans (Mv.to _ fun b hb _ => by omega)))
  have hX5 := (hX4.elsewhere (w.heap.size + 1) 0 (.slice B4 m4 d4) (by omega)).elsewhere (w.heap.size + 1) 1 (.slice B5 m5 d5) (by omega)
  have hY5 := (hY4.set_ 0 (.slice B4 m4 d4)).set_ 1 (.slice B5 m5 d5)
  have hB5 := ((hB3.trans (hb4.mono hB3.size)).setCell (p := ⟨w.heap.size + 1, 0, none⟩) (Nat.le_succ _) (.slice B4 m4 d4)).setCell (p := ⟨w.heap.size + 1, 1, none⟩) (Nat.le_succ _) (.slice B5 m5 d5)
  have hm4 : m4 ≤ 6 := by have h1 := hQ4.g.len; have h2 := hsh.1; omega
  clear HFW hQ4 hX3 hY3 hB3 hb4 hX4 hY4 hns hzb
  go_upto_region 3 with fail
  clear y0 y1 f0 f1
  generalize (w4.setCell ⟨w.heap.size + 1, 0, none⟩ (.slice B4 m4 d4)).setCell ⟨w.heap.size + 1, 1, none⟩ (.slice B5 m5 d5) = w5 at hQ5 hX5 hY5 hB5 ⊢
  have hS5 := (hSt.out.below hB5 (Nat.le_refl _)).more hB5.size
  clear hSt
  have HP := Lib.hid (putQry_any (B := none) (m := 0) (d := 0) (l := []) hQ5 ⟨rfl, Nat.le_refl _, Nat.zero_le _, fun _ => rfl, Has.nil_⟩ (by decide))
  have y0 : w5.cell? ⟨w.heap.size + 1, 0, none⟩ = some (.slice B4 m4 d4) := hY5.cell 0
  have y1 : w5.cell? ⟨w.heap.size + 1, 1, none⟩ = some (.slice B5 m5 d5) := hY5.cell 1
  go_wp2_with fail
  refine HP.out.mono ?_
  rintro e w6 ⟨v6, rfl, hO6, hb6⟩
  have hX6 := hX5.below hb6 hX5.lt
  have hY6 := hY5.below hb6 hY5.lt
  have hS6 := hS5.belowS hb6
  have hQ6 := hQ5.belowS hb6
  have hB6 := hB5.trans (hb6.mono hB5.size)
  have hz5 := hB5.size
  clear HP hX5 hY5 hS5 hQ5 hB5 y0 y1
  by_cases hp : plainQ q'
  · have h0 : putQE q' = 0 := if_pos hp
    have HLN := Lib.hid (encQ_len hp)
    have HRB := rdQ_back hp [] []
    rw [putQ_yes hp] at hO6
    simp only [List.nil_append, List.append_nil, List.length_nil, Nat.zero_add] at HRB hO6
    obtain ⟨bb, hbb⟩ : ∃ bb, Hid (encQ q' = bb) := ⟨_, Lib.hid rfl⟩
    rw [hbb.out] at HLN HRB hO6
    have HRB := Lib.hid HRB
    rw [h0]
    obtain ⟨A6, c6, rfl, hH6, _⟩ := hO6.form
    obtain ⟨nb, hnb⟩ : ∃ nb, Hid (bb.length = nb) := ⟨_, Lib.hid rfl⟩
    rw [hnb.out] at HLN HRB hH6 hO6 ⊢
    have HN := Lib.hid (wireNew_any _ _ _ _ _ (hH6.below (Below.refl _ _) (Nat.le_refl _)) (by have := HLN.out; omega))
    clear hH6 hO6 hp h0 hbb hX6 hS6
    go_wp2_with fail
    refine HN.out.mono ?_
    rintro e w7 ⟨g, A7, c7, rfl, hr7, hwg, hb7⟩
    have hY7 := hY6.below hb7 hY6.lt
    have hQ7 := (hQ6.mv (S' := fun b => b < w6.heap.size) (Mv.to w6 fun b _ hl => hl)).belowS hb7
    have hyl := hY6.lt
    have hB7 := hB6.trans (hb7.mono hB6.size)
    have HRd := readQ_any hr7
    rw [HRB.out] at HRd
    have HRd := Lib.hid HRd
    have hg7 := hr7.lt
    have hz6 := hB6.size
    clear HN hb7 hY6 hQ6 hB6 hr7 hb6
    go_wp2_with fail
    refine HRd.out.mono ?_
    rintro e w8 ⟨E1, k1, f1, E2, k2, f2, rfl, hP8, hr8, hG8⟩
    have hY8 := hY7.grown hG8 (fun k => by injection k with k; omega)
    have hQ8 := hQ7.mv (Mv.grown hG8 (fun b hb e => by injection e with e; have hb : b < w6.heap.size := hb; omega))
    have hB8 := hB7.trans (below_gr hG8 (by omega) hB7.size)
    have hbx := below_a1 w8 (.cells #[.slice E1 k1 f1, .slice E2 k2 f2] 32)
    have hX9 := Block.new w8 32 #[.slice E1 k1 f1, .slice E2 k2 f2]
    have hY9 := hY8.below hbx hY8.lt
    have hQ9 := hQ8.belowS hbx
    have hP9 := hP8.belowS hbx
    have hr9 := hr8.below hbx hr8.lt
    have hB9 := hB8.alloc hB8.size (.cells #[.slice E1 k1 f1, .slice E2 k2 f2] 32)
    have x0 : (w8.alloc (.cells #[.slice E1 k1 f1, .slice E2 k2 f2] 32)).cell? ⟨w8.heap.size, 0, none⟩ = some (.slice E1 k1 f1) := hX9.cell 0
    have x1 : (w8.alloc (.cells #[.slice E1 k1 f1, .slice E2 k2 f2] 32)).cell? ⟨w8.heap.size, 1, none⟩ = some (.slice E2 k2 f2) := hX9.cell 1
    have y0 : (w8.alloc (.cells #[.slice E1 k1 f1, .slice E2 k2 f2] 32)).cell? ⟨w.heap.size + 1, 0, none⟩ = some (.slice B4 m4 d4) := hY9.cell 0
    have y1 : (w8.alloc (.cells #[.slice E1 k1 f1, .slice E2 k2 f2] 32)).cell? ⟨w.heap.size + 1, 1, none⟩ = some (.slice B5 m5 d5) := hY9.cell 1
    have HSM := Lib.hid (sameQ_yes hP9 hQ9)
    clear HRd hP8 hr8 hG8 hY8 hQ8 hB8 hbx hY7 hQ7 hB7 hX9 hY9 hQ9 hP9
    go_wp2_with fail
    generalize w8.alloc (.cells #[.slice E1 k1 f1, .slice E2 k2 f2] 32) = w9 at *
    refine HSM.out.mono ?_
    rintro e wa ⟨rfl, hba⟩
    have hra := hr9.below hba hr9.lt
    have hBa := hB9.trans (hba.mono hB9.size)
    have HE := end_any _ _ _ _ _ _ _ _ hra
    rw [show endE nb nb 0 = 0 from by unfold endE; simp] at HE
    have HE := Lib.hid HE
    clear HSM hr9 hB9 hba hra x0 x1 y0 y1
    go_wp2_with fail
    refine HE.out.mono ?_
    rintro e wb ⟨rfl, kb, rfl⟩
    have hBb := below_drewN hBa kb
    clear HE hBa
    go_wp2_with fail
    refine (qryLives_any _).mono ?_
    rintro e vz ⟨rfl, hbz⟩
    have HF := Lib.hid (hBb.trans (hbz.mono hBb.size))
    clear hbz hBb
    go_wp2_with fail
    go_ret
    exact ⟨rfl, HF.out⟩
  · have HPB := Lib.hid (putQ_no (b := []) hp)
    rw [HPB.out] at hO6
    have h0 : putQE q' = 16 := if_neg hp
    rw [h0]
    obtain ⟨A6, c6, rfl, _⟩ := hO6.form
    have HM := mayQry_any hS6 HfD6.out HfM6.out l1 hQ6
    have hmx : mayQ D' M' V' q' ≠ 0 := fun e => hp (mayQ_plain e).2.2
    obtain ⟨x, hx⟩ : ∃ x, mayQ D' M' V' q' = x := ⟨_, rfl⟩
    rw [hx] at HM hmx
    have HM := Lib.hid HM
    have hx1 : ((x : Int) != 0) = true := by simp; omega
    clear hO6 hp h0 hx hmx hS6 hQ6
    have x0 : w6.cell? ⟨w.heap.size, 0, none⟩ = some (.slice A1 N1 c1) := hX6.cell 0
    have x1 : w6.cell? ⟨w.heap.size, 1, none⟩ = some (.slice A2 N2 c2) := hX6.cell 1
    have x2 : w6.cell? ⟨w.heap.size, 2, none⟩ = some (.slice A3 N3 c3) := hX6.cell 2
    have y0 : w6.cell? ⟨w.heap.size + 1, 0, none⟩ = some (.slice B4 m4 d4) := hY6.cell 0
    have y1 : w6.cell? ⟨w.heap.size + 1, 1, none⟩ = some (.slice B5 m5 d5) := hY6.cell 1
    clear hX6 hY6
    go_wp2_with fail
    refine HM.out.mono ?_
    rintro e w7 ⟨rfl, hb7⟩
    have hB7 := hB6.trans (hb7.mono hB6.size)
    clear HM hb7 hB6 hb6 x0 x1 x2 y0 y1
    go_wp2_with fail
    refine (qryLives_any _).mono ?_
    rintro e vz ⟨rfl, hbz⟩
    have HF := Lib.hid (hB7.trans (hbz.mono hB7.size))
    clear hbz hB7
    go_wp2_with fail
    go_ret
    exact ⟨rfl, HF.out⟩

set_option maxRecDepth 100000 in
theorem lifted (os : Os) (started : os.Started) (H : Type) (enc : TypeId × Value → H) :
    ReturnsInHanded {} Tryd.checked os 4 .any (fun w args => (Rows.queryRoundSpec.pre enc Tryd.prog Tryd.f4 Rows.queryRoundRow.domain false w args ∧ laidMetH Tryd.prog Rows.queryRoundRow.laid w) ∧ sizedMet enc Tryd.prog Tryd.f4 (OpenSpec.ofChange Rows.queryRoundSpec) false w args) (Rows.queryRoundSpec.post enc Tryd.prog Tryd.f4 false true false false) := by
  refine returnsInHanded_of_change_and (C := Tryd.checked) (X := fun w _ => laidMetH Tryd.prog Rows.queryRoundRow.laid w) (fun _ _ _ hh h => h.of_heap hh) own started (by kernel_rfl) Tryd.func4
    (ChangeSpec.witness_shaped (enc := enc) (C := Tryd.checked) (os := os) (X := fun w _ => laidMetH Tryd.prog Rows.queryRoundRow.laid w) false (World.laidAll Tryd.prog os Rows.queryRoundRow.laid) #[.agg #[.slice none 0 0, .slice none 0 0, .slice none 0 0], .agg #[.slice none 0 0, .slice none 0 0]] 8 (World.laidAll_os _ _ _)
      (World.shaped_of_ZipB (by kernel_rfl) (by kernel_rfl)) (by kernel_rfl) (by kernel_rfl) (by kernel_rfl)
      (by rw [MakeChecks.laidMetH_plain _ _ _ (by kernel_rfl)]; exact laidMet_laidAll _ (by kernel_rfl) (by kernel_rfl))) ?_
  intro W base args ds gs before hval0 hW hcnd _ hL _
  have hval : ∀ (j : Nat) t v, Tryd.f4.params[j]? = some t → args[j]? = some v → Value.okWide Tryd.prog W .any base t v := hval0
  have hW' := hW
  obtain ⟨p, q, hA0, hV, rfl, hfz, hnd⟩ := hW
  have hA : DataW.TrodAll enc Tryd.prog W 0 (fun _ => true) true Tryd.f4.params.toList args.toList ds p := hA0
  rw [Tryd.params4] at hA hval
  obtain ⟨v0, vs0, d0, ds0, p0, q0, hargs, rfl, rfl, h0, r0⟩ := trodAll_cons hA
  obtain ⟨v1, vs1, d1, ds1, p1, q1, rfl, rfl, rfl, h1, r1⟩ := trodAll_cons r0
  obtain ⟨rfl, rfl, rfl⟩ := trodAll_nil r1
  obtain rfl : args = #[v0, v1] := by cases args; simp_all
  obtain ⟨rfl, rfl⟩ := trodVars_none hV
  obtain ⟨cs0, rfl, hsz0⟩ := okWide_struct Tryd.underlying44 (hval 0 44 v0 rfl rfl)
  have k0 := h0
  have lt0 : ∀ x ∈ p0, x.block < W.heap.size := by obtain ⟨m, hm⟩ := k0; exact DataW.trod_lt m _ _ _ hm
  have w0 : RC Tryd.prog W 44 cs0.toList := by
    obtain ⟨fuel, hf⟩ := h0
    exact ⟨_, _, _, _, _, fuel, _, by simpa [Value.cells] using hf⟩
  obtain ⟨cs1, rfl, hsz1⟩ := okWide_struct Tryd.underlying32 (hval 1 32 v1 rfl rfl)
  have k1 := h1
  have lt1 : ∀ x ∈ p1, x.block < W.heap.size := by obtain ⟨m, hm⟩ := k1; exact DataW.trod_lt m _ _ _ hm
  have w1 : RC Tryd.prog W 32 cs1.toList := by
    obtain ⟨fuel, hf⟩ := h1
    exact ⟨_, _, _, _, _, fuel, _, by simpa [Value.cells] using hf⟩
  clear hA0 hval0
  refine (walk cs0 cs1 W w0 w1).mono fun e W' ⟨he, bel⟩ => ?_
  subst he
  exact ⟨_, rfl, _, _, _, [], _, [], hW', trodAll_mk1 (shut_bool Tryd.underlying4 _), (trodAll_cons_mk (Below.trod laidOut (by kernel_rfl) (of_decide_eq_true (by kernel_rfl)) k0 bel lt0) (trodAll_cons_mk (Below.trod laidOut (by kernel_rfl) (of_decide_eq_true (by kernel_rfl)) k1 bel lt1) trodAll_mk0)), rfl, bel.frame _, fun h => by cases h⟩

theorem over : Rows.queryRoundRow.holds Tryd.pinned (OpenSpec.ofChange Rows.queryRoundSpec) :=
  OpenClaim.holds_of_wide 4 Tryd.f4 rfl rfl rfl rfl rfl rfl rfl ⟨rfl, rfl, rfl, rfl, rfl⟩ rfl rfl rfl rfl rfl (by kernel_rfl) Tryd.func4 (by kernel_rfl)
    (of_decide_eq_true (by kernel_rfl)) (by unfold Func.isWrapper; first | (rw [if_pos (by decide +kernel)]; kernel_rfl) | (rw [if_neg (by decide +kernel)]; exact ⟨rfl, rfl⟩))
    (fun os started H enc _ => lifted os started H enc)

theorem proved : Rows.QueryRoundCardSaid :=
  Claim7.holds_tied_plain_at .later [] [.data, .pinned] true (true, "d455eff5acda1c6c3baee406db2b03b423eec8ef486f4fb91fb26df432e0a980") false over (fun _ h => by cases h) (by kernel_rfl) (fun _ h => by cases h) queryRound_row_tie rfl ⟨rfl, rfl⟩ (by kernel_rfl) rfl
    (fun f fn hf hfn => by
      obtain rfl : f = 4 := Option.some.inj ((show Tryd.prog.funcNamed "tesseract/tesseractlaw12.QueryRound" = some 4 by kernel_rfl).symm.trans hf) |>.symm
      obtain rfl : fn = Tryd.f4 := (Option.some.inj (Tryd.func4.symm.trans hfn)).symm
      exact ⟨by kernel_rfl, fun j t ht => by
        rw [Tryd.params4] at ht
        have hm : t ∈ [44, 32] := by simpa using Array.mem_of_getElem? ht
        have hall : ([44, 32].all fun u => !Tryd.prog.wantsStandIn u) = true := by kernel_rfl
        exact (show Tryd.prog.wantsStandIn t = false by simpa using List.all_eq_true.1 hall t hm)⟩)
    (by kernel_rfl)
end Go.Proofs.YtmcccpbpijnbmaaDoor.queryRound
