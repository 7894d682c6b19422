/-
  Proved: of any schema (at most 6 Dims, 9 Views, 6 Measures) and any facts (the first 10, with at most 5 paths of 5 names and 5 values), batch.May answers just what the document says, and batch.Values tells the facts' values in order; the examples of the document hold, and nothing that was handed in changes. No condition.
-/
import Derived.Test.YtfddaegepmdohaaJ6
import Derived.Test.YtfddaegepmdohaaJ22
import Derived.Test.YtfddaegepmdohaaJ30
import Derived.Test.YtfddaegepmdohaaJ31
import Derived.Test.YtfddaegepmdohaaJ43
import Derived.Test.YtfddaegepmdohaaJ44
import Derived.Below
import Derived.ChangeOld
import Derived.OpenShut
import Derived.ProofKit
import Derived.ShutString
import Derived.Test.YtfddaegepmdohaaRows
import Derived.WalkKit
namespace Go.Proofs.Ytfddaegepmdohaa.batchMay
open Go.ChangeShapes Go.WideShapes Go.ChangeAt Go.RowKit
open Go.ChangeMaps (open_string shut_string)
set_option linter.unusedVariables false

theorem own : ownKnob Try.prog.godebug = none := by kernel_rfl
theorem laidOut : laidOutB Try.prog = true := by kernel_rfl

def IsRow (k : IntKind) (w : World) (a : Option Addr) (len cap : Nat) (zs : List Int) : Prop :=
  (a = none ∧ len = 0 ∧ cap = 0 ∧ zs = []) ∨
  ∃ x, a = some x ∧ len ≤ cap ∧ cap ≤ maxLen ∧ zs.length = cap ∧ (∀ i, i < zs.length → w.cell? (x.add i) = some (.int k (zs.getD i 0))) ∧ ∀ n ∈ zs, (Lit.int k n).wf = true

set_option maxRecDepth 100000 in
set_option maxHeartbeats 2000000 in
theorem walk (cs0 : Array Value) (a1 : Option Addr) (len1 cap1 : Nat) (w : World) (w0 : RC Try.prog w 26 cs0.toList) (w1 : RC Try.prog w 27 [.slice a1 len1 cap1]) :
    Calls Try.prog 3 #[.agg cs0, .slice a1 len1 cap1] w fun e w' => e = .returned (.bool true) ∧ Below w.heap.size w w' := by
  obtain ⟨A1, n1, c1, A2, n2, c2, A3, n3, c3, D, M, V, es, hS, hf, hm⟩ := schema_of w0
  obtain rfl : cs0 = #[.slice A1 n1 c1, .slice A2 n2 c2, .slice A3 n3 c3] := by rw [← Array.toArray_toList (xs := cs0), es]
  obtain ⟨L, hF, _⟩ := facts_of w1
  clear w0 es w1
  have hb0 := below_a1 w (.cells #[.slice A1 n1 c1, .slice A2 n2 c2, .slice A3 n3 c3] 26)
  have hX := Block.new w 26 #[.slice A1 n1 c1, .slice A2 n2 c2, .slice A3 n3 c3]
  have hS1 := hS.belowS hb0
  have HSM := Lib.hid (small_any hS1)
  have HfD := Lib.hid hf
  have HfM := Lib.hid hm
  have HS0 := Lib.hid hS
  clear hS hf hm
  go_enter Try.func3, Try.ntmps3
  go_wp2_with fail
  generalize w.alloc (.cells #[.slice A1 n1 c1, .slice A2 n2 c2, .slice A3 n3 c3] 26) = w1 at hb0 hX hS1 HSM ⊢
  refine HSM.out.mono ?_
  rintro e w2 ⟨rfl, hb2⟩
  have hX2 := hX.below hb2 hX.lt
  have x0 : w2.cell? ⟨w.heap.size, 0, none⟩ = some (.slice A1 n1 c1) := hX2.cell 0
  have x1 : w2.cell? ⟨w.heap.size, 1, none⟩ = some (.slice A2 n2 c2) := hX2.cell 1
  have x2 : w2.cell? ⟨w.heap.size, 2, none⟩ = some (.slice A3 n3 c3) := hX2.cell 2
  have f0 := hX2.free 0
  have f1 := hX2.free 1
  have f2 := hX2.free 2
  have hX3 := ((hX2.set_ 0 (.slice A1 (min n1 6) c1)).set_ 1 (.slice A2 (min n2 6) c2)).set_ 2 (.slice A3 (min n3 9) c3)
  have hB3 := (((hb0.trans (hb2.mono hb0.size)).setCell (p := ⟨w.heap.size, 0, none⟩) (Nat.le_refl _) (.slice A1 (min n1 6) c1)).setCell (p := ⟨w.heap.size, 1, none⟩) (Nat.le_refl _) (.slice A2 (min n2 6) c2)).setCell (p := ⟨w.heap.size, 2, none⟩) (Nat.le_refl _) (.slice A3 (min n3 9) c3)
  obtain ⟨N1, hN1⟩ : ∃ N1, min n1 6 = N1 := ⟨_, rfl⟩
  obtain ⟨N2, hN2⟩ : ∃ N2, min n2 6 = N2 := ⟨_, rfl⟩
  obtain ⟨N3, hN3⟩ : ∃ N3, min n3 9 = N3 := ⟨_, rfl⟩
  have l1 : N1 ≤ 6 := by omega
  have l3 : N3 ≤ 9 := by omega
  rw [hN1, hN2, hN3] at hX3 hB3
  rw [hN1, hN2, hN3]
  have hSt := Lib.hid (show HasS w w.heap.size A1 N1 c1 A2 N2 c2 A3 N3 c3 (D.take 6) (M.take 6) (V.take 9) from by
    rw [← hN1, ← hN2, ← hN3]
    exact ⟨HS0.out.d.take9 6, HS0.out.m.take9 6, HS0.out.v.take9 9⟩)
  have HfD6 : Hid (FitD (D.take 6)) := Lib.hid fun d hd => HfD.out d (List.mem_of_mem_take hd)
  have HfM6 : Hid (∀ s ∈ M.take 6, s.length ≤ maxLen) := Lib.hid fun s hs => HfM.out s (List.mem_of_mem_take hs)
  clear HSM hX hS1 hb0 hb2 hX2 hN1 hN2 hN3 HfD HfM HS0
  generalize D.take 6 = D' at hSt HfD6
  generalize M.take 6 = M' at hSt HfM6
  generalize V.take 9 = V' at hSt
  go_wp2_with fail
  clear x0 x1 x2 f0 f1 f2
  generalize ((w2.setCell ⟨w.heap.size, 0, none⟩ (.slice A1 N1 c1)).setCell ⟨w.heap.size, 1, none⟩ (.slice A2 N2 c2)).setCell ⟨w.heap.size, 2, none⟩ (.slice A3 N3 c3) = w3 at hX3 hB3 ⊢
  refine (few_any (hF.mv elFct_ok (Mv.below hB3 fun _ h => h))).mono ?_
  rintro e w4 ⟨a2, len2, cap2, rfl, hF4, hb4⟩
  have hSm := fewF_small (L := L)
  generalize fewF L = L' at hF4 hSm
  have hX4 := hX3.below hb4 hX3.lt
  have hB4 := hB3.trans (hb4.mono hB3.size)
  have hS4 := (hSt.out.below hB4 (Nat.le_refl _)).more hB4.size
  have HLm := Lib.hid hF4.len
  have hlm2 := hF4.lenMax
  have hln : len2 ≤ 10 := by have := HLm.out; have := hSm.1; omega
  clear hF hX3 hB3 hb4 hSt
  have HV := Lib.hid (values_any hF4 (by omega) hSm.2)
  go_wp2_with fail
  refine HV.out.mono ?_
  rintro e w5 ⟨vv, rfl, hO, hb5⟩
  obtain ⟨Av, nv, cv, rfl, hv⟩ : ∃ A n c, vv = .slice A n c ∧ Row (elRow elInt 1) 1 w5 (fun _ => True) A n c (L'.map Prod.snd) := by
    obtain ⟨A, c, e, h⟩ := hO.read elValsO_ok
    exact ⟨A, _, c, e, (h.map (E' := elRow elInt 1) (fun us x h => elOwn_row elInt_ok (fun _ _ h => h) h)).mv elVals_ok (Mv.to w5 fun _ _ _ => trivial)⟩
  obtain rfl : nv = len2 := by have h1 := hv.len; rw [List.length_map] at h1; exact h1.symm.trans HLm.out
  have hX5 := hX4.below hb5 hX4.lt
  have hS5 := hS4.belowS hb5
  have hF5 := hF4.mv elFct_ok (Mv.belowS hb5 _)
  have hB5 := hB4.trans (hb5.mono hB4.size)
  have hne : ((nv : Int) != (nv : Int)) = false := by simp
  clear HV hO hb5 hX4 hS4 hF4 hB4
  go_wp2_with fail
  clear hne
  go_loopw [6] (fun i wr => ∃ k t : Nat, k ≤ nv ∧ i = .int .i64 k ∧ wr = w5.drewN t) (fun i _ => nv - (intOf i).toNat)
  case atStart => exact ⟨0, 0, Nat.zero_le _, rfl, rfl⟩
  case round =>
    obtain ⟨k, t, hk, rfl, hwr⟩ := hrel
    have hv6 : Row (elRow elInt 1) 1 wr (fun _ => True) Av nv cv (L'.map Prod.snd) := by rw [hwr]; exact hv.mv elVals_ok (Mv.drewN w5 t _)
    have hF6 : HasF wr (fun b => b < w4.heap.size) a2 nv cap2 L' := by rw [hwr]; exact hF5.mv elFct_ok (Mv.drewN w5 t _)
    have HWR := Lib.hid hwr
    clear hwr
    by_cases hlt : k < nv
    · obtain ⟨b, o, A', n', c', q, rfl, _, _, g0, hq, hqe⟩ := hv6.at1 hlt
      obtain ⟨b2, o2, P1, m1, d1, P2, m2, d2, p', q', rfl, _, _, j0, j1, _, hq', he⟩ := hF6.at2 hlt
      obtain rfl : q = q' := by
        have h1 := hqe.out
        rw [List.getElem?_map, he.out] at h1
        simpa using h1.symm
      have i0 : (0 : Int) ≤ (k : Int) := by omega
      have i1 : (k : Int) < (nv : Int) := by omega
      clear hv6 hF6 hqe he
      go_wp2_with fail
      go_quiet ((go_at_call 10; exact Calls.quiet_of (sameI_yes hq hq' _)))
      go_wp2_with fail
      go_roundw
      case rel => exact ⟨k + 1, t + nq, by omega, by go_num, by rw [HWR.out, World.drewN_drewN]⟩
      case measure => simp [intOf]; omega
    · have hb6 : Below w5.heap.size w5 wr := by rw [HWR.out]; exact below_drewN (Below.refl _ _) _
      have hS6 := hS5.belowS hb6
      have hX6 := hX5.below hb6 hX5.lt
      have hB6 := hB5.trans (hb6.mono hB5.size)
      clear hv6 hF6
      have hF6 := hF5.mv elFct_ok (Mv.belowS hb6 _)
      have K := Lib.hid (show ∀ W, Below wr.heap.size wr W → (W.cell? ⟨w.heap.size, 0, none⟩ = some (.slice A1 N1 c1) ∧ W.cell? ⟨w.heap.size, 1, none⟩ = some (.slice A2 N2 c2) ∧ W.cell? ⟨w.heap.size, 2, none⟩ = some (.slice A3 N3 c3)) ∧ HasS W W.heap.size A1 N1 c1 A2 N2 c2 A3 N3 c3 D' M' V' ∧ HasF W (fun b => b < w4.heap.size) a2 nv cap2 L' from fun W hW => by
        have hXW := hX6.below hW hX6.lt
        exact ⟨⟨hXW.cell 0, hXW.cell 1, hXW.cell 2⟩, hS6.belowS hW, hF6.mv elFct_ok (Mv.belowS hW _)⟩)
      have k0 : ∀ y : Bel wr, y.w.cell? ⟨w.heap.size, 0, none⟩ = some (.slice A1 N1 c1) := fun y => (K.out y.w y.b).1.1
      have k1 : ∀ y : Bel wr, y.w.cell? ⟨w.heap.size, 1, none⟩ = some (.slice A2 N2 c2) := fun y => (K.out y.w y.b).1.2.1
      have k2 : ∀ y : Bel wr, y.w.cell? ⟨w.heap.size, 2, none⟩ = some (.slice A3 N3 c3) := fun y => (K.out y.w y.b).1.2.2
      obtain ⟨x, hx⟩ : ∃ x, Hid (mayBt D' M' V' L' = x) := ⟨_, Lib.hid rfl⟩
      have HM := Lib.hid fun (y : Bel wr) => y.calls fun W hw => mayBatch_any (K.out W hw).2.1 HfD6.out HfM6.out (by omega) (K.out W hw).2.2
      have HR := Lib.hid fun (y : Bel wr) => y.calls fun W hw => refMayB_any (K.out W hw).2.1 (by omega) (by omega) (K.out W hw).2.2
      have HL := Lib.hid fun (y : Bel wr) => y.calls fun W hw => batchLives_any W
      rw [hx.out] at HM HR
      have hxx : ((x : Int) == (x : Int)) = true := by simp
      clear hx K hS6 hX6 hF6 hb6 hS5 hX5 hF5 hB5 hv
      go_wp2_with fail
      refine wp_region_below (by kernel_rfl) (by kernel_rfl) ?_
      repeat (go_big_quiet_step (first | (go_at_call 11; exact HM.out _) | (go_at_call 12; exact HR.out _) | (go_at_call 13; exact HL.out _)))
      refine wpQuiet_nil ?_
      rintro _ ⟨⟨w7, hb7⟩, rfl⟩
      have HF := Lib.hid (hB6.trans (hb7.mono hB6.size))
      clear HM HR HL k0 k1 k2 hb7 hB6
      go_wp2_with fail
      go_ret
      exact ⟨rfl, HF.out⟩

set_option maxRecDepth 100000 in
theorem lifted (os : Os) (started : os.Started) (H : Type) (enc : TypeId × Value → H) :
    ReturnsInHanded {} Try.checked os 3 .any (Rows.batchMaySpec.pre6 enc Try.prog Try.f3 Rows.batchMayRow.domain false) (Rows.batchMaySpec.post enc Try.prog Try.f3 false true false false) := by
  refine returnsInHanded_of_change (C := Try.checked) own started (by kernel_rfl) Try.func3
    (ChangeSpec.witness6 (enc := enc) (C := Try.checked) false ⟨#[], #[.agg #[.slice none 0 0, .slice none 0 0, .slice none 0 0], .slice none 0 0], []⟩ 8 (by kernel_rfl) (by kernel_rfl) (by kernel_rfl) (by kernel_rfl)) ?_
  intro W base args ds gs before hval0 hW hcnd _
  have hval : ∀ (j : Nat) t v, Try.f3.params[j]? = some t → args[j]? = some v → Value.okWide Try.prog W .any base t v := hval0
  have hW' := hW
  obtain ⟨p, q, hA0, hV, rfl, hfz, hnd⟩ := hW
  have hA : DataW.TrodAll enc Try.prog W 0 (fun _ => true) true Try.f3.params.toList args.toList ds p := hA0
  rw [Try.params3] at hA hval
  obtain ⟨v0, vs0, d0, ds0, p0, q0, hargs, rfl, rfl, h0, r0⟩ := trodAll_cons hA
  obtain ⟨v1, vs1, d1, ds1, p1, q1, rfl, rfl, rfl, h1, r1⟩ := trodAll_cons r0
  obtain ⟨rfl, rfl, rfl⟩ := trodAll_nil r1
  obtain rfl : args = #[v0, v1] := by cases args; simp_all
  obtain ⟨rfl, rfl⟩ := trodVars_none hV
  obtain ⟨cs0, rfl, hsz0⟩ := okWide_struct Try.underlying26 (hval 0 26 v0 rfl rfl)
  have k0 := h0
  have lt0 : ∀ x ∈ p0, x.block < W.heap.size := by obtain ⟨m, hm⟩ := k0; exact DataW.trod_lt m _ _ _ hm
  have w0 : RC Try.prog W 26 cs0.toList := by
    obtain ⟨fuel, hf⟩ := h0
    exact ⟨_, _, _, _, _, fuel, _, by simpa [Value.cells] using hf⟩
  obtain ⟨a1, len1, cap1, rfl⟩ := okWide_slice Try.underlying27 (hval 1 27 v1 rfl rfl)
  have k1 := h1
  have lt1 : ∀ x ∈ p1, x.block < W.heap.size := by obtain ⟨m, hm⟩ := k1; exact DataW.trod_lt m _ _ _ hm
  have w1 : RC Try.prog W 27 [.slice a1 len1 cap1] := by
    obtain ⟨fuel, hf⟩ := h1
    exact ⟨_, _, _, _, _, fuel, _, hf⟩
  clear hA0 hval0
  refine (walk cs0 a1 len1 cap1 W w0 w1).mono fun e W' ⟨he, bel⟩ => ?_
  subst he
  exact ⟨_, rfl, _, _, _, [], _, [], hW', trodAll_mk1 (shut_bool Try.underlying4 _), (trodAll_cons_mk (Below.trod laidOut (by kernel_rfl) (of_decide_eq_true (by kernel_rfl)) k0 bel lt0) (trodAll_cons_mk (Below.trod laidOut (by kernel_rfl) (of_decide_eq_true (by kernel_rfl)) k1 bel lt1) trodAll_mk0)), rfl, bel.frame _, fun h => by cases h⟩

theorem over : Rows.batchMayRow.holds Try.pinned (OpenSpec.ofChange Rows.batchMaySpec) :=
  OpenClaim.holds_of_wide 3 Try.f3 rfl rfl rfl rfl rfl rfl rfl ⟨rfl, rfl, rfl, rfl, rfl⟩ rfl rfl rfl rfl rfl (by kernel_rfl) Try.func3 (by kernel_rfl)
    (of_decide_eq_true (by kernel_rfl)) (by unfold Func.isWrapper; first | (rw [if_pos (by decide +kernel)]; kernel_rfl) | (rw [if_neg (by decide +kernel)]; exact ⟨rfl, rfl⟩))
    (fun os started H enc _ => lifted os started H enc)

theorem proved : Rows.BatchMaySaid := over
end Go.Proofs.Ytfddaegepmdohaa.batchMay
