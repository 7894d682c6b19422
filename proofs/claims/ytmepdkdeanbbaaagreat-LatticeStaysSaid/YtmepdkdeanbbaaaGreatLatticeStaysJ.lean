/-
  Proved: of any schema (at most 6 Dims, 9 Views, 6 Measures) and any batches (the first 10), a batch that is refused leaves the bytes and the number of facts as they were, one that is taken adds its facts; the document's examples hold, and nothing that was handed in changes. No condition.
-/
import Derived.Test.YtmepdkdeanbbaaaGreatJ2
import Derived.Test.YtmepdkdeanbbaaaGreatJ50
import Derived.Below
import Derived.ChangeOld
import Derived.OpenShut
import Derived.ProofKit
import Derived.ShutString
import Derived.Test.YtmepdkdeanbbaaaGreatRows
import Derived.WalkKit
namespace Go.Proofs.YtmepdkdeanbbaaaGreat.latticeStays
open Go.ChangeShapes Go.WideShapes Go.ChangeAt Go.RowKit
open Go.ChangeMaps (open_string shut_string)
set_option linter.unusedVariables false

theorem own : ownKnob Tryz.prog.godebug = none := by kernel_rfl
theorem laidOut : laidOutB Tryz.prog = true := by kernel_rfl

def IsRow (k : IntKind) (w : World) (a : Option Addr) (len cap : Nat) (zs : List Int) : Prop :=
  (a = none ∧ len = 0 ∧ cap = 0 ∧ zs = []) ∨
  ∃ x, a = some x ∧ len ≤ cap ∧ cap ≤ maxLen ∧ zs.length = cap ∧ (∀ i, i < zs.length → w.cell? (x.add i) = some (.int k (zs.getD i 0))) ∧ ∀ n ∈ zs, (Lit.int k n).wf = true

set_option maxRecDepth 100000 in
set_option maxHeartbeats 2000000 in
theorem walk (cs0 : Array Value) (a1 : Option Addr) (len1 cap1 : Nat) (w : World) (w0 : RC Tryz.prog w 26 cs0.toList) (w1 : RC Tryz.prog w 27 [.slice a1 len1 cap1]) :
    Calls Tryz.prog 8 #[.agg cs0, .slice a1 len1 cap1] w fun e w' => e = .returned (.bool true) ∧ Below w.heap.size w w' := by
  obtain ⟨L, hL⟩ := batches_of w1
  have KL : Hid (∀ y, Below w.heap.size w y → Row elBt 1 y (fun b => b < w.heap.size) a1 len1 cap1 L) := Lib.hid fun y hy => hL.mv elBt_ok (Mv.below hy fun b hb => hb)
  have hlm := hL.lenMax
  clear w1 hL
  obtain ⟨A1, n1, c1, A2, n2, c2, A3, n3, c3, D, M, V, es, hS, hf, hm⟩ := schR_of w0
  obtain rfl : cs0 = #[.slice A1 n1 c1, .slice A2 n2 c2, .slice A3 n3 c3] := by rw [← Array.toArray_toList (xs := cs0), es]
  clear w0 es
  have hb0 := below_a1 w (.cells #[.slice A1 n1 c1, .slice A2 n2 c2, .slice A3 n3 c3] 26)
  have hX := Block.new w 26 #[.slice A1 n1 c1, .slice A2 n2 c2, .slice A3 n3 c3]
  have HSM := Lib.hid (small_any (hS.belowS hb0).has)
  have HS0 := Lib.hid hS
  have HfD := Lib.hid hf
  have HfM := Lib.hid hm
  clear hS hf hm
  go_enter Tryz.func8, Tryz.ntmps8
  go_wp2_with fail
  generalize w.alloc (.cells #[.slice A1 n1 c1, .slice A2 n2 c2, .slice A3 n3 c3] 26) = w1 at hb0 hX HSM ⊢
  refine HSM.out.mono ?_
  rintro e w2 ⟨rfl, hb2⟩
  have hX2 := hX.below hb2 hX.lt
  have x0 : w2.cell? ⟨w.heap.size, 0, none⟩ = some (.slice A1 n1 c1) := hX2.cell 0
  have x1 : w2.cell? ⟨w.heap.size, 1, none⟩ = some (.slice A2 n2 c2) := hX2.cell 1
  have x2 : w2.cell? ⟨w.heap.size, 2, none⟩ = some (.slice A3 n3 c3) := hX2.cell 2
  have f0 := hX2.free 0
  have f1 := hX2.free 1
  have f2 := hX2.free 2
  have hX3 := ((hX2.set_ 0 (.slice A1 (min n1 6) c1)).set_ 1 (.slice A2 (min n2 6) c2)).set_ 2 (.slice A3 (min n3 9) c3)
  have hB3 := (((hb0.trans (hb2.mono hb0.size)).setCell (p := ⟨w.heap.size, 0, none⟩) (Nat.le_refl _) (.slice A1 (min n1 6) c1)).setCell (p := ⟨w.heap.size, 1, none⟩) (Nat.le_refl _) (.slice A2 (min n2 6) c2)).setCell (p := ⟨w.heap.size, 2, none⟩) (Nat.le_refl _) (.slice A3 (min n3 9) c3)
  obtain ⟨N1, hN1⟩ : ∃ N1, min n1 6 = N1 := ⟨_, rfl⟩
  obtain ⟨N2, hN2⟩ : ∃ N2, min n2 6 = N2 := ⟨_, rfl⟩
  obtain ⟨N3, hN3⟩ : ∃ N3, min n3 9 = N3 := ⟨_, rfl⟩
  have l1 : N1 ≤ 6 := by omega
  have l3 : N3 ≤ 9 := by omega
  rw [hN1, hN2, hN3] at hX3 hB3
  rw [hN1, hN2, hN3]
  have hSt := Lib.hid (show SchR w (fun b => b < w.heap.size) A1 N1 c1 A2 N2 c2 A3 N3 c3 (D.take 6) (M.take 6) (V.take 9) from by
    rw [← hN1, ← hN2, ← hN3]
    exact ⟨HS0.out.d.take9 6, HS0.out.m.take9 6, HS0.out.v.take9 9⟩)
  have HfD6 : Hid (FitD (D.take 6)) := Lib.hid fun d hd => HfD.out d (List.mem_of_mem_take hd)
  have HfM6 : Hid (∀ s ∈ M.take 6, s.length ≤ maxLen) := Lib.hid fun s hs => HfM.out s (List.mem_of_mem_take hs)
  clear HSM hX hb0 hb2 hX2 hN1 hN2 hN3 HfD HfM HS0
  generalize D.take 6 = D' at hSt HfD6
  generalize M.take 6 = M' at hSt HfM6
  generalize V.take 9 = V' at hSt
  go_wp2_with fail
  clear x0 x1 x2 f0 f1 f2
  generalize ((w2.setCell ⟨w.heap.size, 0, none⟩ (.slice A1 N1 c1)).setCell ⟨w.heap.size, 1, none⟩ (.slice A2 N2 c2)).setCell ⟨w.heap.size, 2, none⟩ (.slice A3 N3 c3) = w3 at hX3 hB3 ⊢
  have HB3 := Lib.hid hB3
  have HS3 := Lib.hid (show SchR w3 (fun b => b < w.heap.size) A1 N1 c1 A2 N2 c2 A3 N3 c3 D' M' V' from hSt.out.mv (Mv.below hB3 fun b hb => hb))
  have KX : Hid (∀ y, Below w3.heap.size w3 y → y.cell? ⟨w.heap.size, 0, none⟩ = some (.slice A1 N1 c1) ∧ y.cell? ⟨w.heap.size, 1, none⟩ = some (.slice A2 N2 c2) ∧ y.cell? ⟨w.heap.size, 2, none⟩ = some (.slice A3 N3 c3)) := Lib.hid fun y hy => by
    have h := hX3.below hy hX3.lt
    exact ⟨h.cell 0, h.cell 1, h.cell 2⟩
  obtain ⟨x0, x1, x2⟩ := KX.out w3 (Below.refl _ _)
  clear hX3 hB3 hSt

  by_cases hmay : mayS D' M' V'
  · have HN := Lib.hid (newS_yes HS3.out HfD6.out HfM6.out hmay)
    go_wp2_with fail
    refine HN.out.mono ?_
    rintro e w4 ⟨g, F, R, rfl, hL4, hR4, hb4⟩
    have HB4 := Lib.hid (below_then HB3.out hb4)
    have HL4 := Lib.hid hL4
    have hz4 : w3.heap.size ≤ w4.heap.size := hb4.size
    clear hb4 HN hL4 x0 x1 x2

    go_wp2_with fail
    go_loopw [7, 8, 9, 10] (fun i _ _ _ wr => ∃ k : Nat, k ≤ len1 ∧ k ≤ 10 ∧ i = .int .i64 k ∧ Hid (∃ F E Qs, LSt wr g F R w3.heap.size D' M' V' E Qs) ∧ Below w.heap.size w wr ∧ w3.heap.size ≤ wr.heap.size) (fun i _ _ _ _ => len1 - (intOf i).toNat)
    case atStart => exact ⟨0, Nat.zero_le _, Nat.zero_le _, rfl, Lib.hid ⟨_, _, _, HL4.out⟩, HB4.out, hz4⟩
    case round =>
      obtain ⟨k, hk, hk10, rfl, hO, hB, hz⟩ := hrel
      by_cases hgo : k < len1 ∧ k < 10
      · obtain ⟨hlt, hlt10⟩ := hgo
        obtain ⟨F, E, Qs, hst⟩ := hO.out
        obtain ⟨b, o, A', n', c', G, rfl, hbl, _, gk, hG, he⟩ := (KL.out w (Below.refl _ _)).at1 hlt
        have KG : Hid (∀ y, Below w.heap.size w y → y.cell? ⟨b, o + k, none⟩ = some (.slice A' n' c') ∧ HasF y (fun b => b < w.heap.size) A' n' c' G) := Lib.hid fun y hy => ⟨(hy.cell (p := ⟨b, o + k, none⟩) hbl).trans gk, hG.mv elFct_ok (Mv.below hy fun b hb => hb)⟩
        have hGl := Lib.hid hG.len
        have hzw : w.heap.size ≤ w3.heap.size := HB3.out.size
        have i0 : (0 : Int) ≤ (k : Int) := by omega
        have i1 : (k : Int) < (len1 : Int) := by omega
        have i2 : decide ((k : Int) < 10) = true := decide_eq_true (by omega)
        have HP := Lib.hid (putS_nil hst)
        have HST := Lib.hid hst
        clear gk hG hst hO he
        go_wp2_with fail
        refine HP.out.mono ?_
        rintro e w5 ⟨v5, C5, rfl, hC5, hO5, hb5⟩
        have HB5 := Lib.hid (hB.trans (hb5.mono hB.size))
        have hs5 := HST.out.below hb5
        have HFc := Lib.hid (factsS_any hs5)
        have hz5 : w3.heap.size ≤ w5.heap.size := Nat.le_trans hz hb5.size
        have HC5 := Lib.hid (And.intro hC5 hO5)
        have HN5 : Hid (∀ q, v5.ownBlock = some q → ¬ F q) := Lib.hid fun q hq hf => by have h1 := (hO5.lt q hq).1; have h2 := HST.out.lt hf; omega
        have hSF : ∀ b, b < w.heap.size → ¬ F b := fun b hb hf => by have := HST.out.low b hf; omega
        obtain ⟨g5, hG5⟩ := KG.out w5 HB5.out
        obtain ⟨cE, hcE⟩ : ∃ cE, Hid (cntE E = cE) := ⟨_, Lib.hid rfl⟩
        rw [hcE.out] at HFc
        have hc0 : 0 ≤ cE := by rw [← hcE.out]; exact cntE_pos HST.out.ok.cell
        have hc1 : cE ≤ 1099511627776 := by rw [← hcE.out]; exact HST.out.ok.cnt
        by_cases hx : (applyP D' M' V' E Qs G).2 = 0
        · have HA := Lib.hid (applyS_yes hs5 hz5 hG5 hSF hx)
          clear hC5 hO5 hb5 hs5 hG5 HP hB
          go_wp2_with fail
          refine HFc.out.mono ?_
          rintro e w5' ⟨rfl, rfl⟩
          go_wp2_with fail
          refine HA.out.mono ?_
          rintro e w6 ⟨rfl, F6, hs6, hc6, hf6⟩
          have HB6 := Lib.hid (HB5.out.trans (hc6.below HB5.out.size fun q hq => by have := HST.out.low q hq; omega))
          have HF6 := fun t => factsS_any (hs6.drewN t)
          have e6 : cntE (E ++ G.map entF) = cE + (n' : Int) := by rw [cntE_app, cntE_facts, hcE.out, hGl.out]
          have hc2 : cE + (n' : Int) ≤ 1099511627776 := by rw [← e6]; exact hs6.ok.cnt
          simp only [e6] at HF6
          have HF6 := Lib.hid HF6
          have HS6 := Lib.hid hs6
          obtain ⟨g6, _⟩ := KG.out w6 HB6.out
          have hz6 := hc6.size
          have hne : ((cE + (n' : Int)) != (cE + (n' : Int))) = false := by simp
          have hwr : IntKind.i64.wrap (cE + (n' : Int)) = cE + (n' : Int) := IntWalk.i64_in _ (by omega)
          clear hs6 hc6 hf6 HA HFc HC5 e6
          go_wp2_with fail
          go_quiet ((go_at_call 24; exact quietS (HF6.out _)))
          go_wp2_with fail
          go_roundw
          case rel => exact ⟨k + 1, by omega, by omega, by go_num, Lib.hid ⟨_, _, _, HS6.out.drewN _⟩, below_drewN HB6.out _, by first | (simp; omega) | omega⟩
          case measure => simp [intOf]; omega
        · have HA := Lib.hid (applyS_no hs5 hz5 hG5 hSF rfl hx)
          obtain ⟨x, hxe⟩ : ∃ x, Hid ((applyP D' M' V' E Qs G).2 = x) := ⟨_, Lib.hid rfl⟩
          rw [hxe.out] at HA hx
          have hx0 : ((x : Int) == 0) = false := by simp; omega
          clear hC5 hO5 hb5 hs5 hG5 HP hB hx
          go_wp2_with fail
          refine HFc.out.mono ?_
          rintro e w5' ⟨rfl, rfl⟩
          go_wp2_with fail
          refine HA.out.mono ?_
          rintro e w6 ⟨rfl, F6, hs6, hc6, hf6⟩
          have HB6 := Lib.hid (HB5.out.trans (hc6.below HB5.out.size fun q hq => by have := HST.out.low q hq; omega))
          have HS6 := Lib.hid hs6
          have HO6 := Lib.hid (OwnB.chg HC5.out.2 hc6 HN5.out)
          have HP6 := Lib.hid (putS_nil hs6)
          have hz6 := hc6.size
          clear hs6 hc6 hf6 HA HFc
          go_wp2_with fail
          refine HP6.out.mono ?_
          rintro e w7 ⟨v7, C7, rfl, hC7, hO7, hb7⟩
          obtain rfl : C5 = C7 := HC5.out.1.one hC7
          obtain ⟨Aa, na, ca, rfl, hHa, _⟩ := (HO6.out.below hb7 (by omega)).formN
          obtain ⟨Ab, nb, cb, rfl, hHb, _⟩ := hO7.formN
          have HSm := Lib.hid (same_any _ _ _ _ _ _ _ _ _ _ _ hHa hHb)
          have HB7 := Lib.hid (HB6.out.trans (hb7.mono HB6.out.size))
          have HS7 := Lib.hid (HS6.out.below hb7)
          have hll : ∀ l : List UInt8, (l == l) = true := fun l => by simp
          rw [hll] at HSm
          have hz7 := hb7.size
          clear hC7 hO7 hb7 HP6 HO6 hHa hHb HC5 hll
          go_wp2_with fail
          refine HSm.out.mono ?_
          rintro e w8 ⟨rfl, q8, rfl⟩
          have HF8 := factsS_any (HS7.out.drewN q8)
          rw [hcE.out] at HF8
          have HF8 := Lib.hid HF8
          have hne : (cE != cE) = false := by simp
          clear HSm
          go_wp2_with fail
          refine HF8.out.mono ?_
          rintro e w9 ⟨rfl, rfl⟩
          clear HF8
          go_wp2_with fail
          go_roundw
          case rel => exact ⟨k + 1, by omega, by omega, by go_num, Lib.hid ⟨_, _, _, HS7.out.drewN _⟩, below_drewN HB7.out _, by first | (simp; omega) | omega⟩
          case measure => simp [intOf]; omega
      · by_cases hlt : k < len1
        · have i1 : (k : Int) < (len1 : Int) := by omega
          have i2 : decide ((k : Int) < 10) = false := decide_eq_false (by omega)
          have HBr := Lib.hid hB
          clear hO hB
          go_wp2_with fail
          refine (latLives_any _).mono ?_
          rintro y wz ⟨rfl, hBz⟩
          have HBz := Lib.hid (below_then HBr.out hBz)
          clear hBz
          go_wp2_with fail
          go_ret
          exact ⟨rfl, HBz.out⟩

        · have i1 : ¬ (k : Int) < (len1 : Int) := by omega
          have HBr := Lib.hid hB
          clear hO hB
          go_wp2_with fail
          refine (latLives_any _).mono ?_
          rintro y wz ⟨rfl, hBz⟩
          have HBz := Lib.hid (below_then HBr.out hBz)
          clear hBz
          go_wp2_with fail
          go_ret
          exact ⟨rfl, HBz.out⟩

  · have HN := Lib.hid (newL_no HS3.out HfD6.out HfM6.out (by omega) hmay)
    go_wp2_with fail
    refine HN.out.mono ?_
    rintro e w4 ⟨rfl, hb4⟩
    have HB4 := Lib.hid (below_then HB3.out hb4)
    clear hb4 HN

    go_wp2_with fail
    refine (latLives_any _).mono ?_
    rintro y wz ⟨rfl, hBz⟩
    have HBz := Lib.hid (below_then HB4.out hBz)
    clear hBz
    go_wp2_with fail
    go_ret
    exact ⟨rfl, HBz.out⟩

set_option maxRecDepth 100000 in
theorem lifted (os : Os) (started : os.Started) (H : Type) (enc : TypeId × Value → H) :
    ReturnsInHanded {} Tryz.checked os 8 .any (Rows.latticeStaysSpec.pre6 enc Tryz.prog Tryz.f8 Rows.latticeStaysRow.domain false) (Rows.latticeStaysSpec.post enc Tryz.prog Tryz.f8 false true false false) := by
  refine returnsInHanded_of_change (C := Tryz.checked) own started (by kernel_rfl) Tryz.func8
    (ChangeSpec.witness6 (enc := enc) (C := Tryz.checked) false ⟨#[], #[.agg #[.slice none 0 0, .slice none 0 0, .slice none 0 0], .slice none 0 0], []⟩ 8 (by kernel_rfl) (by kernel_rfl) (by kernel_rfl) (by kernel_rfl)) ?_
  intro W base args ds gs before hval0 hW hcnd _
  have hval : ∀ (j : Nat) t v, Tryz.f8.params[j]? = some t → args[j]? = some v → Value.okWide Tryz.prog W .any base t v := hval0
  have hW' := hW
  obtain ⟨p, q, hA0, hV, rfl, hfz, hnd⟩ := hW
  have hA : DataW.TrodAll enc Tryz.prog W 0 (fun _ => true) true Tryz.f8.params.toList args.toList ds p := hA0
  rw [Tryz.params8] at hA hval
  obtain ⟨v0, vs0, d0, ds0, p0, q0, hargs, rfl, rfl, h0, r0⟩ := trodAll_cons hA
  obtain ⟨v1, vs1, d1, ds1, p1, q1, rfl, rfl, rfl, h1, r1⟩ := trodAll_cons r0
  obtain ⟨rfl, rfl, rfl⟩ := trodAll_nil r1
  obtain rfl : args = #[v0, v1] := by cases args; simp_all
  obtain ⟨rfl, rfl⟩ := trodVars_none hV
  obtain ⟨cs0, rfl, hsz0⟩ := okWide_struct Tryz.underlying26 (hval 0 26 v0 rfl rfl)
  have k0 := h0
  have lt0 : ∀ x ∈ p0, x.block < W.heap.size := by obtain ⟨m, hm⟩ := k0; exact DataW.trod_lt m _ _ _ hm
  have w0 : RC Tryz.prog W 26 cs0.toList := by
    obtain ⟨fuel, hf⟩ := h0
    exact ⟨_, _, _, _, _, fuel, _, by simpa [Value.cells] using hf⟩
  obtain ⟨a1, len1, cap1, rfl⟩ := okWide_slice Tryz.underlying27 (hval 1 27 v1 rfl rfl)
  have k1 := h1
  have lt1 : ∀ x ∈ p1, x.block < W.heap.size := by obtain ⟨m, hm⟩ := k1; exact DataW.trod_lt m _ _ _ hm
  have w1 : RC Tryz.prog W 27 [.slice a1 len1 cap1] := by
    obtain ⟨fuel, hf⟩ := h1
    exact ⟨_, _, _, _, _, fuel, _, hf⟩
  clear hA0 hval0
  refine (walk cs0 a1 len1 cap1 W w0 w1).mono fun e W' ⟨he, bel⟩ => ?_
  subst he
  exact ⟨_, rfl, _, _, _, [], _, [], hW', trodAll_mk1 (shut_bool Tryz.underlying4 _), (trodAll_cons_mk (Below.trod laidOut (by kernel_rfl) (of_decide_eq_true (by kernel_rfl)) k0 bel lt0) (trodAll_cons_mk (Below.trod laidOut (by kernel_rfl) (of_decide_eq_true (by kernel_rfl)) k1 bel lt1) trodAll_mk0)), rfl, bel.frame _, fun h => by cases h⟩

theorem over : Rows.latticeStaysRow.holds Tryz.pinned (OpenSpec.ofChange Rows.latticeStaysSpec) :=
  OpenClaim.holds_of_wide 8 Tryz.f8 rfl rfl rfl rfl rfl rfl rfl ⟨rfl, rfl, rfl, rfl, rfl⟩ rfl rfl rfl rfl rfl (by kernel_rfl) Tryz.func8 (by kernel_rfl)
    (of_decide_eq_true (by kernel_rfl)) (by unfold Func.isWrapper; first | (rw [if_pos (by decide +kernel)]; kernel_rfl) | (rw [if_neg (by decide +kernel)]; exact ⟨rfl, rfl⟩))
    (fun os started H enc _ => lifted os started H enc)

theorem proved : Rows.LatticeStaysSaid := over
end Go.Proofs.YtmepdkdeanbbaaaGreat.latticeStays
