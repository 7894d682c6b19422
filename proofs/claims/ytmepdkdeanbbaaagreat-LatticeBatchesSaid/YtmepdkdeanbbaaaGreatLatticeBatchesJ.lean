/-
  Proved: of any schema (at most 6 Dims, 9 Views, 6 Measures) and any facts that are taken together (the first 8), they leave the same bytes and number of facts when they come one by one, if each of these is taken; the document's examples hold, and nothing that was handed in changes. No condition.
-/
import Derived.Test.YtmepdkdeanbbaaaGreatJ2
import Derived.Test.YtmepdkdeanbbaaaGreatJ50
import Derived.Below
import Derived.ChangeOld
import Derived.OpenShut
import Derived.ProofKit
import Derived.ShutString
import Derived.Test.YtmepdkdeanbbaaaGreatRows
import Derived.WalkKit
namespace Go.Proofs.YtmepdkdeanbbaaaGreat.latticeBatches
open Go.ChangeShapes Go.WideShapes Go.ChangeAt Go.RowKit
open Go.ChangeMaps (open_string shut_string)
set_option linter.unusedVariables false

theorem own : ownKnob Tryz.prog.godebug = none := by kernel_rfl
theorem laidOut : laidOutB Tryz.prog = true := by kernel_rfl

def IsRow (k : IntKind) (w : World) (a : Option Addr) (len cap : Nat) (zs : List Int) : Prop :=
  (a = none ∧ len = 0 ∧ cap = 0 ∧ zs = []) ∨
  ∃ x, a = some x ∧ len ≤ cap ∧ cap ≤ maxLen ∧ zs.length = cap ∧ (∀ i, i < zs.length → w.cell? (x.add i) = some (.int k (zs.getD i 0))) ∧ ∀ n ∈ zs, (Lit.int k n).wf = true

set_option maxRecDepth 100000 in
set_option maxHeartbeats 2000000 in
theorem walk (cs0 : Array Value) (a1 : Option Addr) (len1 cap1 : Nat) (w : World) (w0 : RC Tryz.prog w 26 cs0.toList) (w1 : RC Tryz.prog w 40 [.slice a1 len1 cap1]) :
    Calls Tryz.prog 5 #[.agg cs0, .slice a1 len1 cap1] w fun e w' => e = .returned (.bool true) ∧ Below w.heap.size w w' := by
  obtain ⟨G, hG, _⟩ := facts_of w1
  have KF : Hid (∀ y, Below w.heap.size w y → HasF y (fun b => b < w.heap.size) a1 len1 cap1 G) := Lib.hid fun y hy => hG.mv elFct_ok (Mv.below hy fun b hb => hb)
  have hlm := hG.lenMax
  have hlc := hG.cap
  have hcm := hG.capMax
  clear w1 hG
  obtain ⟨A1, n1, c1, A2, n2, c2, A3, n3, c3, D, M, V, es, hS, hf, hm⟩ := schR_of w0
  obtain rfl : cs0 = #[.slice A1 n1 c1, .slice A2 n2 c2, .slice A3 n3 c3] := by rw [← Array.toArray_toList (xs := cs0), es]
  clear w0 es
  have hb0 := below_a1 w (.cells #[.slice A1 n1 c1, .slice A2 n2 c2, .slice A3 n3 c3] 26)
  have hX := Block.new w 26 #[.slice A1 n1 c1, .slice A2 n2 c2, .slice A3 n3 c3]
  have HSM := Lib.hid (small_any (hS.belowS hb0).has)
  have HS0 := Lib.hid hS
  have HfD := Lib.hid hf
  have HfM := Lib.hid hm
  clear hS hf hm
  go_enter Tryz.func5, Tryz.ntmps5
  go_wp2_with fail
  generalize w.alloc (.cells #[.slice A1 n1 c1, .slice A2 n2 c2, .slice A3 n3 c3] 26) = w1 at hb0 hX HSM ⊢
  refine HSM.out.mono ?_
  rintro e w2 ⟨rfl, hb2⟩
  have hX2 := hX.below hb2 hX.lt
  have x0 : w2.cell? ⟨w.heap.size, 0, none⟩ = some (.slice A1 n1 c1) := hX2.cell 0
  have x1 : w2.cell? ⟨w.heap.size, 1, none⟩ = some (.slice A2 n2 c2) := hX2.cell 1
  have x2 : w2.cell? ⟨w.heap.size, 2, none⟩ = some (.slice A3 n3 c3) := hX2.cell 2
  have f0 := hX2.free 0
  have f1 := hX2.free 1
  have f2 := hX2.free 2
  have hX3 := ((hX2.set_ 0 (.slice A1 (min n1 6) c1)).set_ 1 (.slice A2 (min n2 6) c2)).set_ 2 (.slice A3 (min n3 9) c3)
  have hB3 := (((hb0.trans (hb2.mono hb0.size)).setCell (p := ⟨w.heap.size, 0, none⟩) (Nat.le_refl _) (.slice A1 (min n1 6) c1)).setCell (p := ⟨w.heap.size, 1, none⟩) (Nat.le_refl _) (.slice A2 (min n2 6) c2)).setCell (p := ⟨w.heap.size, 2, none⟩) (Nat.le_refl _) (.slice A3 (min n3 9) c3)
  obtain ⟨N1, hN1⟩ : ∃ N1, min n1 6 = N1 := ⟨_, rfl⟩
  obtain ⟨N2, hN2⟩ : ∃ N2, min n2 6 = N2 := ⟨_, rfl⟩
  obtain ⟨N3, hN3⟩ : ∃ N3, min n3 9 = N3 := ⟨_, rfl⟩
  have l1 : N1 ≤ 6 := by omega
  have l3 : N3 ≤ 9 := by omega
  rw [hN1, hN2, hN3] at hX3 hB3
  rw [hN1, hN2, hN3]
  have hSt := Lib.hid (show SchR w (fun b => b < w.heap.size) A1 N1 c1 A2 N2 c2 A3 N3 c3 (D.take 6) (M.take 6) (V.take 9) from by
    rw [← hN1, ← hN2, ← hN3]
    exact ⟨HS0.out.d.take9 6, HS0.out.m.take9 6, HS0.out.v.take9 9⟩)
  have HfD6 : Hid (FitD (D.take 6)) := Lib.hid fun d hd => HfD.out d (List.mem_of_mem_take hd)
  have HfM6 : Hid (∀ s ∈ M.take 6, s.length ≤ maxLen) := Lib.hid fun s hs => HfM.out s (List.mem_of_mem_take hs)
  clear HSM hX hb0 hb2 hX2 hN1 hN2 hN3 HfD HfM HS0
  generalize D.take 6 = D' at hSt HfD6
  generalize M.take 6 = M' at hSt HfM6
  generalize V.take 9 = V' at hSt
  go_wp2_with fail
  clear x0 x1 x2 f0 f1 f2
  generalize ((w2.setCell ⟨w.heap.size, 0, none⟩ (.slice A1 N1 c1)).setCell ⟨w.heap.size, 1, none⟩ (.slice A2 N2 c2)).setCell ⟨w.heap.size, 2, none⟩ (.slice A3 N3 c3) = w3 at hX3 hB3 ⊢
  have HB3 := Lib.hid hB3
  have HS3 := Lib.hid (show SchR w3 (fun b => b < w.heap.size) A1 N1 c1 A2 N2 c2 A3 N3 c3 D' M' V' from hSt.out.mv (Mv.below hB3 fun b hb => hb))
  have KX : Hid (∀ y, Below w3.heap.size w3 y → y.cell? ⟨w.heap.size, 0, none⟩ = some (.slice A1 N1 c1) ∧ y.cell? ⟨w.heap.size, 1, none⟩ = some (.slice A2 N2 c2) ∧ y.cell? ⟨w.heap.size, 2, none⟩ = some (.slice A3 N3 c3)) := Lib.hid fun y hy => by
    have h := hX3.below hy hX3.lt
    exact ⟨h.cell 0, h.cell 1, h.cell 2⟩
  obtain ⟨x0, x1, x2⟩ := KX.out w3 (Below.refl _ _)
  clear hX3 hB3 hSt

  by_cases hmay : mayS D' M' V'
  · have HN := Lib.hid (fun (y : World) (hy : Below w3.heap.size w3 y) => newS_yes (HS3.out.belowS hy) HfD6.out HfM6.out hmay)
    go_wp2_with fail
    refine (HN.out w3 (Below.refl _ _)).mono ?_
    rintro e w4 ⟨g, F, R, rfl, hL4, hR4, hb4⟩
    obtain ⟨y0, y1, y2⟩ := KX.out w4 hb4
    go_wp2_with fail
    refine (HN.out w4 hb4).mono ?_
    rintro e w5 ⟨g', F', R', rfl, hM5, hR5, hb5⟩
    have hL5 := hL4.below hb5
    have HB5 := Lib.hid (below_then HB3.out (below_then hb4 hb5))
    have hz4 : w3.heap.size ≤ w4.heap.size := hb4.size
    have hz5 : w4.heap.size ≤ w5.heap.size := hb5.size
    have hap : ∀ k, F k → ¬ F' k ∧ ¬ R' k := fun k hk => by
      have h1 := hL4.lt hk
      exact ⟨fun h2 => by have := hM5.low k h2; omega, fun h2 => by have := hR5 k h2; omega⟩
    have hap' : ∀ k, F' k → ¬ F k ∧ ¬ R k := fun k hk => by
      have h1 := hM5.low k hk
      exact ⟨fun h2 => by have := hL4.lt h2; omega, fun h2 => by have := hL4.rlt k h2; omega⟩
    clear hb4 hb5 HN hL4 hR5 hR4 x0 x1 x2 y0 y1 y2

    by_cases h8 : (8 : Int) < (len1 : Int)
    · have h8c : (8 : Int) ≤ (cap1 : Int) := by omega
      have hzw : w.heap.size ≤ w3.heap.size := HB3.out.size
      have HA0 := Lib.hid hap
      have HM5 := Lib.hid hM5
      have HL5 := Lib.hid hL5
      have HAp := Lib.hid hap'
      have hSF : ∀ b, b < w.heap.size → ¬ F b := fun b hb hf => by have := HL5.out.low b hf; omega
      have hsz5 : w3.heap.size ≤ w5.heap.size := by omega
      obtain ⟨G0, hG0⟩ : ∃ G0 : List Fct, Hid (G.take 8 = G0) := ⟨_, Lib.hid rfl⟩
      have hG5 : HasF w5 (fun b => b < w.heap.size) a1 8 cap1 G0 := by rw [← hG0.out]; exact (KF.out w5 HB5.out).take_ (by omega)
      have HGw : Hid (∀ y, Below w.heap.size w y → HasF y (fun b => b < w.heap.size) a1 8 cap1 G0) := Lib.hid fun y hy => by
        have h1 := (KF.out y hy)
        rw [← hG0.out]
        exact h1.take_ (by omega)
      have hGl := Lib.hid hG5.len
      have hGc := hG5.cap
      have hGm := hG5.capMax
      clear hM5 hL5 hap hap'
      by_cases hx : (applyP D' M' V' [] (D'.map fun _ => []) G0).2 = 0
      · have HA := Lib.hid (applyS_yes HL5.out hsz5 hG5 hSF hx)
        have Hx := Lib.hid hx
        clear hx hG5
        go_wp2_with fail
        refine HA.out.mono ?_
        rintro e w6 ⟨rfl, F6, hs6, hc6, hf6⟩
        have HB6 := Lib.hid (HB5.out.trans (hc6.below HB5.out.size fun q hq => by have := HL5.out.low q hq; omega))
        have HS6 := Lib.hid hs6
        have hz6 := hc6.size
        have hM6 := HM5.out.apart hc6 HA0.out
        have hp6 : ∀ k, F' k → ¬ F6 k ∧ ¬ R k := fun k hk => ⟨fun h1 => by
          rcases hf6 k h1 with h2 | h2
          · exact (HAp.out k hk).1 h2
          · have := HM5.out.lt hk; omega, (HAp.out k hk).2⟩
        have H0 := Lib.hid (show ∃ F2, LSt w6 g' F2 R' w4.heap.size D' M' V' ((G0.take 0).map entF) (addsD (levN D') (D'.map fun _ => []) (G0.take 0)).1 ∧ LSt w6 g F6 R w3.heap.size D' M' V' (G0.map entF) (addsD (levN D') (D'.map fun _ => []) G0).1 ∧ ∀ k, F2 k → ¬ F6 k ∧ ¬ R k from ⟨F', hM6, hs6, hp6⟩)
        clear hs6 hc6 hf6 HA hM6 hp6
        go_wp2_with fail
        go_loopw [9, 10] (fun i _ wr => ∃ k : Nat, k ≤ 8 ∧ i = .int .i64 k ∧ Hid (∃ F2, LSt wr g' F2 R' w4.heap.size D' M' V' ((G0.take k).map entF) (addsD (levN D') (D'.map fun _ => []) (G0.take k)).1 ∧ LSt wr g F6 R w3.heap.size D' M' V' (G0.map entF) (addsD (levN D') (D'.map fun _ => []) G0).1 ∧ ∀ k, F2 k → ¬ F6 k ∧ ¬ R k) ∧ Below w.heap.size w wr ∧ w6.heap.size ≤ wr.heap.size) (fun i _ _ => 8 - (intOf i).toNat)
        case atStart => exact ⟨0, Nat.zero_le _, rfl, H0, HB6.out, Nat.le_refl _⟩
        case round =>
          obtain ⟨k, hk, rfl, hO, hB, hz⟩ := hrel
          by_cases hlt : k < 8
          · obtain ⟨F2, hs2, hs1, hp⟩ := hO.out
            have hGr := HGw.out wr hB
            obtain ⟨b, o, us, f, rfl, _, _, _, _, _, he⟩ := hGr.at_ hlt
            have hGs := hGr.sub_ hlt he.out
            have i0 : (0 : Int) ≤ (k : Int) := by omega
            have i1 : (k : Int) < (8 : Int) := by omega
            have hSF2 : ∀ b, b < w.heap.size → ¬ F2 b := fun b hb hf => by have := hs2.low b hf; omega
            have hB4 : w4.heap.size ≤ wr.heap.size := by omega
            have hone := applyP_one Hx.out he.out rfl rfl
            have HA := Lib.hid (applyS_any hs2 hB4 hGs hSF2)
            have HB := Lib.hid hB
            have HST := Lib.hid (And.intro hs2 (And.intro hs1 hp))
            clear hs2 hs1 hp hO hGr hGs hB he
            rcases hone with h14 | ⟨h0, hE, hR⟩
            · rw [h14] at HA
              clear h14
              go_wp2_with fail
              refine HA.out.mono ?_
              rintro e w7 ⟨rfl, F7, hs7, hc7, hf7⟩
              have HB7 := Lib.hid (HB.out.trans (hc7.below HB.out.size fun q hq => by have := HST.out.1.low q hq; omega))
              clear HA hs7 hc7 hf7
              go_wp2_with fail
              refine (latLives_any _).mono ?_
              rintro y wz ⟨rfl, hBz⟩
              have HBz := Lib.hid (below_then HB7.out hBz)
              clear hBz
              go_wp2_with fail
              go_ret
              exact ⟨rfl, HBz.out⟩
            · have hx1 := applyP_yes h0
              have e1 : (applyP D' M' V' ((G0.take k).map entF) (addsD (levN D') (D'.map fun _ => []) (G0.take k)).1 [f]).1.1 = (G0.take (k + 1)).map entF := by rw [hx1]; exact hE
              have e2 : (applyP D' M' V' ((G0.take k).map entF) (addsD (levN D') (D'.map fun _ => []) (G0.take k)).1 [f]).1.2 = (addsD (levN D') (D'.map fun _ => []) (G0.take (k + 1))).1 := by rw [hx1]; exact hR
              rw [h0, e1, e2] at HA
              clear h0 hE hR hx1 e1 e2
              go_wp2_with fail
              refine HA.out.mono ?_
              rintro e w7 ⟨rfl, F7, hs7, hc7, hf7⟩
              have HB7 := Lib.hid (HB.out.trans (hc7.below HB.out.size fun q hq => by have := HST.out.1.low q hq; omega))
              have hz7 := hc7.size
              have h1 := HST.out.2.1.apart hc7 HST.out.2.2
              have h2 : ∀ k, F7 k → ¬ F6 k ∧ ¬ R k := fun k hk => by
                rcases hf7 k hk with h3 | h3
                · exact HST.out.2.2 k h3
                · exact ⟨fun h4 => by have := HST.out.2.1.lt h4; omega, fun h4 => by have := HST.out.2.1.rlt k h4; omega⟩
              have HN7 := Lib.hid (And.intro hs7 (And.intro h1 h2))
              clear HA hs7 hc7 hf7 h1 h2 HST
              go_wp2_with fail
              go_roundw
              case rel => exact ⟨k + 1, by omega, by go_num, Lib.hid ⟨F7, HN7.out.1, HN7.out.2.1, HN7.out.2.2⟩, HB7.out, by omega⟩
              case measure => simp [intOf]; omega
          · obtain ⟨F2, hs2, hs1, hp⟩ := hO.out
            have hall : G0.take k = G0 := List.take_of_length_le (by have := hGl.out; omega)
            rw [hall] at hs2
            have HP1 := Lib.hid (putS_nil hs1)
            have HB := Lib.hid hB
            have HST := Lib.hid (And.intro hs2 hs1)
            clear hs2 hs1 hp hO hB hall
            go_wp2_with fail
            refine HP1.out.mono ?_
            rintro e w7 ⟨v7, C7, rfl, hC7, hO7, hb7⟩
            have HB7 := Lib.hid (HB.out.trans (hb7.mono HB.out.size))
            have HS7 := Lib.hid (And.intro (HST.out.1.below hb7) (HST.out.2.below hb7))
            have HP2 := Lib.hid (putS_nil HS7.out.1)
            have H7 := Lib.hid (And.intro hC7 hO7)
            clear HP1 HST hC7 hO7 hb7
            go_wp2_with fail
            refine HP2.out.mono ?_
            rintro e w8 ⟨v8, C8, rfl, hC8, hO8, hb8⟩
            obtain rfl : C7 = C8 := H7.out.1.one hC8
            obtain ⟨Aa, na, ca, rfl, hHa, _⟩ := (H7.out.2.below hb8 (Nat.le_refl _)).formN
            obtain ⟨Ab, nb, cb, rfl, hHb, _⟩ := hO8.formN
            have HSm := Lib.hid (same_any _ _ _ _ _ _ _ _ _ _ _ hHa hHb)
            have HB8 := Lib.hid (HB7.out.trans (hb8.mono HB7.out.size))
            have HS8 := Lib.hid (And.intro (HS7.out.1.below hb8) (HS7.out.2.below hb8))
            have hll : ∀ l : List UInt8, (l == l) = true := fun l => by simp
            rw [hll] at HSm
            clear hC8 hO8 hb8 HP2 H7 hHa hHb hll HS7
            go_wp2_with fail
            refine HSm.out.mono ?_
            rintro e w9 ⟨rfl, q9, rfl⟩
            have HF1 := Lib.hid (factsS_any (HS8.out.2.drewN q9))
            have HF2 := Lib.hid (factsS_any (HS8.out.1.drewN q9))
            have HB9 := Lib.hid (below_drewN HB8.out q9)
            have hee : ∀ c : Int, (c == c) = true := fun c => by simp
            have hee := hee (cntE (G0.map entF))
            obtain ⟨cE, hcE⟩ : ∃ cE, Hid (cntE (G0.map entF) = cE) := ⟨_, Lib.hid rfl⟩
            rw [hcE.out] at HF1 HF2 hee
            clear HSm
            go_wp2_with fail
            refine HF1.out.mono ?_
            rintro e w10 ⟨rfl, rfl⟩
            go_wp2_with fail
            refine HF2.out.mono ?_
            rintro e w11 ⟨rfl, rfl⟩
            clear HF1 HF2
            go_wp2_with fail
            refine (latLives_any _).mono ?_
            rintro y wz ⟨rfl, hBz⟩
            have HBz := Lib.hid (below_then HB9.out hBz)
            clear hBz
            go_wp2_with fail
            go_ret
            exact ⟨rfl, HBz.out⟩
      · have HA := Lib.hid (applyS_no HL5.out hsz5 hG5 hSF rfl hx)
        obtain ⟨x, hxe⟩ : ∃ x, Hid ((applyP D' M' V' [] (D'.map fun _ => []) G0).2 = x) := ⟨_, Lib.hid rfl⟩
        rw [hxe.out] at HA hx
        have hx0 : ((x : Int) != 0) = true := by simp; omega
        clear hx hG5
        go_wp2_with fail
        refine HA.out.mono ?_
        rintro e w6 ⟨rfl, F6, hs6, hc6, hf6⟩
        have HB6 := Lib.hid (HB5.out.trans (hc6.below HB5.out.size fun q hq => by have := HL5.out.low q hq; omega))
        clear HA hs6 hc6 hf6
        go_wp2_with fail
        refine (latLives_any _).mono ?_
        rintro y wz ⟨rfl, hBz⟩
        have HBz := Lib.hid (below_then HB6.out hBz)
        clear hBz
        go_wp2_with fail
        go_ret
        exact ⟨rfl, HBz.out⟩

    · have hzw : w.heap.size ≤ w3.heap.size := HB3.out.size
      have HA0 := Lib.hid hap
      have HM5 := Lib.hid hM5
      have HL5 := Lib.hid hL5
      have HAp := Lib.hid hap'
      have hSF : ∀ b, b < w.heap.size → ¬ F b := fun b hb hf => by have := HL5.out.low b hf; omega
      have hsz5 : w3.heap.size ≤ w5.heap.size := by omega
      obtain ⟨G0, hG0⟩ : ∃ G0 : List Fct, Hid (G = G0) := ⟨_, Lib.hid rfl⟩
      have hG5 : HasF w5 (fun b => b < w.heap.size) a1 len1 cap1 G0 := by rw [← hG0.out]; exact KF.out w5 HB5.out
      have HGw : Hid (∀ y, Below w.heap.size w y → HasF y (fun b => b < w.heap.size) a1 len1 cap1 G0) := Lib.hid fun y hy => by
        have h1 := (KF.out y hy)
        rw [← hG0.out]
        exact h1
      have hGl := Lib.hid hG5.len
      have hGc := hG5.cap
      have hGm := hG5.capMax
      clear hM5 hL5 hap hap'
      by_cases hx : (applyP D' M' V' [] (D'.map fun _ => []) G0).2 = 0
      · have HA := Lib.hid (applyS_yes HL5.out hsz5 hG5 hSF hx)
        have Hx := Lib.hid hx
        clear hx hG5
        go_wp2_with fail
        refine HA.out.mono ?_
        rintro e w6 ⟨rfl, F6, hs6, hc6, hf6⟩
        have HB6 := Lib.hid (HB5.out.trans (hc6.below HB5.out.size fun q hq => by have := HL5.out.low q hq; omega))
        have HS6 := Lib.hid hs6
        have hz6 := hc6.size
        have hM6 := HM5.out.apart hc6 HA0.out
        have hp6 : ∀ k, F' k → ¬ F6 k ∧ ¬ R k := fun k hk => ⟨fun h1 => by
          rcases hf6 k h1 with h2 | h2
          · exact (HAp.out k hk).1 h2
          · have := HM5.out.lt hk; omega, (HAp.out k hk).2⟩
        have H0 := Lib.hid (show ∃ F2, LSt w6 g' F2 R' w4.heap.size D' M' V' ((G0.take 0).map entF) (addsD (levN D') (D'.map fun _ => []) (G0.take 0)).1 ∧ LSt w6 g F6 R w3.heap.size D' M' V' (G0.map entF) (addsD (levN D') (D'.map fun _ => []) G0).1 ∧ ∀ k, F2 k → ¬ F6 k ∧ ¬ R k from ⟨F', hM6, hs6, hp6⟩)
        clear hs6 hc6 hf6 HA hM6 hp6
        go_wp2_with fail
        go_loopw [9, 10] (fun i _ wr => ∃ k : Nat, k ≤ len1 ∧ i = .int .i64 k ∧ Hid (∃ F2, LSt wr g' F2 R' w4.heap.size D' M' V' ((G0.take k).map entF) (addsD (levN D') (D'.map fun _ => []) (G0.take k)).1 ∧ LSt wr g F6 R w3.heap.size D' M' V' (G0.map entF) (addsD (levN D') (D'.map fun _ => []) G0).1 ∧ ∀ k, F2 k → ¬ F6 k ∧ ¬ R k) ∧ Below w.heap.size w wr ∧ w6.heap.size ≤ wr.heap.size) (fun i _ _ => len1 - (intOf i).toNat)
        case atStart => exact ⟨0, Nat.zero_le _, rfl, H0, HB6.out, Nat.le_refl _⟩
        case round =>
          obtain ⟨k, hk, rfl, hO, hB, hz⟩ := hrel
          by_cases hlt : k < len1
          · obtain ⟨F2, hs2, hs1, hp⟩ := hO.out
            have hGr := HGw.out wr hB
            obtain ⟨b, o, us, f, rfl, _, _, _, _, _, he⟩ := hGr.at_ hlt
            have hGs := hGr.sub_ hlt he.out
            have i0 : (0 : Int) ≤ (k : Int) := by omega
            have i1 : (k : Int) < (len1 : Int) := by omega
            have hSF2 : ∀ b, b < w.heap.size → ¬ F2 b := fun b hb hf => by have := hs2.low b hf; omega
            have hB4 : w4.heap.size ≤ wr.heap.size := by omega
            have hone := applyP_one Hx.out he.out rfl rfl
            have HA := Lib.hid (applyS_any hs2 hB4 hGs hSF2)
            have HB := Lib.hid hB
            have HST := Lib.hid (And.intro hs2 (And.intro hs1 hp))
            clear hs2 hs1 hp hO hGr hGs hB he
            rcases hone with h14 | ⟨h0, hE, hR⟩
            · rw [h14] at HA
              clear h14
              go_wp2_with fail
              refine HA.out.mono ?_
              rintro e w7 ⟨rfl, F7, hs7, hc7, hf7⟩
              have HB7 := Lib.hid (HB.out.trans (hc7.below HB.out.size fun q hq => by have := HST.out.1.low q hq; omega))
              clear HA hs7 hc7 hf7
              go_wp2_with fail
              refine (latLives_any _).mono ?_
              rintro y wz ⟨rfl, hBz⟩
              have HBz := Lib.hid (below_then HB7.out hBz)
              clear hBz
              go_wp2_with fail
              go_ret
              exact ⟨rfl, HBz.out⟩
            · have hx1 := applyP_yes h0
              have e1 : (applyP D' M' V' ((G0.take k).map entF) (addsD (levN D') (D'.map fun _ => []) (G0.take k)).1 [f]).1.1 = (G0.take (k + 1)).map entF := by rw [hx1]; exact hE
              have e2 : (applyP D' M' V' ((G0.take k).map entF) (addsD (levN D') (D'.map fun _ => []) (G0.take k)).1 [f]).1.2 = (addsD (levN D') (D'.map fun _ => []) (G0.take (k + 1))).1 := by rw [hx1]; exact hR
              rw [h0, e1, e2] at HA
              clear h0 hE hR hx1 e1 e2
              go_wp2_with fail
              refine HA.out.mono ?_
              rintro e w7 ⟨rfl, F7, hs7, hc7, hf7⟩
              have HB7 := Lib.hid (HB.out.trans (hc7.below HB.out.size fun q hq => by have := HST.out.1.low q hq; omega))
              have hz7 := hc7.size
              have h1 := HST.out.2.1.apart hc7 HST.out.2.2
              have h2 : ∀ k, F7 k → ¬ F6 k ∧ ¬ R k := fun k hk => by
                rcases hf7 k hk with h3 | h3
                · exact HST.out.2.2 k h3
                · exact ⟨fun h4 => by have := HST.out.2.1.lt h4; omega, fun h4 => by have := HST.out.2.1.rlt k h4; omega⟩
              have HN7 := Lib.hid (And.intro hs7 (And.intro h1 h2))
              clear HA hs7 hc7 hf7 h1 h2 HST
              go_wp2_with fail
              go_roundw
              case rel => exact ⟨k + 1, by omega, by go_num, Lib.hid ⟨F7, HN7.out.1, HN7.out.2.1, HN7.out.2.2⟩, HB7.out, by omega⟩
              case measure => simp [intOf]; omega
          · obtain ⟨F2, hs2, hs1, hp⟩ := hO.out
            have hall : G0.take k = G0 := List.take_of_length_le (by have := hGl.out; omega)
            rw [hall] at hs2
            have HP1 := Lib.hid (putS_nil hs1)
            have HB := Lib.hid hB
            have HST := Lib.hid (And.intro hs2 hs1)
            clear hs2 hs1 hp hO hB hall
            go_wp2_with fail
            refine HP1.out.mono ?_
            rintro e w7 ⟨v7, C7, rfl, hC7, hO7, hb7⟩
            have HB7 := Lib.hid (HB.out.trans (hb7.mono HB.out.size))
            have HS7 := Lib.hid (And.intro (HST.out.1.below hb7) (HST.out.2.below hb7))
            have HP2 := Lib.hid (putS_nil HS7.out.1)
            have H7 := Lib.hid (And.intro hC7 hO7)
            clear HP1 HST hC7 hO7 hb7
            go_wp2_with fail
            refine HP2.out.mono ?_
            rintro e w8 ⟨v8, C8, rfl, hC8, hO8, hb8⟩
            obtain rfl : C7 = C8 := H7.out.1.one hC8
            obtain ⟨Aa, na, ca, rfl, hHa, _⟩ := (H7.out.2.below hb8 (Nat.le_refl _)).formN
            obtain ⟨Ab, nb, cb, rfl, hHb, _⟩ := hO8.formN
            have HSm := Lib.hid (same_any _ _ _ _ _ _ _ _ _ _ _ hHa hHb)
            have HB8 := Lib.hid (HB7.out.trans (hb8.mono HB7.out.size))
            have HS8 := Lib.hid (And.intro (HS7.out.1.below hb8) (HS7.out.2.below hb8))
            have hll : ∀ l : List UInt8, (l == l) = true := fun l => by simp
            rw [hll] at HSm
            clear hC8 hO8 hb8 HP2 H7 hHa hHb hll HS7
            go_wp2_with fail
            refine HSm.out.mono ?_
            rintro e w9 ⟨rfl, q9, rfl⟩
            have HF1 := Lib.hid (factsS_any (HS8.out.2.drewN q9))
            have HF2 := Lib.hid (factsS_any (HS8.out.1.drewN q9))
            have HB9 := Lib.hid (below_drewN HB8.out q9)
            have hee : ∀ c : Int, (c == c) = true := fun c => by simp
            have hee := hee (cntE (G0.map entF))
            obtain ⟨cE, hcE⟩ : ∃ cE, Hid (cntE (G0.map entF) = cE) := ⟨_, Lib.hid rfl⟩
            rw [hcE.out] at HF1 HF2 hee
            clear HSm
            go_wp2_with fail
            refine HF1.out.mono ?_
            rintro e w10 ⟨rfl, rfl⟩
            go_wp2_with fail
            refine HF2.out.mono ?_
            rintro e w11 ⟨rfl, rfl⟩
            clear HF1 HF2
            go_wp2_with fail
            refine (latLives_any _).mono ?_
            rintro y wz ⟨rfl, hBz⟩
            have HBz := Lib.hid (below_then HB9.out hBz)
            clear hBz
            go_wp2_with fail
            go_ret
            exact ⟨rfl, HBz.out⟩
      · have HA := Lib.hid (applyS_no HL5.out hsz5 hG5 hSF rfl hx)
        obtain ⟨x, hxe⟩ : ∃ x, Hid ((applyP D' M' V' [] (D'.map fun _ => []) G0).2 = x) := ⟨_, Lib.hid rfl⟩
        rw [hxe.out] at HA hx
        have hx0 : ((x : Int) != 0) = true := by simp; omega
        clear hx hG5
        go_wp2_with fail
        refine HA.out.mono ?_
        rintro e w6 ⟨rfl, F6, hs6, hc6, hf6⟩
        have HB6 := Lib.hid (HB5.out.trans (hc6.below HB5.out.size fun q hq => by have := HL5.out.low q hq; omega))
        clear HA hs6 hc6 hf6
        go_wp2_with fail
        refine (latLives_any _).mono ?_
        rintro y wz ⟨rfl, hBz⟩
        have HBz := Lib.hid (below_then HB6.out hBz)
        clear hBz
        go_wp2_with fail
        go_ret
        exact ⟨rfl, HBz.out⟩

  · have HN := Lib.hid (fun (y : World) (hy : Below w3.heap.size w3 y) => newL_no (HS3.out.belowS hy) HfD6.out HfM6.out (by omega) hmay)
    go_wp2_with fail
    refine (HN.out w3 (Below.refl _ _)).mono ?_
    rintro e w4 ⟨rfl, hb4⟩
    obtain ⟨y0, y1, y2⟩ := KX.out w4 hb4
    go_wp2_with fail
    refine (HN.out w4 hb4).mono ?_
    rintro e w5 ⟨rfl, hb5⟩
    have HB5 := Lib.hid (below_then HB3.out (below_then hb4 hb5))
    clear hb4 hb5 HN

    go_wp2_with fail
    refine (latLives_any _).mono ?_
    rintro y wz ⟨rfl, hBz⟩
    have HBz := Lib.hid (below_then HB5.out hBz)
    clear hBz
    go_wp2_with fail
    go_ret
    exact ⟨rfl, HBz.out⟩

set_option maxRecDepth 100000 in
theorem lifted (os : Os) (started : os.Started) (H : Type) (enc : TypeId × Value → H) :
    ReturnsInHanded {} Tryz.checked os 5 .any (Rows.latticeBatchesSpec.pre6 enc Tryz.prog Tryz.f5 Rows.latticeBatchesRow.domain false) (Rows.latticeBatchesSpec.post enc Tryz.prog Tryz.f5 false true false false) := by
  refine returnsInHanded_of_change (C := Tryz.checked) own started (by kernel_rfl) Tryz.func5
    (ChangeSpec.witness6 (enc := enc) (C := Tryz.checked) false ⟨#[], #[.agg #[.slice none 0 0, .slice none 0 0, .slice none 0 0], .slice none 0 0], []⟩ 8 (by kernel_rfl) (by kernel_rfl) (by kernel_rfl) (by kernel_rfl)) ?_
  intro W base args ds gs before hval0 hW hcnd _
  have hval : ∀ (j : Nat) t v, Tryz.f5.params[j]? = some t → args[j]? = some v → Value.okWide Tryz.prog W .any base t v := hval0
  have hW' := hW
  obtain ⟨p, q, hA0, hV, rfl, hfz, hnd⟩ := hW
  have hA : DataW.TrodAll enc Tryz.prog W 0 (fun _ => true) true Tryz.f5.params.toList args.toList ds p := hA0
  rw [Tryz.params5] at hA hval
  obtain ⟨v0, vs0, d0, ds0, p0, q0, hargs, rfl, rfl, h0, r0⟩ := trodAll_cons hA
  obtain ⟨v1, vs1, d1, ds1, p1, q1, rfl, rfl, rfl, h1, r1⟩ := trodAll_cons r0
  obtain ⟨rfl, rfl, rfl⟩ := trodAll_nil r1
  obtain rfl : args = #[v0, v1] := by cases args; simp_all
  obtain ⟨rfl, rfl⟩ := trodVars_none hV
  obtain ⟨cs0, rfl, hsz0⟩ := okWide_struct Tryz.underlying26 (hval 0 26 v0 rfl rfl)
  have k0 := h0
  have lt0 : ∀ x ∈ p0, x.block < W.heap.size := by obtain ⟨m, hm⟩ := k0; exact DataW.trod_lt m _ _ _ hm
  have w0 : RC Tryz.prog W 26 cs0.toList := by
    obtain ⟨fuel, hf⟩ := h0
    exact ⟨_, _, _, _, _, fuel, _, by simpa [Value.cells] using hf⟩
  obtain ⟨a1, len1, cap1, rfl⟩ := okWide_slice Tryz.underlying40 (hval 1 40 v1 rfl rfl)
  have k1 := h1
  have lt1 : ∀ x ∈ p1, x.block < W.heap.size := by obtain ⟨m, hm⟩ := k1; exact DataW.trod_lt m _ _ _ hm
  have w1 : RC Tryz.prog W 40 [.slice a1 len1 cap1] := by
    obtain ⟨fuel, hf⟩ := h1
    exact ⟨_, _, _, _, _, fuel, _, hf⟩
  clear hA0 hval0
  refine (walk cs0 a1 len1 cap1 W w0 w1).mono fun e W' ⟨he, bel⟩ => ?_
  subst he
  exact ⟨_, rfl, _, _, _, [], _, [], hW', trodAll_mk1 (shut_bool Tryz.underlying4 _), (trodAll_cons_mk (Below.trod laidOut (by kernel_rfl) (of_decide_eq_true (by kernel_rfl)) k0 bel lt0) (trodAll_cons_mk (Below.trod laidOut (by kernel_rfl) (of_decide_eq_true (by kernel_rfl)) k1 bel lt1) trodAll_mk0)), rfl, bel.frame _, fun h => by cases h⟩

theorem over : Rows.latticeBatchesRow.holds Tryz.pinned (OpenSpec.ofChange Rows.latticeBatchesSpec) :=
  OpenClaim.holds_of_wide 5 Tryz.f5 rfl rfl rfl rfl rfl rfl rfl ⟨rfl, rfl, rfl, rfl, rfl⟩ rfl rfl rfl rfl rfl (by kernel_rfl) Tryz.func5 (by kernel_rfl)
    (of_decide_eq_true (by kernel_rfl)) (by unfold Func.isWrapper; first | (rw [if_pos (by decide +kernel)]; kernel_rfl) | (rw [if_neg (by decide +kernel)]; exact ⟨rfl, rfl⟩))
    (fun os started H enc _ => lifted os started H enc)

theorem proved : Rows.LatticeBatchesSaid := over
end Go.Proofs.YtmepdkdeanbbaaaGreat.latticeBatches
