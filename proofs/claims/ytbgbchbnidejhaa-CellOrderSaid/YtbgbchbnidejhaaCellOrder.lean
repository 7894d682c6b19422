/-
  Proved: of any values (the first 40, of each the first five numbers), from back to front, and turned round from any place on, cell.Fold answers the same; the document's examples hold, and nothing that was handed in changes. No condition.
-/
import Derived.Test.YtbgbchbnidejhaaRows
import Derived.Test.YtbgbchbnidejhaaCellO
import Derived.WalkKit
import Derived.ProofKit
import Derived.OpenShut
import Derived.ShutString
import Derived.ChangeOld
import Derived.Below
namespace Go.Proofs.Ytbgbchbnidejhaa.cellOrder
open Go.ChangeShapes Go.WideShapes Go.ChangeAt Go.RowKit
open Go.ChangeMaps (open_string shut_string)
set_option linter.unusedVariables false

theorem own : ownKnob Try.prog.godebug = none := by kernel_rfl
theorem laidOut : laidOutB Try.prog = true := by kernel_rfl

def IsRow (k : IntKind) (w : World) (a : Option Addr) (len cap : Nat) (zs : List Int) : Prop :=
  (a = none ∧ len = 0 ∧ cap = 0 ∧ zs = []) ∨
  ∃ x, a = some x ∧ len ≤ cap ∧ cap ≤ maxLen ∧ zs.length = cap ∧ (∀ i, i < zs.length → w.cell? (x.add i) = some (.int k (zs.getD i 0))) ∧ ∀ n ∈ zs, (Lit.int k n).wf = true

set_option maxRecDepth 100000 in
set_option maxHeartbeats 2000000 in
theorem walk (a0 : Int) (a1 : Option Addr) (len1 cap1 : Nat) (a2 : Int) (w : World) (w0 : (Lit.int .i64 a0).wf = true) (w1 : RC Try.prog w 22 [.slice a1 len1 cap1]) (w2 : (Lit.int .i64 a2).wf = true) :
    Calls Try.prog 6 #[.int .i64 a0, .slice a1 len1 cap1, .int .i64 a2] w fun e w' => e = .returned (.bool true) ∧ Below w.heap.size w w' := by
  obtain ⟨L0, hL, _⟩ := w1.lists Try.underlying22 Try.underlying24 Try.underlying3 cells_intsC cells_intC
  obtain ⟨f0, f9⟩ := i64_of_wf w2
  clear w1 w2
  go_enter Try.func6, Try.ntmps6
  go_wp2_with fail
  refine (fewL_any hL 40 (by decide)).mono ?_
  rintro e v1 ⟨⟨A', n, c, rfl, hF, hn⟩, HB⟩
  generalize fewL L0 40 = L at hF
  have hcap := hF.cap
  have hcm := hF.capMax
  have hll := Lib.hid hF.len
  clear hL
  go_upto_if 21 with fail
  go_cut [2] (fun s2 wx => ∃ f : Int, s2 = .int .i64 f ∧ 0 ≤ f ∧ f ≤ 9223372036854775807 ∧ v1 = wx)
  case first =>
    by_cases h : a2 < 0
    · go_wp2_with fail
      go_meet
      exact ⟨_, rfl, by omega, by omega, rfl⟩
    · go_wp2_with fail
      go_meet
      exact ⟨_, rfl, by omega, by omega, rfl⟩
  case rest =>
    obtain ⟨f, rfl, hf0, hf9, rfl⟩ := hcut
    obtain ⟨t, htn, ht1⟩ : ∃ t : Nat, t ≤ n ∧ (0 < n → t < n ∧ f % (n : Int) = (t : Int)) := by
      by_cases h0 : 0 < n
      · have h1 := Int.emod_nonneg f (show (n : Int) ≠ 0 by omega)
        have h2 := Int.emod_lt_of_pos f (show 0 < (n : Int) by omega)
        exact ⟨(f % (n : Int)).toNat, by omega, fun _ => ⟨by omega, by omega⟩⟩
      · exact ⟨0, by omega, fun h => absurd h h0⟩
    have HT := Lib.hid ht1
    clear ht1
    obtain ⟨q, S, M, X, y, hr⟩ : ∃ q S M X y, Hid (cFold a0 L = ((q, S, M, X), y)) := ⟨_, _, _, _, _, Lib.hid rfl⟩
    have hrv : Hid (cFold a0 L.reverse = ((q, S, M, X), y)) := Lib.hid (by rw [cFold_reverse]; exact hr.out)
    have hru : Hid (cFold a0 (rotL L t) = ((q, S, M, X), y)) := Lib.hid (by unfold rotL; rw [cFold_turned]; exact hr.out)
    go_wp2_with fail
    go_loopw [7, 8, 9] (fun sb sr i wr => ∃ (k : Nat) (vb vr : Value), k ≤ n ∧ sb = vb ∧ sr = vr ∧ i = .int .i64 k ∧ OwnL wr v1.heap.size v1.heap.size 24 vb (L.reverse.take k) ∧ OwnL wr v1.heap.size v1.heap.size 24 vr ((rotL L t).take k) ∧ (∀ g, vb.ownBlock = some g → vr.ownBlock ≠ some g) ∧ Below v1.heap.size v1 wr) (fun _ _ i _ => n - (intOf i).toNat)
    case atStart => exact ⟨0, _, _, Nat.zero_le _, rfl, rfl, rfl, OwnL.nil_ _ _ _ _, OwnL.nil_ _ _ _ _, (fun g h => by cases h), Below.refl _ _⟩
    case round =>
      obtain ⟨k, vb, vr, hk, rfl, rfl, rfl, hOb, hOr, hD, hbe⟩ := hrel
      by_cases hlt : k < n
      · obtain ⟨htl, htf⟩ := HT.out (by omega)
        have ht2 : f.tmod (n : Int) = (t : Int) := by rw [Int.tmod_eq_emod_of_nonneg hf0]; exact htf
        obtain ⟨j, hj0, hj1⟩ : ∃ j : Nat, j < n ∧ (k + t) % n = j := ⟨_, Nat.mod_lt _ (by omega), rfl⟩
        have hkt : ((k : Int) + (t : Int)) % (n : Int) = (j : Int) := by rw [← hj1]; simp
        have hkt2 : ((k : Int) + (t : Int)).tmod (n : Int) = (j : Int) := by rw [Int.tmod_eq_emod_of_nonneg (by omega)]; exact hkt
        obtain ⟨p, hp⟩ : ∃ p : Nat, p = n - 1 - k := ⟨_, rfl⟩
        have hpn : p < n := by omega
        have hpk : (n : Int) - 1 - (k : Int) = (p : Int) := by omega
        obtain ⟨b, o, A1, n1, c1, l1, hAe, hb, g1, hl1, he1⟩ := hF.at_ hpn
        subst hAe
        obtain ⟨b', o', A2, n2, c2, l2, hAe, hb', g2, hl2, he2⟩ := hF.at_ hj0
        injection hAe with hAe
        injection hAe with hAe1 hAe2
        subst hAe1 hAe2
        have x1 : Hid (L.reverse.getD k [] = l1) := Lib.hid (by rw [revL_get (by rw [hll.out]; exact hlt), hll.out, ← hp, ← he1.out])
        have x2 : Hid ((rotL L t).getD k [] = l2) := Lib.hid (by rw [rotL_get (by rw [hll.out]; exact htn) (by rw [hll.out]; exact hlt), hll.out, hj1, ← he2.out])
        have y1 : Hid (L.reverse.take k ++ [l1] = L.reverse.take (k + 1)) := Lib.hid (takeL_snoc (by rw [List.length_reverse, hll.out]; exact hlt) x1.out)
        have y2 : Hid ((rotL L t).take k ++ [l2] = (rotL L t).take (k + 1)) := Lib.hid (takeL_snoc (by rw [rotL_length, hll.out]; exact hlt) x2.out)
        have G1 : wr.cell? ⟨b, o + p, none⟩ = some (.slice A1 n1 c1) := (hbe.cell (p := ⟨b, o + p, none⟩) hb).trans g1
        have H1 := hl1.below hbe (Nat.le_refl _)
        have n0 : ((n : Int) == 0) = false := by simp; omega
        have n1' : ¬ ((n : Int) = 0) := by omega
        have n2' : ¬ (n = 0) := by omega
        have i0 : (0 : Int) ≤ (p : Int) := by omega
        have i1 : (p : Int) < (n : Int) := by omega
        have i2 : (0 : Int) ≤ (j : Int) := by omega
        have i3 : (j : Int) < (n : Int) := by omega
        have q0 : IntKind.i64.wrap ((n : Int) - 1) = (n : Int) - 1 := IntWalk.i64_in _ (by omega)
        have q1 : IntKind.i64.wrap ((n : Int) - 1 - (k : Int)) = (p : Int) := by rw [hpk]; exact IntWalk.i64_in _ (by omega)
        have q2 : IntKind.i64.wrap ((k : Int) + (t : Int)) = (k : Int) + (t : Int) := IntWalk.i64_in _ (by omega)
        have q3 : IntKind.i64.wrap (t : Int) = (t : Int) := IntWalk.i64_in _ (by omega)
        have q4 : IntKind.i64.wrap (j : Int) = (j : Int) := IntWalk.i64_in _ (by omega)
        obtain ⟨E1, m1, d1, rfl⟩ := hOb.shape
        obtain ⟨E2, m2, d2, rfl⟩ := hOr.shape
        have hz := hbe.size
        have hlb : Hid ((L.reverse.take k).length ≤ 1000000 ∧ ((rotL L t).take k).length ≤ 1000000) := Lib.hid ⟨Nat.le_trans (List.length_take_le k _) (by omega), Nat.le_trans (List.length_take_le k _) (by omega)⟩
        clear hj1 hp g1 x1 x2 he1 he2 htf
        go_wp2_with (at_builtin; refine wpList_appL rfl _ _ rfl v1.heap.size v1.heap.size _ _ rfl (hOb.alloc_ _ hz) _ rfl A1 n1 c1 l1 (cell_litS _ _ _ _ (by simp)) (H1.alloc hz _) hlb.out.1 (by rw [World.size_alloc]; omega) (Nat.le_refl _) ?_)
        intro u1 w2 hO2 hG2 hlo2
        have hbe2 : Below v1.heap.size v1 w2 := (hbe.alloc hz _).trans (hG2.below_ (by rw [World.size_alloc]; omega) hlo2)
        have hOr2 := (hOr.alloc_ _ hz).kept_ hG2 (ne_of fun g h1 h2 => hD g h2 h1) hlo2 (by rw [World.size_alloc]; omega) (Nat.le_refl _)
        have hD2 : ∀ g, u1.ownBlock = some g → (Value.slice E2 m2 d2).ownBlock ≠ some g := fun g h1 h2 => by
          rcases hG2.2 g h1 with h3 | h3
          · exact hD g h3 h2
          · have := (hOr.ltB g h2).2
            rw [World.size_alloc] at h3
            omega
        rw [y1.out] at hO2
        obtain ⟨F1, p1, e1, rfl⟩ := hO2.shape
        have G2 : w2.cell? ⟨b, o + j, none⟩ = some (.slice A2 n2 c2) := (hbe2.cell (p := ⟨b, o + j, none⟩) hb).trans g2
        have H2 := hl2.below hbe2 (Nat.le_refl _)
        have hz2 := hbe2.size
        clear hOb hOr hG2 hlo2 hD hbe G1 H1 hl1 q0 q1 hpk y1
        go_wp2_with (at_builtin; refine wpList_appL rfl _ _ rfl v1.heap.size v1.heap.size _ _ rfl (hOr2.alloc_ _ hz2) _ rfl A2 n2 c2 l2 (cell_litS _ _ _ _ (by simp)) (H2.alloc hz2 _) hlb.out.2 (by rw [World.size_alloc]; omega) (Nat.le_refl _) ?_)
        intro u2 w3 hO3 hG3 hlo3
        have hbe3 := Lib.hid ((hbe2.alloc hz2 _).trans (hG3.below_ (by rw [World.size_alloc]; omega) hlo3))
        have hOb3 := Lib.hid ((hO2.alloc_ _ hz2).kept_ hG3 (ne_of fun g h1 h2 => hD2 g h1 h2) hlo3 (by rw [World.size_alloc]; omega) (Nat.le_refl _))
        have hD3 : Hid (∀ g, (Value.slice F1 p1 e1).ownBlock = some g → u2.ownBlock ≠ some g) := Lib.hid fun g h1 h2 => by
          rcases hG3.2 g h2 with h3 | h3
          · exact hD2 g h1 h3
          · have := (hO2.ltB g h1).2
            rw [World.size_alloc] at h3
            omega
        rw [y2.out] at hO3
        have hO4 := Lib.hid hO3
        clear hO2 hOr2 hG3 hlo3 hD2 hbe2 G2 H2 hl2 g2 hO3 y2 q2 q3 q4 hkt hkt2 ht2
        go_wp2_with fail
        go_roundw
        case rel => exact ⟨k + 1, _, _, by omega, rfl, rfl, by go_num, hOb3.out, hO4.out, hD3.out, hbe3.out⟩
        case measure => simp [intOf]; omega
      · obtain rfl : k = n := by omega
        have e1 : L.reverse.take k = L.reverse := List.take_of_length_le (by rw [List.length_reverse, hll.out]; exact Nat.le_refl _)
        have e2 : (rotL L t).take k = rotL L t := List.take_of_length_le (by rw [rotL_length, hll.out]; exact Nat.le_refl _)
        rw [e1] at hOb
        rw [e2] at hOr
        obtain ⟨E1, d1, e3, hV⟩ := hOb.read hbe.size
        obtain ⟨E2, d2, e4, hU⟩ := hOr.read hbe.size
        rw [List.length_reverse, hll.out] at e3 hV
        rw [rotL_length, hll.out] at e4 hU
        subst e3 e4
        have hF := hF.belowS hbe
        have HB := HB.trans (hbe.mono HB.size)
        clear hOb hOr hD e1 e2 hbe
        go_wp2_with fail
        refine (fold_any a0 hF (by omega)).mono ?_
        rintro e v2 he
        obtain ⟨P1, Pn1, Pc1, P2, Pn2, Pc2, P3, Pn3, Pc3, rfl, hP, hb1⟩ := (TellC.toH he).of hr.out
        have hbb := below_then hb1 (below_a1 v2 (.cells #[.int .i64 q, .slice P1 Pn1 Pc1, .slice P2 Pn2 Pc2, .slice P3 Pn3 Pc3] 26))
        have HB := below_then HB hbb
        have hV := hV.belowS hbb
        have hU := hU.belowS hbb
        have hP := hP.allocS (.cells #[.int .i64 q, .slice P1 Pn1 Pc1, .slice P2 Pn2 Pc2, .slice P3 Pn3 Pc3] 26)
        have hBP := Block.new v2 26 #[.int .i64 q, .slice P1 Pn1 Pc1, .slice P2 Pn2 Pc2, .slice P3 Pn3 Pc3]
        clear he hb1 hbb
        clear hF
        go_wp2_with fail
        refine (fold_any a0 hV (by omega)).mono ?_
        rintro e v3 he
        obtain ⟨Q1, Qn1, Qc1, Q2, Qn2, Qc2, Q3, Qn3, Qc3, rfl, hQ, hb1⟩ := (TellC.toH he).of hrv.out
        have hbb := below_then hb1 (below_a1 v3 (.cells #[.int .i64 q, .slice Q1 Qn1 Qc1, .slice Q2 Qn2 Qc2, .slice Q3 Qn3 Qc3] 26))
        have HB := below_then HB hbb
        have hU := hU.belowS hbb
        have hP := hP.belowS hbb
        have hBP := hBP.below hbb hBP.lt
        have hQ := hQ.allocS (.cells #[.int .i64 q, .slice Q1 Qn1 Qc1, .slice Q2 Qn2 Qc2, .slice Q3 Qn3 Qc3] 26)
        have hBQ := Block.new v3 26 #[.int .i64 q, .slice Q1 Qn1 Qc1, .slice Q2 Qn2 Qc2, .slice Q3 Qn3 Qc3]
        clear he hb1 hbb
        clear hV
        go_wp2_with fail
        refine (fold_any a0 hU (by omega)).mono ?_
        rintro e v4 he
        obtain ⟨R1, Rn1, Rc1, R2, Rn2, Rc2, R3, Rn3, Rc3, rfl, hR, hb1⟩ := (TellC.toH he).of hru.out
        have hbb := below_then hb1 (below_a1 v4 (.cells #[.int .i64 q, .slice R1 Rn1 Rc1, .slice R2 Rn2 Rc2, .slice R3 Rn3 Rc3] 26))
        have HB := below_then HB hbb
        have hP := hP.belowS hbb
        have hQ := hQ.belowS hbb
        have hBP := hBP.below hbb hBP.lt
        have hBQ := hBQ.below hbb hBQ.lt
        have hR := hR.allocS (.cells #[.int .i64 q, .slice R1 Rn1 Rc1, .slice R2 Rn2 Rc2, .slice R3 Rn3 Rc3] 26)
        have hBR := Block.new v4 26 #[.int .i64 q, .slice R1 Rn1 Rc1, .slice R2 Rn2 Rc2, .slice R3 Rn3 Rc3]
        clear he hb1 hbb
        clear hU
        have g0 : (v4.alloc (.cells #[.int .i64 q, .slice R1 Rn1 Rc1, .slice R2 Rn2 Rc2, .slice R3 Rn3 Rc3] 26)).cell? ⟨v2.heap.size, 0, none⟩ = some (.int .i64 q) := hBP.cell 0
        have g1 : (v4.alloc (.cells #[.int .i64 q, .slice R1 Rn1 Rc1, .slice R2 Rn2 Rc2, .slice R3 Rn3 Rc3] 26)).cell? ⟨v2.heap.size, 1, none⟩ = some (.slice P1 Pn1 Pc1) := hBP.cell 1
        have g2 : (v4.alloc (.cells #[.int .i64 q, .slice R1 Rn1 Rc1, .slice R2 Rn2 Rc2, .slice R3 Rn3 Rc3] 26)).cell? ⟨v2.heap.size, 2, none⟩ = some (.slice P2 Pn2 Pc2) := hBP.cell 2
        have g3 : (v4.alloc (.cells #[.int .i64 q, .slice R1 Rn1 Rc1, .slice R2 Rn2 Rc2, .slice R3 Rn3 Rc3] 26)).cell? ⟨v2.heap.size, 3, none⟩ = some (.slice P3 Pn3 Pc3) := hBP.cell 3
        have k0 : (v4.alloc (.cells #[.int .i64 q, .slice R1 Rn1 Rc1, .slice R2 Rn2 Rc2, .slice R3 Rn3 Rc3] 26)).cell? ⟨v3.heap.size, 0, none⟩ = some (.int .i64 q) := hBQ.cell 0
        have k1 : (v4.alloc (.cells #[.int .i64 q, .slice R1 Rn1 Rc1, .slice R2 Rn2 Rc2, .slice R3 Rn3 Rc3] 26)).cell? ⟨v3.heap.size, 1, none⟩ = some (.slice Q1 Qn1 Qc1) := hBQ.cell 1
        have k2 : (v4.alloc (.cells #[.int .i64 q, .slice R1 Rn1 Rc1, .slice R2 Rn2 Rc2, .slice R3 Rn3 Rc3] 26)).cell? ⟨v3.heap.size, 2, none⟩ = some (.slice Q2 Qn2 Qc2) := hBQ.cell 2
        have k3 : (v4.alloc (.cells #[.int .i64 q, .slice R1 Rn1 Rc1, .slice R2 Rn2 Rc2, .slice R3 Rn3 Rc3] 26)).cell? ⟨v3.heap.size, 3, none⟩ = some (.slice Q3 Qn3 Qc3) := hBQ.cell 3
        have HS := Lib.hid (refSame_any (n := q) (n' := q) hP hQ (r := true) (by simp))
        go_wp2_with fail
        refine HS.out.mono ?_
        rintro e v5 ⟨rfl, hb1⟩
        have HB := below_then HB hb1
        have hP := hP.belowS hb1
        have hR := hR.belowS hb1
        have hBP := hBP.below hb1 hBP.lt
        have hBR := hBR.below hb1 hBR.lt
        clear HS hb1 g0 g1 g2 g3 k0 k1 k2 k3 hQ hBQ
        have g0 : (v5).cell? ⟨v2.heap.size, 0, none⟩ = some (.int .i64 q) := hBP.cell 0
        have g1 : (v5).cell? ⟨v2.heap.size, 1, none⟩ = some (.slice P1 Pn1 Pc1) := hBP.cell 1
        have g2 : (v5).cell? ⟨v2.heap.size, 2, none⟩ = some (.slice P2 Pn2 Pc2) := hBP.cell 2
        have g3 : (v5).cell? ⟨v2.heap.size, 3, none⟩ = some (.slice P3 Pn3 Pc3) := hBP.cell 3
        have k0 : (v5).cell? ⟨v4.heap.size, 0, none⟩ = some (.int .i64 q) := hBR.cell 0
        have k1 : (v5).cell? ⟨v4.heap.size, 1, none⟩ = some (.slice R1 Rn1 Rc1) := hBR.cell 1
        have k2 : (v5).cell? ⟨v4.heap.size, 2, none⟩ = some (.slice R2 Rn2 Rc2) := hBR.cell 2
        have k3 : (v5).cell? ⟨v4.heap.size, 3, none⟩ = some (.slice R3 Rn3 Rc3) := hBR.cell 3
        have HS := Lib.hid (refSame_any (n := q) (n' := q) hP hR (r := true) (by simp))
        have hyy : ((y : Int) == y) = true := by simp
        clear hP hR hBP hBR
        go_wp2_with fail
        refine HS.out.mono ?_
        rintro e v6 ⟨rfl, hb1⟩
        have HB := below_then HB hb1
        clear HS hb1 g0 g1 g2 g3 k0 k1 k2 k3
        go_wp2_with fail
        refine (cellLives_any _).mono ?_
        rintro e vz ⟨rfl, hbz⟩
        have HB := below_then HB hbz
        go_wp2_with fail
        go_ret
        exact ⟨rfl, HB⟩

set_option maxRecDepth 100000 in
theorem lifted (os : Os) (started : os.Started) (H : Type) (enc : TypeId × Value → H) :
    ReturnsInHanded {} Try.checked os 6 .any (Rows.cellOrderSpec.pre6 enc Try.prog Try.f6 Rows.cellOrderRow.domain false) (Rows.cellOrderSpec.post enc Try.prog Try.f6 false true false false) := by
  refine returnsInHanded_of_change (C := Try.checked) own started (by kernel_rfl) Try.func6
    (ChangeSpec.witness6 (enc := enc) (C := Try.checked) false ⟨#[], #[.int .i64 0, .slice none 0 0, .int .i64 0], []⟩ 8 (by kernel_rfl) (by kernel_rfl) (by kernel_rfl) (by kernel_rfl)) ?_
  intro W base args ds gs before hval0 hW hcnd _
  have hval : ∀ (j : Nat) t v, Try.f6.params[j]? = some t → args[j]? = some v → Value.okWide Try.prog W .any base t v := hval0
  have hW' := hW
  obtain ⟨p, q, hA0, hV, rfl, hfz, hnd⟩ := hW
  have hA : DataW.TrodAll enc Try.prog W 0 (fun _ => true) true Try.f6.params.toList args.toList ds p := hA0
  rw [Try.params6] at hA hval
  obtain ⟨v0, vs0, d0, ds0, p0, q0, hargs, rfl, rfl, h0, r0⟩ := trodAll_cons hA
  obtain ⟨v1, vs1, d1, ds1, p1, q1, rfl, rfl, rfl, h1, r1⟩ := trodAll_cons r0
  obtain ⟨v2, vs2, d2, ds2, p2, q2, rfl, rfl, rfl, h2, r2⟩ := trodAll_cons r1
  obtain ⟨rfl, rfl, rfl⟩ := trodAll_nil r2
  obtain rfl : args = #[v0, v1, v2] := by cases args; simp_all
  obtain ⟨rfl, rfl⟩ := trodVars_none hV
  obtain ⟨a0, rfl, rfl, rfl, w0⟩ := open_int Try.underlying3 (hval 0 3 v0 rfl rfl) h0
  obtain ⟨a1, len1, cap1, rfl⟩ := okWide_slice Try.underlying22 (hval 1 22 v1 rfl rfl)
  have k1 := h1
  have lt1 : ∀ x ∈ p1, x.block < W.heap.size := by obtain ⟨m, hm⟩ := k1; exact DataW.trod_lt m _ _ _ hm
  have w1 : RC Try.prog W 22 [.slice a1 len1 cap1] := by
    obtain ⟨fuel, hf⟩ := h1
    exact ⟨_, _, _, _, _, fuel, _, hf⟩
  obtain ⟨a2, rfl, rfl, rfl, w2⟩ := open_int Try.underlying3 (hval 2 3 v2 rfl rfl) h2
  clear hA0 hval0
  refine (walk a0 a1 len1 cap1 a2 W w0 w1 w2).mono fun e W' ⟨he, bel⟩ => ?_
  subst he
  exact ⟨_, rfl, _, _, _, [], _, [], hW', trodAll_mk1 (shut_bool Try.underlying4 _), (trodAll_cons_mk (shut_int Try.underlying3 w0) (trodAll_cons_mk (Below.trod laidOut (by kernel_rfl) (of_decide_eq_true (by kernel_rfl)) k1 bel lt1) (trodAll_cons_mk (shut_int Try.underlying3 w2) trodAll_mk0))), rfl, bel.frame _, fun h => by cases h⟩

theorem over : Rows.cellOrderRow.holds Try.pinned (OpenSpec.ofChange Rows.cellOrderSpec) :=
  OpenClaim.holds_of_wide 6 Try.f6 rfl rfl rfl rfl rfl rfl rfl ⟨rfl, rfl, rfl, rfl, rfl⟩ rfl rfl rfl rfl rfl (by kernel_rfl) Try.func6 (by kernel_rfl)
    (of_decide_eq_true (by kernel_rfl)) (by unfold Func.isWrapper; first | (rw [if_pos (by decide +kernel)]; kernel_rfl) | (rw [if_neg (by decide +kernel)]; exact ⟨rfl, rfl⟩))
    (fun os started H enc _ => lifted os started H enc)

theorem proved : Rows.CellOrderSaid := over
end Go.Proofs.Ytbgbchbnidejhaa.cellOrder
