/-
  Proved: of any values (the first 40, of each the first five numbers), cut anywhere, cell.Fold of all is the cell.Merge of the folds of the two parts, if these may be, and refused where one of them is; the document's examples hold, and nothing that was handed in changes. No condition.
-/
import Derived.Test.YtbgbchbnidejhaaRows
import Derived.Test.YtbgbchbnidejhaaCellL
import Derived.Test.YtbgbchbnidejhaaCellRF
import Derived.WalkKit
import Derived.ProofKit
import Derived.OpenShut
import Derived.ShutString
import Derived.ChangeOld
import Derived.Below
namespace Go.Proofs.Ytbgbchbnidejhaa.cellParts
open Go.ChangeShapes Go.WideShapes Go.ChangeAt Go.RowKit
open Go.ChangeMaps (open_string shut_string)
set_option linter.unusedVariables false

theorem own : ownKnob Try.prog.godebug = none := by kernel_rfl
theorem laidOut : laidOutB Try.prog = true := by kernel_rfl

def IsRow (k : IntKind) (w : World) (a : Option Addr) (len cap : Nat) (zs : List Int) : Prop :=
  (a = none ∧ len = 0 ∧ cap = 0 ∧ zs = []) ∨
  ∃ x, a = some x ∧ len ≤ cap ∧ cap ≤ maxLen ∧ zs.length = cap ∧ (∀ i, i < zs.length → w.cell? (x.add i) = some (.int k (zs.getD i 0))) ∧ ∀ n ∈ zs, (Lit.int k n).wf = true

set_option maxRecDepth 100000 in
set_option maxHeartbeats 2000000 in
theorem walk (a0 : Int) (a1 : Option Addr) (len1 cap1 : Nat) (a2 : Int) (w : World) (w0 : (Lit.int .i64 a0).wf = true) (w1 : RC Try.prog w 22 [.slice a1 len1 cap1]) (w2 : (Lit.int .i64 a2).wf = true) :
    Calls Try.prog 7 #[.int .i64 a0, .slice a1 len1 cap1, .int .i64 a2] w fun e w' => e = .returned (.bool true) ∧ Below w.heap.size w w' := by
  obtain ⟨L0, hL, _⟩ := w1.lists Try.underlying22 Try.underlying24 Try.underlying3 cells_intsC cells_intC
  obtain ⟨f0, f9⟩ := i64_of_wf w2
  clear w1 w2
  go_enter Try.func7, Try.ntmps7
  go_wp2_with fail
  refine (fewL_any hL 40 (by decide)).mono ?_
  rintro e v1 ⟨⟨A', n, c, rfl, hF, hn⟩, HB⟩
  generalize fewL L0 40 = L at hF
  have hcap := hF.cap
  have hcm := hF.capMax
  clear hL
  go_upto_if 19 with fail
  go_cut [2] (fun s2 wx => ∃ f : Int, s2 = .int .i64 f ∧ 0 ≤ f ∧ f ≤ 9223372036854775807 ∧ v1 = wx)
  case first =>
    by_cases h : a2 < 0
    · go_wp2_with fail
      go_meet
      exact ⟨_, rfl, by omega, by omega, rfl⟩
    · go_wp2_with fail
      go_meet
      exact ⟨_, rfl, by omega, by omega, rfl⟩
  case rest =>
    obtain ⟨f, rfl, hf0, hf9, rfl⟩ := hcut
    obtain ⟨t, ht0, ht1⟩ : ∃ t : Nat, t ≤ n ∧ f % ((n : Int) + 1) = (t : Int) := by
      have h1 := Int.emod_nonneg f (show ((n : Int) + 1) ≠ 0 by omega)
      have h2 := Int.emod_lt_of_pos f (show 0 < ((n : Int) + 1) by omega)
      exact ⟨(f % ((n : Int) + 1)).toNat, by omega, by omega⟩
    have ht2 : f.tmod ((n : Int) + 1) = (t : Int) := by rw [Int.tmod_eq_emod_of_nonneg hf0]; exact ht1
    have n0 : (((n : Int) + 1) == 0) = false := by simp; omega
    have n1 : ¬ ((n : Int) + 1 = 0) := by omega
    have q1 : IntKind.i64.wrap ((n : Int) + 1) = (n : Int) + 1 := IntWalk.i64_in _ (by omega)
    have q3 : IntKind.i64.wrap (t : Int) = (t : Int) := IntWalk.i64_in _ (by omega)
    have i0 : (0 : Int) ≤ (t : Int) := by omega
    have i1 : (t : Int) ≤ (n : Int) := by omega
    have i2 : (t : Int) ≤ (c : Int) := by omega
    have i3 : (n : Int) ≤ (c : Int) := by omega
    obtain ⟨qp, Sp, Mp, Xp, y1, hr1⟩ : ∃ q S M X y, Hid (cFold a0 (L.take t) = ((q, S, M, X), y)) := ⟨_, _, _, _, _, Lib.hid rfl⟩
    obtain ⟨qq, Sq, Mq, Xq, y2, hr2⟩ : ∃ q S M X y, Hid (cFold a0 (L.drop t) = ((q, S, M, X), y)) := ⟨_, _, _, _, _, Lib.hid rfl⟩
    obtain ⟨qr, Sr, Mr, Xr, y3, hr3⟩ : ∃ q S M X y, Hid (cFold a0 L = ((q, S, M, X), y)) := ⟨_, _, _, _, _, Lib.hid rfl⟩
    have H : Hid (((y1 = 1 ∨ y2 = 1) → y3 = 1) ∧ (y1 ≠ 1 → y2 ≠ 1 → y3 = 0 ∨ y3 = 14) ∧ (y1 = 0 → y2 = 0 → cMay (qp, Sp, Mp, Xp) ∧ cMay (qq, Sq, Mq, Xq) ∧ cMerge (qp, Sp, Mp, Xp) (qq, Sq, Mq, Xq) = ((qr, Sr, Mr, Xr), y3))) := Lib.hid (by
      have h := cFold_parts a0 (L.take t) (L.drop t) (by rw [List.take_append_drop, hF.len]; omega)
      rw [List.take_append_drop, hr1.out, hr2.out, hr3.out] at h
      exact h)
    clear hf0 hf9
    by_cases hct : c = t
    · obtain rfl : t = c := hct.symm
      obtain rfl : t = n := by omega
      clear hct
      go_wp2_with fail
      clear n0 n1 q1 ht1 ht2
      refine (fold_any a0 (hF.take_ t ht0) (by omega)).mono ?_
      rintro e v2 he
      obtain ⟨P1, Pn1, Pc1, P2, Pn2, Pc2, P3, Pn3, Pc3, rfl, hP, hb1⟩ := (TellC.toH he).of hr1.out
      have hbb := below_then hb1 (below_a1 v2 (.cells #[.int .i64 qp, .slice P1 Pn1 Pc1, .slice P2 Pn2 Pc2, .slice P3 Pn3 Pc3] 26))
      have HB := below_then HB hbb
      have hF := hF.belowS hbb
      have hP := hP.allocS (.cells #[.int .i64 qp, .slice P1 Pn1 Pc1, .slice P2 Pn2 Pc2, .slice P3 Pn3 Pc3] 26)
      have hBP := Block.new v2 26 #[.int .i64 qp, .slice P1 Pn1 Pc1, .slice P2 Pn2 Pc2, .slice P3 Pn3 Pc3]
      clear he hb1 hbb
      have hD : HasL (v2.alloc (.cells #[.int .i64 qp, .slice P1 Pn1 Pc1, .slice P2 Pn2 Pc2, .slice P3 Pn3 Pc3] 26)) (v2.alloc (.cells #[.int .i64 qp, .slice P1 Pn1 Pc1, .slice P2 Pn2 Pc2, .slice P3 Pn3 Pc3] 26)).heap.size A' 0 0 (L.drop t) := by
        have := hF.drop_ t ht0
        rw [if_pos rfl] at this
        rwa [Nat.sub_self] at this
      go_wp2_with fail
      refine (fold_any a0 hD (by omega)).mono ?_
      rintro e v3 he
      obtain ⟨Q1, Qn1, Qc1, Q2, Qn2, Qc2, Q3, Qn3, Qc3, rfl, hQ, hb1⟩ := (TellC.toH he).of hr2.out
      have hbb := below_then hb1 (below_a1 v3 (.cells #[.int .i64 qq, .slice Q1 Qn1 Qc1, .slice Q2 Qn2 Qc2, .slice Q3 Qn3 Qc3] 26))
      have HB := below_then HB hbb
      have hF := hF.belowS hbb
      have hP := hP.belowS hbb
      have hBP := hBP.below hbb hBP.lt
      have hQ := hQ.allocS (.cells #[.int .i64 qq, .slice Q1 Qn1 Qc1, .slice Q2 Qn2 Qc2, .slice Q3 Qn3 Qc3] 26)
      have hBQ := Block.new v3 26 #[.int .i64 qq, .slice Q1 Qn1 Qc1, .slice Q2 Qn2 Qc2, .slice Q3 Qn3 Qc3]
      clear he hb1 hbb
      clear hD
      go_wp2_with fail
      refine (fold_any a0 hF (by omega)).mono ?_
      rintro e v4 he
      obtain ⟨R1, Rn1, Rc1, R2, Rn2, Rc2, R3, Rn3, Rc3, rfl, hR, hb1⟩ := (TellC.toH he).of hr3.out
      have hbb := below_then hb1 (below_a1 v4 (.cells #[.int .i64 qr, .slice R1 Rn1 Rc1, .slice R2 Rn2 Rc2, .slice R3 Rn3 Rc3] 26))
      have HB := below_then HB hbb
      have hP := hP.belowS hbb
      have hQ := hQ.belowS hbb
      have hBP := hBP.below hbb hBP.lt
      have hBQ := hBQ.below hbb hBQ.lt
      have hR := hR.allocS (.cells #[.int .i64 qr, .slice R1 Rn1 Rc1, .slice R2 Rn2 Rc2, .slice R3 Rn3 Rc3] 26)
      have hBR := Block.new v4 26 #[.int .i64 qr, .slice R1 Rn1 Rc1, .slice R2 Rn2 Rc2, .slice R3 Rn3 Rc3]
      clear he hb1 hbb
      clear hF
      by_cases c1 : y1 = 1
      · have e1 : ((y1 : Int) == 1) = true := by simpa using c1
        obtain rfl : y3 = 1 := H.out.1 (.inl c1)
        go_wp2_with fail
        refine (cellLives_any _).mono ?_
        rintro e vz ⟨rfl, hbz⟩
        have HB := below_then HB hbz
        go_wp2_with fail
        go_ret
        exact ⟨rfl, HB⟩
      · have e1 : ((y1 : Int) == 1) = false := by simpa using c1
        by_cases c2 : y2 = 1
        · have e2 : ((y2 : Int) == 1) = true := by simpa using c2
          obtain rfl : y3 = 1 := H.out.1 (.inr c2)
          go_wp2_with fail
          refine (cellLives_any _).mono ?_
          rintro e vz ⟨rfl, hbz⟩
          have HB := below_then HB hbz
          go_wp2_with fail
          go_ret
          exact ⟨rfl, HB⟩
        · have e2 : ((y2 : Int) == 1) = false := by simpa using c2
          by_cases c3 : y1 = 0
          · have e3 : ((y1 : Int) != 0) = false := by simpa using c3
            by_cases c4 : y2 = 0
            · have e4 : ((y2 : Int) != 0) = false := by simpa using c4
              obtain ⟨mP, mQ, hM⟩ := H.out.2.2 c3 c4
              have hM := Lib.hid hM
              have mP := Lib.hid mP
              have mQ := Lib.hid mQ
              have HMg := Lib.hid (merge_any (q := qp) (q' := qq) hP hQ)
              have g0 : (v4.alloc (.cells #[.int .i64 qr, .slice R1 Rn1 Rc1, .slice R2 Rn2 Rc2, .slice R3 Rn3 Rc3] 26)).cell? ⟨v2.heap.size, 0, none⟩ = some (.int .i64 qp) := hBP.cell 0
              have g1 : (v4.alloc (.cells #[.int .i64 qr, .slice R1 Rn1 Rc1, .slice R2 Rn2 Rc2, .slice R3 Rn3 Rc3] 26)).cell? ⟨v2.heap.size, 1, none⟩ = some (.slice P1 Pn1 Pc1) := hBP.cell 1
              have g2 : (v4.alloc (.cells #[.int .i64 qr, .slice R1 Rn1 Rc1, .slice R2 Rn2 Rc2, .slice R3 Rn3 Rc3] 26)).cell? ⟨v2.heap.size, 2, none⟩ = some (.slice P2 Pn2 Pc2) := hBP.cell 2
              have g3 : (v4.alloc (.cells #[.int .i64 qr, .slice R1 Rn1 Rc1, .slice R2 Rn2 Rc2, .slice R3 Rn3 Rc3] 26)).cell? ⟨v2.heap.size, 3, none⟩ = some (.slice P3 Pn3 Pc3) := hBP.cell 3
              have k0 : (v4.alloc (.cells #[.int .i64 qr, .slice R1 Rn1 Rc1, .slice R2 Rn2 Rc2, .slice R3 Rn3 Rc3] 26)).cell? ⟨v3.heap.size, 0, none⟩ = some (.int .i64 qq) := hBQ.cell 0
              have k1 : (v4.alloc (.cells #[.int .i64 qr, .slice R1 Rn1 Rc1, .slice R2 Rn2 Rc2, .slice R3 Rn3 Rc3] 26)).cell? ⟨v3.heap.size, 1, none⟩ = some (.slice Q1 Qn1 Qc1) := hBQ.cell 1
              have k2 : (v4.alloc (.cells #[.int .i64 qr, .slice R1 Rn1 Rc1, .slice R2 Rn2 Rc2, .slice R3 Rn3 Rc3] 26)).cell? ⟨v3.heap.size, 2, none⟩ = some (.slice Q2 Qn2 Qc2) := hBQ.cell 2
              have k3 : (v4.alloc (.cells #[.int .i64 qr, .slice R1 Rn1 Rc1, .slice R2 Rn2 Rc2, .slice R3 Rn3 Rc3] 26)).cell? ⟨v3.heap.size, 3, none⟩ = some (.slice Q3 Qn3 Qc3) := hBQ.cell 3
              clear c1 c2 c3 c4
              go_wp2_with fail
              refine HMg.out.mono ?_
              rintro e v5 he
              obtain ⟨S1, Sn1, Sc1, S2, Sn2, Sc2, S3, Sn3, Sc3, rfl, hS, hb1⟩ := (TellC.toH he).of hM.out
              have hbb := below_then hb1 (below_a1 v5 (.cells #[.int .i64 qr, .slice S1 Sn1 Sc1, .slice S2 Sn2 Sc2, .slice S3 Sn3 Sc3] 26))
              have HB := below_then HB hbb
              have hP := hP.belowS hbb
              have hQ := hQ.belowS hbb
              have hR := hR.belowS hbb
              have hBP := hBP.below hbb hBP.lt
              have hBQ := hBQ.below hbb hBQ.lt
              have hBR := hBR.below hbb hBR.lt
              have hS := hS.allocS (.cells #[.int .i64 qr, .slice S1 Sn1 Sc1, .slice S2 Sn2 Sc2, .slice S3 Sn3 Sc3] 26)
              have hBS := Block.new v5 26 #[.int .i64 qr, .slice S1 Sn1 Sc1, .slice S2 Sn2 Sc2, .slice S3 Sn3 Sc3]
              clear he hb1 hbb HMg g0 g1 g2 g3 k0 k1 k2 k3
              have g0 : (v5.alloc (.cells #[.int .i64 qr, .slice S1 Sn1 Sc1, .slice S2 Sn2 Sc2, .slice S3 Sn3 Sc3] 26)).cell? ⟨v4.heap.size, 0, none⟩ = some (.int .i64 qr) := hBR.cell 0
              have g1 : (v5.alloc (.cells #[.int .i64 qr, .slice S1 Sn1 Sc1, .slice S2 Sn2 Sc2, .slice S3 Sn3 Sc3] 26)).cell? ⟨v4.heap.size, 1, none⟩ = some (.slice R1 Rn1 Rc1) := hBR.cell 1
              have g2 : (v5.alloc (.cells #[.int .i64 qr, .slice S1 Sn1 Sc1, .slice S2 Sn2 Sc2, .slice S3 Sn3 Sc3] 26)).cell? ⟨v4.heap.size, 2, none⟩ = some (.slice R2 Rn2 Rc2) := hBR.cell 2
              have g3 : (v5.alloc (.cells #[.int .i64 qr, .slice S1 Sn1 Sc1, .slice S2 Sn2 Sc2, .slice S3 Sn3 Sc3] 26)).cell? ⟨v4.heap.size, 3, none⟩ = some (.slice R3 Rn3 Rc3) := hBR.cell 3
              have k0 : (v5.alloc (.cells #[.int .i64 qr, .slice S1 Sn1 Sc1, .slice S2 Sn2 Sc2, .slice S3 Sn3 Sc3] 26)).cell? ⟨v5.heap.size, 0, none⟩ = some (.int .i64 qr) := hBS.cell 0
              have k1 : (v5.alloc (.cells #[.int .i64 qr, .slice S1 Sn1 Sc1, .slice S2 Sn2 Sc2, .slice S3 Sn3 Sc3] 26)).cell? ⟨v5.heap.size, 1, none⟩ = some (.slice S1 Sn1 Sc1) := hBS.cell 1
              have k2 : (v5.alloc (.cells #[.int .i64 qr, .slice S1 Sn1 Sc1, .slice S2 Sn2 Sc2, .slice S3 Sn3 Sc3] 26)).cell? ⟨v5.heap.size, 2, none⟩ = some (.slice S2 Sn2 Sc2) := hBS.cell 2
              have k3 : (v5.alloc (.cells #[.int .i64 qr, .slice S1 Sn1 Sc1, .slice S2 Sn2 Sc2, .slice S3 Sn3 Sc3] 26)).cell? ⟨v5.heap.size, 3, none⟩ = some (.slice S3 Sn3 Sc3) := hBS.cell 3
              have HS := Lib.hid (refSame_any (n := qr) (n' := qr) hR hS (r := true) (by simp))
              have hyy : ((y3 : Int) == y3) = true := by simp
              go_wp2_with fail
              refine HS.out.mono ?_
              rintro e v6 ⟨rfl, hb1⟩
              have HB := below_then HB hb1
              have hP := hP.belowS hb1
              have hQ := hQ.belowS hb1
              have hBP := hBP.below hb1 hBP.lt
              have hBQ := hBQ.below hb1 hBQ.lt
              clear HS hb1 g0 g1 g2 g3 k0 k1 k2 k3 hR hS hBR hBS
              have g0 : (v6).cell? ⟨v2.heap.size, 0, none⟩ = some (.int .i64 qp) := hBP.cell 0
              have g1 : (v6).cell? ⟨v2.heap.size, 1, none⟩ = some (.slice P1 Pn1 Pc1) := hBP.cell 1
              have g2 : (v6).cell? ⟨v2.heap.size, 2, none⟩ = some (.slice P2 Pn2 Pc2) := hBP.cell 2
              have g3 : (v6).cell? ⟨v2.heap.size, 3, none⟩ = some (.slice P3 Pn3 Pc3) := hBP.cell 3
              have HM1 := Lib.hid (may_any (n := qp) hP (r := true) (by simpa using mP.out))
              go_wp2_with fail
              refine HM1.out.mono ?_
              rintro e v7 ⟨rfl, hb1⟩
              have HB := below_then HB hb1
              have hQ := hQ.belowS hb1
              have hBQ := hBQ.below hb1 hBQ.lt
              clear HM1 hb1 g0 g1 g2 g3 hP hBP
              have g0 : (v7).cell? ⟨v3.heap.size, 0, none⟩ = some (.int .i64 qq) := hBQ.cell 0
              have g1 : (v7).cell? ⟨v3.heap.size, 1, none⟩ = some (.slice Q1 Qn1 Qc1) := hBQ.cell 1
              have g2 : (v7).cell? ⟨v3.heap.size, 2, none⟩ = some (.slice Q2 Qn2 Qc2) := hBQ.cell 2
              have g3 : (v7).cell? ⟨v3.heap.size, 3, none⟩ = some (.slice Q3 Qn3 Qc3) := hBQ.cell 3
              have HM2 := Lib.hid (may_any (n := qq) hQ (r := true) (by simpa using mQ.out))
              go_wp2_with fail
              refine HM2.out.mono ?_
              rintro e v8 ⟨rfl, hb1⟩
              have HB := below_then HB hb1
              clear HM2 hb1 g0 g1 g2 g3 hQ hBQ
              go_wp2_with fail
              refine (cellLives_any _).mono ?_
              rintro e vz ⟨rfl, hbz⟩
              have HB := below_then HB hbz
              go_wp2_with fail
              go_ret
              exact ⟨rfl, HB⟩
            · have e4 : ((y2 : Int) != 0) = true := by simpa using c4
              rcases H.out.2.1 c1 c2 with h3 | h3
              · have e5 : ((y3 : Int) == 0) = true := by simpa using h3
                go_wp2_with fail
                refine (cellLives_any _).mono ?_
                rintro e vz ⟨rfl, hbz⟩
                have HB := below_then HB hbz
                go_wp2_with fail
                go_ret
                exact ⟨rfl, HB⟩
              · have e5 : ((y3 : Int) == 0) = false := by simp; omega
                have e6 : ((y3 : Int) == 14) = true := by simpa using h3
                go_wp2_with fail
                refine (cellLives_any _).mono ?_
                rintro e vz ⟨rfl, hbz⟩
                have HB := below_then HB hbz
                go_wp2_with fail
                go_ret
                exact ⟨rfl, HB⟩
          · have e3 : ((y1 : Int) != 0) = true := by simpa using c3
            rcases H.out.2.1 c1 c2 with h3 | h3
            · have e5 : ((y3 : Int) == 0) = true := by simpa using h3
              go_wp2_with fail
              refine (cellLives_any _).mono ?_
              rintro e vz ⟨rfl, hbz⟩
              have HB := below_then HB hbz
              go_wp2_with fail
              go_ret
              exact ⟨rfl, HB⟩
            · have e5 : ((y3 : Int) == 0) = false := by simp; omega
              have e6 : ((y3 : Int) == 14) = true := by simpa using h3
              go_wp2_with fail
              refine (cellLives_any _).mono ?_
              rintro e vz ⟨rfl, hbz⟩
              have HB := below_then HB hbz
              go_wp2_with fail
              go_ret
              exact ⟨rfl, HB⟩
    · go_wp2_with fail
      clear n0 n1 q1 ht1 ht2
      refine (fold_any a0 (hF.take_ t ht0) (by omega)).mono ?_
      rintro e v2 he
      obtain ⟨P1, Pn1, Pc1, P2, Pn2, Pc2, P3, Pn3, Pc3, rfl, hP, hb1⟩ := (TellC.toH he).of hr1.out
      have hbb := below_then hb1 (below_a1 v2 (.cells #[.int .i64 qp, .slice P1 Pn1 Pc1, .slice P2 Pn2 Pc2, .slice P3 Pn3 Pc3] 26))
      have HB := below_then HB hbb
      have hF := hF.belowS hbb
      have hP := hP.allocS (.cells #[.int .i64 qp, .slice P1 Pn1 Pc1, .slice P2 Pn2 Pc2, .slice P3 Pn3 Pc3] 26)
      have hBP := Block.new v2 26 #[.int .i64 qp, .slice P1 Pn1 Pc1, .slice P2 Pn2 Pc2, .slice P3 Pn3 Pc3]
      clear he hb1 hbb
      have hD := hF.drop_ t ht0
      rw [if_neg hct, Nat.mul_one] at hD
      go_wp2_with fail
      refine (fold_any a0 hD (by omega)).mono ?_
      rintro e v3 he
      obtain ⟨Q1, Qn1, Qc1, Q2, Qn2, Qc2, Q3, Qn3, Qc3, rfl, hQ, hb1⟩ := (TellC.toH he).of hr2.out
      have hbb := below_then hb1 (below_a1 v3 (.cells #[.int .i64 qq, .slice Q1 Qn1 Qc1, .slice Q2 Qn2 Qc2, .slice Q3 Qn3 Qc3] 26))
      have HB := below_then HB hbb
      have hF := hF.belowS hbb
      have hP := hP.belowS hbb
      have hBP := hBP.below hbb hBP.lt
      have hQ := hQ.allocS (.cells #[.int .i64 qq, .slice Q1 Qn1 Qc1, .slice Q2 Qn2 Qc2, .slice Q3 Qn3 Qc3] 26)
      have hBQ := Block.new v3 26 #[.int .i64 qq, .slice Q1 Qn1 Qc1, .slice Q2 Qn2 Qc2, .slice Q3 Qn3 Qc3]
      clear he hb1 hbb
      clear hD
      go_wp2_with fail
      refine (fold_any a0 hF (by omega)).mono ?_
      rintro e v4 he
      obtain ⟨R1, Rn1, Rc1, R2, Rn2, Rc2, R3, Rn3, Rc3, rfl, hR, hb1⟩ := (TellC.toH he).of hr3.out
      have hbb := below_then hb1 (below_a1 v4 (.cells #[.int .i64 qr, .slice R1 Rn1 Rc1, .slice R2 Rn2 Rc2, .slice R3 Rn3 Rc3] 26))
      have HB := below_then HB hbb
      have hP := hP.belowS hbb
      have hQ := hQ.belowS hbb
      have hBP := hBP.below hbb hBP.lt
      have hBQ := hBQ.below hbb hBQ.lt
      have hR := hR.allocS (.cells #[.int .i64 qr, .slice R1 Rn1 Rc1, .slice R2 Rn2 Rc2, .slice R3 Rn3 Rc3] 26)
      have hBR := Block.new v4 26 #[.int .i64 qr, .slice R1 Rn1 Rc1, .slice R2 Rn2 Rc2, .slice R3 Rn3 Rc3]
      clear he hb1 hbb
      clear hF
      by_cases c1 : y1 = 1
      · have e1 : ((y1 : Int) == 1) = true := by simpa using c1
        obtain rfl : y3 = 1 := H.out.1 (.inl c1)
        go_wp2_with fail
        refine (cellLives_any _).mono ?_
        rintro e vz ⟨rfl, hbz⟩
        have HB := below_then HB hbz
        go_wp2_with fail
        go_ret
        exact ⟨rfl, HB⟩
      · have e1 : ((y1 : Int) == 1) = false := by simpa using c1
        by_cases c2 : y2 = 1
        · have e2 : ((y2 : Int) == 1) = true := by simpa using c2
          obtain rfl : y3 = 1 := H.out.1 (.inr c2)
          go_wp2_with fail
          refine (cellLives_any _).mono ?_
          rintro e vz ⟨rfl, hbz⟩
          have HB := below_then HB hbz
          go_wp2_with fail
          go_ret
          exact ⟨rfl, HB⟩
        · have e2 : ((y2 : Int) == 1) = false := by simpa using c2
          by_cases c3 : y1 = 0
          · have e3 : ((y1 : Int) != 0) = false := by simpa using c3
            by_cases c4 : y2 = 0
            · have e4 : ((y2 : Int) != 0) = false := by simpa using c4
              obtain ⟨mP, mQ, hM⟩ := H.out.2.2 c3 c4
              have hM := Lib.hid hM
              have mP := Lib.hid mP
              have mQ := Lib.hid mQ
              have HMg := Lib.hid (merge_any (q := qp) (q' := qq) hP hQ)
              have g0 : (v4.alloc (.cells #[.int .i64 qr, .slice R1 Rn1 Rc1, .slice R2 Rn2 Rc2, .slice R3 Rn3 Rc3] 26)).cell? ⟨v2.heap.size, 0, none⟩ = some (.int .i64 qp) := hBP.cell 0
              have g1 : (v4.alloc (.cells #[.int .i64 qr, .slice R1 Rn1 Rc1, .slice R2 Rn2 Rc2, .slice R3 Rn3 Rc3] 26)).cell? ⟨v2.heap.size, 1, none⟩ = some (.slice P1 Pn1 Pc1) := hBP.cell 1
              have g2 : (v4.alloc (.cells #[.int .i64 qr, .slice R1 Rn1 Rc1, .slice R2 Rn2 Rc2, .slice R3 Rn3 Rc3] 26)).cell? ⟨v2.heap.size, 2, none⟩ = some (.slice P2 Pn2 Pc2) := hBP.cell 2
              have g3 : (v4.alloc (.cells #[.int .i64 qr, .slice R1 Rn1 Rc1, .slice R2 Rn2 Rc2, .slice R3 Rn3 Rc3] 26)).cell? ⟨v2.heap.size, 3, none⟩ = some (.slice P3 Pn3 Pc3) := hBP.cell 3
              have k0 : (v4.alloc (.cells #[.int .i64 qr, .slice R1 Rn1 Rc1, .slice R2 Rn2 Rc2, .slice R3 Rn3 Rc3] 26)).cell? ⟨v3.heap.size, 0, none⟩ = some (.int .i64 qq) := hBQ.cell 0
              have k1 : (v4.alloc (.cells #[.int .i64 qr, .slice R1 Rn1 Rc1, .slice R2 Rn2 Rc2, .slice R3 Rn3 Rc3] 26)).cell? ⟨v3.heap.size, 1, none⟩ = some (.slice Q1 Qn1 Qc1) := hBQ.cell 1
              have k2 : (v4.alloc (.cells #[.int .i64 qr, .slice R1 Rn1 Rc1, .slice R2 Rn2 Rc2, .slice R3 Rn3 Rc3] 26)).cell? ⟨v3.heap.size, 2, none⟩ = some (.slice Q2 Qn2 Qc2) := hBQ.cell 2
              have k3 : (v4.alloc (.cells #[.int .i64 qr, .slice R1 Rn1 Rc1, .slice R2 Rn2 Rc2, .slice R3 Rn3 Rc3] 26)).cell? ⟨v3.heap.size, 3, none⟩ = some (.slice Q3 Qn3 Qc3) := hBQ.cell 3
              clear c1 c2 c3 c4
              go_wp2_with fail
              refine HMg.out.mono ?_
              rintro e v5 he
              obtain ⟨S1, Sn1, Sc1, S2, Sn2, Sc2, S3, Sn3, Sc3, rfl, hS, hb1⟩ := (TellC.toH he).of hM.out
              have hbb := below_then hb1 (below_a1 v5 (.cells #[.int .i64 qr, .slice S1 Sn1 Sc1, .slice S2 Sn2 Sc2, .slice S3 Sn3 Sc3] 26))
              have HB := below_then HB hbb
              have hP := hP.belowS hbb
              have hQ := hQ.belowS hbb
              have hR := hR.belowS hbb
              have hBP := hBP.below hbb hBP.lt
              have hBQ := hBQ.below hbb hBQ.lt
              have hBR := hBR.below hbb hBR.lt
              have hS := hS.allocS (.cells #[.int .i64 qr, .slice S1 Sn1 Sc1, .slice S2 Sn2 Sc2, .slice S3 Sn3 Sc3] 26)
              have hBS := Block.new v5 26 #[.int .i64 qr, .slice S1 Sn1 Sc1, .slice S2 Sn2 Sc2, .slice S3 Sn3 Sc3]
              clear he hb1 hbb HMg g0 g1 g2 g3 k0 k1 k2 k3
              have g0 : (v5.alloc (.cells #[.int .i64 qr, .slice S1 Sn1 Sc1, .slice S2 Sn2 Sc2, .slice S3 Sn3 Sc3] 26)).cell? ⟨v4.heap.size, 0, none⟩ = some (.int .i64 qr) := hBR.cell 0
              have g1 : (v5.alloc (.cells #[.int .i64 qr, .slice S1 Sn1 Sc1, .slice S2 Sn2 Sc2, .slice S3 Sn3 Sc3] 26)).cell? ⟨v4.heap.size, 1, none⟩ = some (.slice R1 Rn1 Rc1) := hBR.cell 1
              have g2 : (v5.alloc (.cells #[.int .i64 qr, .slice S1 Sn1 Sc1, .slice S2 Sn2 Sc2, .slice S3 Sn3 Sc3] 26)).cell? ⟨v4.heap.size, 2, none⟩ = some (.slice R2 Rn2 Rc2) := hBR.cell 2
              have g3 : (v5.alloc (.cells #[.int .i64 qr, .slice S1 Sn1 Sc1, .slice S2 Sn2 Sc2, .slice S3 Sn3 Sc3] 26)).cell? ⟨v4.heap.size, 3, none⟩ = some (.slice R3 Rn3 Rc3) := hBR.cell 3
              have k0 : (v5.alloc (.cells #[.int .i64 qr, .slice S1 Sn1 Sc1, .slice S2 Sn2 Sc2, .slice S3 Sn3 Sc3] 26)).cell? ⟨v5.heap.size, 0, none⟩ = some (.int .i64 qr) := hBS.cell 0
              have k1 : (v5.alloc (.cells #[.int .i64 qr, .slice S1 Sn1 Sc1, .slice S2 Sn2 Sc2, .slice S3 Sn3 Sc3] 26)).cell? ⟨v5.heap.size, 1, none⟩ = some (.slice S1 Sn1 Sc1) := hBS.cell 1
              have k2 : (v5.alloc (.cells #[.int .i64 qr, .slice S1 Sn1 Sc1, .slice S2 Sn2 Sc2, .slice S3 Sn3 Sc3] 26)).cell? ⟨v5.heap.size, 2, none⟩ = some (.slice S2 Sn2 Sc2) := hBS.cell 2
              have k3 : (v5.alloc (.cells #[.int .i64 qr, .slice S1 Sn1 Sc1, .slice S2 Sn2 Sc2, .slice S3 Sn3 Sc3] 26)).cell? ⟨v5.heap.size, 3, none⟩ = some (.slice S3 Sn3 Sc3) := hBS.cell 3
              have HS := Lib.hid (refSame_any (n := qr) (n' := qr) hR hS (r := true) (by simp))
              have hyy : ((y3 : Int) == y3) = true := by simp
              go_wp2_with fail
              refine HS.out.mono ?_
              rintro e v6 ⟨rfl, hb1⟩
              have HB := below_then HB hb1
              have hP := hP.belowS hb1
              have hQ := hQ.belowS hb1
              have hBP := hBP.below hb1 hBP.lt
              have hBQ := hBQ.below hb1 hBQ.lt
              clear HS hb1 g0 g1 g2 g3 k0 k1 k2 k3 hR hS hBR hBS
              have g0 : (v6).cell? ⟨v2.heap.size, 0, none⟩ = some (.int .i64 qp) := hBP.cell 0
              have g1 : (v6).cell? ⟨v2.heap.size, 1, none⟩ = some (.slice P1 Pn1 Pc1) := hBP.cell 1
              have g2 : (v6).cell? ⟨v2.heap.size, 2, none⟩ = some (.slice P2 Pn2 Pc2) := hBP.cell 2
              have g3 : (v6).cell? ⟨v2.heap.size, 3, none⟩ = some (.slice P3 Pn3 Pc3) := hBP.cell 3
              have HM1 := Lib.hid (may_any (n := qp) hP (r := true) (by simpa using mP.out))
              go_wp2_with fail
              refine HM1.out.mono ?_
              rintro e v7 ⟨rfl, hb1⟩
              have HB := below_then HB hb1
              have hQ := hQ.belowS hb1
              have hBQ := hBQ.below hb1 hBQ.lt
              clear HM1 hb1 g0 g1 g2 g3 hP hBP
              have g0 : (v7).cell? ⟨v3.heap.size, 0, none⟩ = some (.int .i64 qq) := hBQ.cell 0
              have g1 : (v7).cell? ⟨v3.heap.size, 1, none⟩ = some (.slice Q1 Qn1 Qc1) := hBQ.cell 1
              have g2 : (v7).cell? ⟨v3.heap.size, 2, none⟩ = some (.slice Q2 Qn2 Qc2) := hBQ.cell 2
              have g3 : (v7).cell? ⟨v3.heap.size, 3, none⟩ = some (.slice Q3 Qn3 Qc3) := hBQ.cell 3
              have HM2 := Lib.hid (may_any (n := qq) hQ (r := true) (by simpa using mQ.out))
              go_wp2_with fail
              refine HM2.out.mono ?_
              rintro e v8 ⟨rfl, hb1⟩
              have HB := below_then HB hb1
              clear HM2 hb1 g0 g1 g2 g3 hQ hBQ
              go_wp2_with fail
              refine (cellLives_any _).mono ?_
              rintro e vz ⟨rfl, hbz⟩
              have HB := below_then HB hbz
              go_wp2_with fail
              go_ret
              exact ⟨rfl, HB⟩
            · have e4 : ((y2 : Int) != 0) = true := by simpa using c4
              rcases H.out.2.1 c1 c2 with h3 | h3
              · have e5 : ((y3 : Int) == 0) = true := by simpa using h3
                go_wp2_with fail
                refine (cellLives_any _).mono ?_
                rintro e vz ⟨rfl, hbz⟩
                have HB := below_then HB hbz
                go_wp2_with fail
                go_ret
                exact ⟨rfl, HB⟩
              · have e5 : ((y3 : Int) == 0) = false := by simp; omega
                have e6 : ((y3 : Int) == 14) = true := by simpa using h3
                go_wp2_with fail
                refine (cellLives_any _).mono ?_
                rintro e vz ⟨rfl, hbz⟩
                have HB := below_then HB hbz
                go_wp2_with fail
                go_ret
                exact ⟨rfl, HB⟩
          · have e3 : ((y1 : Int) != 0) = true := by simpa using c3
            rcases H.out.2.1 c1 c2 with h3 | h3
            · have e5 : ((y3 : Int) == 0) = true := by simpa using h3
              go_wp2_with fail
              refine (cellLives_any _).mono ?_
              rintro e vz ⟨rfl, hbz⟩
              have HB := below_then HB hbz
              go_wp2_with fail
              go_ret
              exact ⟨rfl, HB⟩
            · have e5 : ((y3 : Int) == 0) = false := by simp; omega
              have e6 : ((y3 : Int) == 14) = true := by simpa using h3
              go_wp2_with fail
              refine (cellLives_any _).mono ?_
              rintro e vz ⟨rfl, hbz⟩
              have HB := below_then HB hbz
              go_wp2_with fail
              go_ret
              exact ⟨rfl, HB⟩

set_option maxRecDepth 100000 in
theorem lifted (os : Os) (started : os.Started) (H : Type) (enc : TypeId × Value → H) :
    ReturnsInHanded {} Try.checked os 7 .any (Rows.cellPartsSpec.pre6 enc Try.prog Try.f7 Rows.cellPartsRow.domain false) (Rows.cellPartsSpec.post enc Try.prog Try.f7 false true false false) := by
  refine returnsInHanded_of_change (C := Try.checked) own started (by kernel_rfl) Try.func7
    (ChangeSpec.witness6 (enc := enc) (C := Try.checked) false ⟨#[], #[.int .i64 0, .slice none 0 0, .int .i64 0], []⟩ 8 (by kernel_rfl) (by kernel_rfl) (by kernel_rfl) (by kernel_rfl)) ?_
  intro W base args ds gs before hval0 hW hcnd _
  have hval : ∀ (j : Nat) t v, Try.f7.params[j]? = some t → args[j]? = some v → Value.okWide Try.prog W .any base t v := hval0
  have hW' := hW
  obtain ⟨p, q, hA0, hV, rfl, hfz, hnd⟩ := hW
  have hA : DataW.TrodAll enc Try.prog W 0 (fun _ => true) true Try.f7.params.toList args.toList ds p := hA0
  rw [Try.params7] at hA hval
  obtain ⟨v0, vs0, d0, ds0, p0, q0, hargs, rfl, rfl, h0, r0⟩ := trodAll_cons hA
  obtain ⟨v1, vs1, d1, ds1, p1, q1, rfl, rfl, rfl, h1, r1⟩ := trodAll_cons r0
  obtain ⟨v2, vs2, d2, ds2, p2, q2, rfl, rfl, rfl, h2, r2⟩ := trodAll_cons r1
  obtain ⟨rfl, rfl, rfl⟩ := trodAll_nil r2
  obtain rfl : args = #[v0, v1, v2] := by cases args; simp_all
  obtain ⟨rfl, rfl⟩ := trodVars_none hV
  obtain ⟨a0, rfl, rfl, rfl, w0⟩ := open_int Try.underlying3 (hval 0 3 v0 rfl rfl) h0
  obtain ⟨a1, len1, cap1, rfl⟩ := okWide_slice Try.underlying22 (hval 1 22 v1 rfl rfl)
  have k1 := h1
  have lt1 : ∀ x ∈ p1, x.block < W.heap.size := by obtain ⟨m, hm⟩ := k1; exact DataW.trod_lt m _ _ _ hm
  have w1 : RC Try.prog W 22 [.slice a1 len1 cap1] := by
    obtain ⟨fuel, hf⟩ := h1
    exact ⟨_, _, _, _, _, fuel, _, hf⟩
  obtain ⟨a2, rfl, rfl, rfl, w2⟩ := open_int Try.underlying3 (hval 2 3 v2 rfl rfl) h2
  clear hA0 hval0
  refine (walk a0 a1 len1 cap1 a2 W w0 w1 w2).mono fun e W' ⟨he, bel⟩ => ?_
  subst he
  exact ⟨_, rfl, _, _, _, [], _, [], hW', trodAll_mk1 (shut_bool Try.underlying4 _), (trodAll_cons_mk (shut_int Try.underlying3 w0) (trodAll_cons_mk (Below.trod laidOut (by kernel_rfl) (of_decide_eq_true (by kernel_rfl)) k1 bel lt1) (trodAll_cons_mk (shut_int Try.underlying3 w2) trodAll_mk0))), rfl, bel.frame _, fun h => by cases h⟩

theorem over : Rows.cellPartsRow.holds Try.pinned (OpenSpec.ofChange Rows.cellPartsSpec) :=
  OpenClaim.holds_of_wide 7 Try.f7 rfl rfl rfl rfl rfl rfl rfl ⟨rfl, rfl, rfl, rfl, rfl⟩ rfl rfl rfl rfl rfl (by kernel_rfl) Try.func7 (by kernel_rfl)
    (of_decide_eq_true (by kernel_rfl)) (by unfold Func.isWrapper; first | (rw [if_pos (by decide +kernel)]; kernel_rfl) | (rw [if_neg (by decide +kernel)]; exact ⟨rfl, rfl⟩))
    (fun os started H enc _ => lifted os started H enc)

theorem proved : Rows.CellPartsSaid := over
end Go.Proofs.Ytbgbchbnidejhaa.cellParts
