/-
  Proved: of any schema (few of each) and any levels (the first 8), schema.Base, schema.Views, schema.Number of each view and of the levels, and schema.Corner answer just what the document says; the document's examples hold, and nothing that was handed in changes. No condition.
-/
import Derived.Test.YtbiogldapodhmaaRows
import Derived.Test.YtbiogldapodhmaaSchemaE
import Derived.Test.YtbiogldapodhmaaSchemaR
import Derived.Test.YtbiogldapodhmaaSchemaH
import Derived.Test.YtbiogldapodhmaaSchemaS
import Derived.Deep.DeepCutAuto
import Derived.Deep.RegionWith
import Derived.WalkKit
import Derived.ProofKit
import Derived.OpenShut
import Derived.ShutString
import Derived.ChangeOld
import Derived.Below
namespace Go.Proofs.Ytbiogldapodhmaa.schemaViews
open Go.ChangeShapes Go.WideShapes Go.ChangeAt Go.RowKit
open Go.ChangeMaps (open_string shut_string)
set_option linter.unusedVariables false

theorem own : ownKnob Try.prog.godebug = none := by kernel_rfl
theorem laidOut : laidOutB Try.prog = true := by kernel_rfl

def IsRow (k : IntKind) (w : World) (a : Option Addr) (len cap : Nat) (zs : List Int) : Prop :=
  (a = none ∧ len = 0 ∧ cap = 0 ∧ zs = []) ∨
  ∃ x, a = some x ∧ len ≤ cap ∧ cap ≤ maxLen ∧ zs.length = cap ∧ (∀ i, i < zs.length → w.cell? (x.add i) = some (.int k (zs.getD i 0))) ∧ ∀ n ∈ zs, (Lit.int k n).wf = true

set_option maxRecDepth 100000 in
set_option maxHeartbeats 2000000 in
theorem walk (cs0 : Array Value) (a1 : Option Addr) (len1 cap1 : Nat) (z1 : List Int) (w : World) (w0 : RC Try.prog w 26 cs0.toList) (w1 : IsRow .i64 w a1 len1 cap1 z1) :
    Calls Try.prog 4 #[.agg cs0, .slice a1 len1 cap1] w fun e w' => e = .returned (.bool true) ∧ Below w.heap.size w w' := by
  obtain ⟨l1, h1, _⟩ := HasI.of_row w1
  obtain ⟨m1, hm1⟩ : ∃ m, Hid (m = min len1 8) := ⟨_, Lib.hid rfl⟩
  obtain ⟨t1, ht1⟩ : ∃ t, Hid (l1.take 8 = t) := ⟨_, Lib.hid rfl⟩
  clear w1
  obtain ⟨A1, n1, c1, A2, n2, c2, A3, n3, c3, D, M, V, es, hS, hf, hm⟩ := schema_of w0
  obtain rfl : cs0 = #[.slice A1 n1 c1, .slice A2 n2 c2, .slice A3 n3 c3] := by rw [← Array.toArray_toList (xs := cs0), es]
  clear w0 es
  have hb0 := below_a1 w (.cells #[.slice A1 n1 c1, .slice A2 n2 c2, .slice A3 n3 c3] 26)
  have hX := Block.new w 26 #[.slice A1 n1 c1, .slice A2 n2 c2, .slice A3 n3 c3]
  have hS1 := hS.below hb0 (Nat.le_refl _)
  clear hS
  go_enter Try.func4, Try.ntmps4
  go_wp2_with fail
  have hsz1 : (w.alloc (.cells #[.slice A1 n1 c1, .slice A2 n2 c2, .slice A3 n3 c3] 26)).heap.size = w.heap.size + 1 := by simp
  generalize w.alloc (.cells #[.slice A1 n1 c1, .slice A2 n2 c2, .slice A3 n3 c3] 26) = w1 at hb0 hX hS1 hsz1 ⊢
  refine (few8_any hS1 hb0.size).mono ?_
  rintro e w2 ⟨⟨v1, v2, v3, rfl, k1, k2, k3⟩, hb2⟩
  have hX2 := hX.below hb2 hX.lt
  obtain ⟨B1, d1, B2, N2, d2, B3, N3, d3, rfl, rfl, rfl, hS3, hX3, r1, r2, r3⟩ := few_st hX2 (Nat.le_refl _) hX.lt k1 k2 k3
  have x0 : w2.cell? ⟨w.heap.size, 0, none⟩ = some (.slice A1 n1 c1) := hX2.cell 0
  have x1 : w2.cell? ⟨w.heap.size, 1, none⟩ = some (.slice A2 n2 c2) := hX2.cell 1
  have x2 : w2.cell? ⟨w.heap.size, 2, none⟩ = some (.slice A3 n3 c3) := hX2.cell 2
  have f0 := hX2.free 0
  have f1 := hX2.free 1
  have f2 := hX2.free 2
  have hfD := few_fitD hf 8
  have hfM := few_fitM hm 8
  have hlV := few_lenV V 12
  have hlD := few_lenD D 8
  have hN3 : N3 ≤ 12 := by have h1 := few_lenVs V 12; have h2 := hS3.v.len; omega
  have HB3 := below_put3 (hb0.trans (hb2.mono hb0.size)) (Nat.le_refl w.heap.size) (.slice B1 (fewD D 8).length d1) (.slice B2 N2 d2) (.slice B3 N3 d3)
  obtain ⟨D', hD'⟩ : ∃ D', fewD D 8 = D' := ⟨_, rfl⟩
  obtain ⟨M', hM'⟩ : ∃ M', M.take 8 = M' := ⟨_, rfl⟩
  obtain ⟨V', hV'⟩ : ∃ V', fewV V 12 = V' := ⟨_, rfl⟩
  rw [hD'] at hS3 hX3 r1 hfD hlD HB3 r2 r3 ⊢
  rw [hM'] at hS3 r2 hfM
  rw [hV'] at hS3 r3 hlV
  obtain ⟨N1, hN1⟩ : ∃ N1, D'.length = N1 := ⟨_, rfl⟩
  rw [hN1] at hS3 hX3 r1 r2 r3 HB3 hlD ⊢
  have HN1 := Lib.hid hN1
  have HfD := Lib.hid hfD
  have HfM := Lib.hid hfM
  have HlV := Lib.hid hlV
  clear hD' hM' hV' hN1 hfD hfM hlV hf hm k1 k2 k3 hX hX2 hb0 hb2 hS1 hsz1
  go_wp2_with fail
  rw [show ((w2.setCell ⟨w.heap.size, 0, none⟩ (.slice B1 N1 d1)).setCell ⟨w.heap.size, 1, none⟩ (.slice B2 N2 d2)).setCell ⟨w.heap.size, 2, none⟩ (.slice B3 N3 d3) = put3 w2 w.heap.size (.slice B1 N1 d1) (.slice B2 N2 d2) (.slice B3 N3 d3) from rfl]
  clear x0 x1 x2 f0 f1 f2
  generalize put3 w2 w.heap.size (.slice B1 N1 d1) (.slice B2 N2 d2) (.slice B3 N3 d3) = w3 at hS3 hX3 r1 r2 r3 HB3 ⊢
  have g1 := (h1.below HB3 (Nat.le_refl _)).more HB3.size
  have K := Lib.hid (show ∀ W, Below w3.heap.size w3 W → (W.cell? ⟨w.heap.size, 0, none⟩ = some (.slice B1 N1 d1) ∧ W.cell? ⟨w.heap.size, 1, none⟩ = some (.slice B2 N2 d2) ∧ W.cell? ⟨w.heap.size, 2, none⟩ = some (.slice B3 N3 d3)) ∧ HasS W W.heap.size B1 N1 d1 B2 N2 d2 B3 N3 d3 D' M' V' from fun W hW => by
    have hXW := hX3.below hW hX3.lt
    exact ⟨⟨hXW.cell 0, hXW.cell 1, hXW.cell 2⟩, (hS3.below hW (Nat.le_refl _)).more hW.size⟩)
  clear hS3 hX3 r1 r2 r3
  refine (cutL_is g1 hm1).mono ?_
  rintro e wq ⟨rfl, rfl⟩
  have gv := g1.cut8 hm1
  rw [ht1.out] at gv
  clear g1 h1
  go_upto_region 3 with fail
  go_cut [5] (fun c wx => c = .bool true ∧ Below w3.heap.size w3 wx)
  case first =>
    have HBs := Lib.hid (fun W hW => base_any (A2 := B2) (n2 := N2) (c2 := d2) (A3 := B3) (n3 := N3) (c3 := d3) (K.out W hW).2.d (by omega))
    have HRb := Lib.hid (fun W hW => refBase_any (A2 := B2) (n2 := N2) (c2 := d2) (A3 := B3) (n3 := N3) (c3 := d3) (K.out W hW).2.d (by omega))
    have hcur : Below w3.heap.size w3 w3.drew := Below.drew (Below.refl _ _)
    obtain ⟨⟨c0, c1, c2⟩, _⟩ := K.out w3 (Below.refl _ _)
    go_wp2_with fail
    go_region_with (first
      | (go_at_call 16; refine (HBs.out _ hcur).mono ?_; rintro e wA ⟨⟨vA, rfl, hO⟩, hA⟩; obtain ⟨AA, nA, cA, rfl, rowA, _⟩ := hO.formN; have hcur := hcur.trans (hA.mono hcur.size); (try have rowR := rowR.belowS hA); obtain ⟨⟨c0, c1, c2⟩, _⟩ := K.out wA hcur; clear hO hA)
      | (go_at_call 17; refine (HRb.out _ hcur).mono ?_; rintro e wR ⟨⟨vR, rfl, hO⟩, hR⟩; obtain ⟨AR, nR, cR, rfl, rowR, _⟩ := hO.formN; have hcur := hcur.trans (hR.mono hcur.size); (try have rowA := rowA.belowS hR); obtain ⟨⟨c0, c1, c2⟩, _⟩ := K.out wR hcur; clear hO hR)
      | (go_at_call 15; refine (toB (sameI_any rowA rowR)).mono ?_; rintro e wS ⟨rfl, hS⟩; have hcur := hcur.trans (hS.mono hcur.size); clear hS))
    all_goals
      have hfin := hcur
      clear HBs HRb c0 c1 c2
      go_wp2_with fail
      go_meet
      exact ⟨by first | rfl | simp, hfin⟩
  case rest =>
    obtain ⟨rfl, hcur⟩ := hcut
    obtain ⟨⟨c0, c1, c2⟩, hSc⟩ := K.out wc hcur
    go_wp2_with fail
    refine (views_any hSc (by omega) (by omega) HlV.out).mono ?_
    rintro e w4 ⟨⟨va, rfl, hO⟩, hb4⟩
    obtain ⟨Aa, ca, rfl, hLa⟩ := hO.form
    have hcur4 := hcur.trans (hb4.mono hcur.size)
    clear hO c0 c1 c2 hSc
    obtain ⟨⟨c0, c1, c2⟩, hSc⟩ := K.out w4 hcur4
    go_wp2_with fail
    refine (refViews_any hSc (by omega) (by omega)).mono ?_
    rintro e w5 ⟨⟨Ab, cb, rfl, hLb⟩, hb5⟩
    have hcur5 := hcur4.trans (hb5.mono hcur4.size)
    have hLa := hLa.belowS hb5
    have gv := (gv.below hcur5 (Nat.le_refl _)).more hcur5.size
    clear c0 c1 c2 hSc hb4 hb5 hcur4 hcur
    obtain ⟨VS, hVS⟩ : ∃ VS, viewsP D' V' = VS := ⟨_, rfl⟩
    obtain ⟨N, hN⟩ : ∃ N, VS.length = N := ⟨_, rfl⟩
    rw [hVS, hN] at hLa hLb ⊢
    have hVN : N ≤ 13 := by have h1 := few_lenVs V 12; rw [← hN, ← hVS]; simp only [viewsP, List.length_cons]; have := (K.out w5 hcur5).2.v.len; omega
    clear hVS hN
    have K5 := Lib.hid (show ∀ W, Below w5.heap.size w5 W → ((W.cell? ⟨w.heap.size, 0, none⟩ = some (.slice B1 N1 d1) ∧ W.cell? ⟨w.heap.size, 1, none⟩ = some (.slice B2 N2 d2) ∧ W.cell? ⟨w.heap.size, 2, none⟩ = some (.slice B3 N3 d3)) ∧ HasS W W.heap.size B1 N1 d1 B2 N2 d2 B3 N3 d3 D' M' V') ∧ HasL W W.heap.size Aa N ca VS ∧ HasL W W.heap.size Ab N cb VS ∧ HasI W W.heap.size a1 m1 cap1 t1 from fun W hW =>
      ⟨K.out W (hcur5.trans (hW.mono hcur5.size)), hLa.belowS hW, hLb.belowS hW, gv.belowS hW⟩)
    have HB5 := HB3.trans (hcur5.mono HB3.size)
    clear K hLa hLb gv hcur5 HB3
    obtain ⟨⟨⟨c0, c1, c2⟩, hSc⟩, _, _, hgv⟩ := K5.out w5 (Below.refl _ _)
    obtain ⟨q, hq⟩ : ∃ q, Hid (decide (cornerP D' t1) = q) := ⟨_, Lib.hid rfl⟩
    have HC := Lib.hid fun (y : Bel w5) => y.calls fun W hw => corner_any (A2 := B2) (n2 := N2) (c2 := d2) (A3 := B3) (n3 := N3) (c3 := d3) (K5.out W hw).1.2.d (K5.out W hw).2.2.2
    have HRc := Lib.hid fun (y : Bel w5) => y.calls fun W hw => refCorner_any (A2 := B2) (n2 := N2) (c2 := d2) (A3 := B3) (n3 := N3) (c3 := d3) (K5.out W hw).1.2.d (K5.out W hw).2.2.2
    rw [hq.out] at HC HRc
    have k0 : ∀ y : Bel w5, y.w.cell? ⟨w.heap.size, 0, none⟩ = some (.slice B1 N1 d1) := fun y => y.cell c0
    have k1 : ∀ y : Bel w5, y.w.cell? ⟨w.heap.size, 1, none⟩ = some (.slice B2 N2 d2) := fun y => y.cell c1
    have k2 : ∀ y : Bel w5, y.w.cell? ⟨w.heap.size, 2, none⟩ = some (.slice B3 N3 d3) := fun y => y.cell c2
    have hNN : ((N : Int) != (N : Int)) = false := by simp
    clear c0 c1 c2 hSc hgv hq
    go_wp2_with fail
    go_upto_region 6 with fail
    go_cut [48] (fun c wx => c = .bool false ∧ Below w5.heap.size w5 wx)
    case first =>
      cases q
      all_goals
        refine wp_region_below (by kernel_rfl) (by kernel_rfl) ?_
        repeat (go_big_quiet_step (first | (go_at_call 20; exact HC.out _) | (go_at_call 21; exact HRc.out _)))
        refine wpQuiet_nil ?_
        rintro _ ⟨⟨w6, hb6⟩, rfl⟩
        have hfin := hb6
        clear HC HRc k0 k1 k2
        go_wp2_with fail
        go_meet
        exact ⟨rfl, hfin⟩
    case rest =>
      obtain ⟨rfl, hcur⟩ := hcut
      clear HC HRc k0 k1 k2 hNN
      go_wp2_with fail
      go_loopw [8] (fun i wr => ∃ k : Nat, k ≤ N ∧ i = .int .i64 k ∧ Below w5.heap.size w5 wr) (fun i _ => N - (intOf i).toNat)
      case atStart => exact ⟨0, Nat.zero_le _, rfl, hcur⟩
      case round =>
        obtain ⟨k, hk, rfl, hB⟩ := hrel
        clear hcur
        by_cases hlt : k < N
        · obtain ⟨⟨⟨c0, c1, c2⟩, hSc⟩, hLa, hLb, _⟩ := K5.out wr hB
          obtain ⟨ba, oa, A', n', c', l, rfl, hba, ga, hla, hea⟩ := hLa.at_ hlt
          obtain ⟨bb, ob, A2', n2', c2', l2, rfl, hbb, gb, hlb, heb⟩ := hLb.at_ hlt
          obtain rfl : l = l2 := hea.out.trans heb.out.symm
          have i0 : (0 : Int) ≤ (k : Int) := by omega
          have i1 : (k : Int) < (N : Int) := by omega
          have K6 := Lib.hid (show ∀ W, Below wr.heap.size wr W → ((W.cell? ⟨w.heap.size, 0, none⟩ = some (.slice B1 N1 d1) ∧ W.cell? ⟨w.heap.size, 1, none⟩ = some (.slice B2 N2 d2) ∧ W.cell? ⟨w.heap.size, 2, none⟩ = some (.slice B3 N3 d3)) ∧ HasS W W.heap.size B1 N1 d1 B2 N2 d2 B3 N3 d3 D' M' V') ∧ W.cell? ⟨bb, ob + k, none⟩ = some (.slice A2' n2' c2') ∧ HasI W W.heap.size A2' n2' c2' l from fun W hW =>
            ⟨(K5.out W (hB.trans (hW.mono hB.size))).1, (hW.cell (p := ⟨bb, ob + k, none⟩) hbb).trans gb, hlb.belowS hW⟩)
          have HS := Lib.hid fun (y : Bel wr) => y.calls fun W hw => toB (sameI_any (hla.belowS hw) (hlb.belowS hw))
          rw [decide_eq_true rfl] at HS
          have k4 : ∀ y : Bel wr, y.w.cell? ⟨ba, oa + k, none⟩ = some (.slice A' n' c') := fun y => y.cell ga
          have k5 : ∀ y : Bel wr, y.w.cell? ⟨bb, ob + k, none⟩ = some (.slice A2' n2' c2') := fun y => y.cell gb
          obtain ⟨na, nb, hnab⟩ : ∃ na nb, Hid (numberP D' M' V' l = (na, nb)) := ⟨_, _, Lib.hid rfl⟩
          clear c0 c1 c2 hSc hLa hLb ga gb hla hlb
          go_wp2_with fail
          refine wp_region_below (by kernel_rfl) (by kernel_rfl) ?_
          repeat (go_big_quiet_step (first | (go_at_call 15; exact HS.out _)))
          refine wpQuiet_nil ?_
          rintro _ ⟨y6, rfl⟩
          have hb6 := y6.b
          generalize y6.w = w6 at hb6 ⊢
          clear HS k4 k5 y6
          obtain ⟨⟨⟨c0, c1, c2⟩, _⟩, g6, _⟩ := K6.out w6 hb6
          have HNu := Lib.hid fun (y : Bel w6) => y.calls fun W hw => number_any (K6.out W (hb6.trans (hw.mono hb6.size))).1.2 (K6.out W (hb6.trans (hw.mono hb6.size))).2.2 HfD.out HfM.out (by omega) (by omega) HlV.out hnab
          have k0 : ∀ y : Bel w6, y.w.cell? ⟨w.heap.size, 0, none⟩ = some (.slice B1 N1 d1) := fun y => y.cell c0
          have k1 : ∀ y : Bel w6, y.w.cell? ⟨w.heap.size, 1, none⟩ = some (.slice B2 N2 d2) := fun y => y.cell c1
          have k2 : ∀ y : Bel w6, y.w.cell? ⟨w.heap.size, 2, none⟩ = some (.slice B3 N3 d3) := fun y => y.cell c2
          have k5 : ∀ y : Bel w6, y.w.cell? ⟨bb, ob + k, none⟩ = some (.slice A2' n2' c2') := fun y => y.cell g6
          clear c0 c1 c2 g6
          go_wp2_with fail
          refine wp_region_below (by kernel_rfl) (by kernel_rfl) ?_
          repeat (go_big_quiet_step (first | (go_at_call 22; exact HNu.out _)))
          refine wpQuiet_nil ?_
          rintro _ ⟨y7, rfl⟩
          have hb7 := y7.b
          generalize y7.w = w7 at hb7 ⊢
          clear HNu k0 k1 k2 k5 y7
          have hb7 := hb6.trans (hb7.mono hb6.size)
          clear hb6
          obtain ⟨⟨⟨c0, c1, c2⟩, _⟩, g6, _⟩ := K6.out w7 hb7
          have HNu := Lib.hid fun (y : Bel w7) => y.calls fun W hw => refNumber_any (K6.out W (hb7.trans (hw.mono hb7.size))).1.2 (K6.out W (hb7.trans (hw.mono hb7.size))).2.2 (by omega) (by omega) hnab
          have k0 : ∀ y : Bel w7, y.w.cell? ⟨w.heap.size, 0, none⟩ = some (.slice B1 N1 d1) := fun y => y.cell c0
          have k1 : ∀ y : Bel w7, y.w.cell? ⟨w.heap.size, 1, none⟩ = some (.slice B2 N2 d2) := fun y => y.cell c1
          have k2 : ∀ y : Bel w7, y.w.cell? ⟨w.heap.size, 2, none⟩ = some (.slice B3 N3 d3) := fun y => y.cell c2
          have k5 : ∀ y : Bel w7, y.w.cell? ⟨bb, ob + k, none⟩ = some (.slice A2' n2' c2') := fun y => y.cell g6
          clear c0 c1 c2 g6
          go_wp2_with fail
          refine wp_region_below (by kernel_rfl) (by kernel_rfl) ?_
          repeat (go_big_quiet_step (first | (go_at_call 23; exact HNu.out _)))
          refine wpQuiet_nil ?_
          rintro _ ⟨y8, rfl⟩
          have hb8 := y8.b
          generalize y8.w = w8 at hb8 ⊢
          clear HNu k0 k1 k2 k5 y8
          have HB8 := Lib.hid (hB.trans ((hb7.trans (hb8.mono hb7.size)).mono hB.size))
          clear hb7 hb8 K6 hB
          go_wp2_with fail
          go_roundw
          case rel => exact ⟨k + 1, by omega, by go_num, HB8.out⟩
          case measure => simp [intOf]; omega
        · obtain ⟨⟨⟨c0, c1, c2⟩, hSc⟩, _, _, hgv⟩ := K5.out wr hB
          obtain ⟨na, nb, hnab⟩ : ∃ na nb, Hid (numberP D' M' V' t1 = (na, nb)) := ⟨_, _, Lib.hid rfl⟩
          have HNu := Lib.hid (number_any hSc hgv HfD.out HfM.out (by omega) (by omega) HlV.out hnab)
          clear hSc hgv
          go_wp2_with fail
          refine HNu.out.mono ?_
          rintro e w6 ⟨rfl, hb6⟩
          have hB6 := hB.trans (hb6.mono hB.size)
          clear HNu c0 c1 c2 hb6
          obtain ⟨⟨⟨c0, c1, c2⟩, hSc⟩, _, _, hgv⟩ := K5.out w6 hB6
          have HNu := Lib.hid (refNumber_any hSc hgv (by omega) (by omega) hnab)
          clear hSc hgv
          go_wp2_with fail
          refine HNu.out.mono ?_
          rintro e w7 ⟨rfl, hb7⟩
          have hB7 := hB6.trans (hb7.mono hB6.size)
          have HB7 := HB5.trans (hB7.mono HB5.size)
          clear HNu c0 c1 c2 hb7 hB6 hB7 K5 HB5
          go_wp2_with fail
          refine (schemaLives_any _).mono ?_
          rintro e vz ⟨rfl, hbz⟩
          have HF := Lib.hid (HB7.trans (hbz.mono HB7.size))
          clear hbz HB7
          go_wp2_with fail
          go_ret
          exact ⟨rfl, HF.out⟩

set_option maxRecDepth 100000 in
theorem lifted (os : Os) (started : os.Started) (H : Type) (enc : TypeId × Value → H) :
    ReturnsInHanded {} Try.checked os 4 .any (Rows.schemaViewsSpec.pre6 enc Try.prog Try.f4 Rows.schemaViewsRow.domain false) (Rows.schemaViewsSpec.post enc Try.prog Try.f4 false true false false) := by
  refine returnsInHanded_of_change (C := Try.checked) own started (by kernel_rfl) Try.func4
    (ChangeSpec.witness6 (enc := enc) (C := Try.checked) false ⟨#[], #[.agg #[.slice none 0 0, .slice none 0 0, .slice none 0 0], .slice none 0 0], []⟩ 8 (by kernel_rfl) (by kernel_rfl) (by kernel_rfl) (by kernel_rfl)) ?_
  intro W base args ds gs before hval0 hW hcnd _
  have hval : ∀ (j : Nat) t v, Try.f4.params[j]? = some t → args[j]? = some v → Value.okWide Try.prog W .any base t v := hval0
  have hW' := hW
  obtain ⟨p, q, hA0, hV, rfl, hfz, hnd⟩ := hW
  have hA : DataW.TrodAll enc Try.prog W 0 (fun _ => true) true Try.f4.params.toList args.toList ds p := hA0
  rw [Try.params4] at hA hval
  obtain ⟨v0, vs0, d0, ds0, p0, q0, hargs, rfl, rfl, h0, r0⟩ := trodAll_cons hA
  obtain ⟨v1, vs1, d1, ds1, p1, q1, rfl, rfl, rfl, h1, r1⟩ := trodAll_cons r0
  obtain ⟨rfl, rfl, rfl⟩ := trodAll_nil r1
  obtain rfl : args = #[v0, v1] := by cases args; simp_all
  obtain ⟨rfl, rfl⟩ := trodVars_none hV
  obtain ⟨cs0, rfl, hsz0⟩ := okWide_struct Try.underlying26 (hval 0 26 v0 rfl rfl)
  have k0 := h0
  have lt0 : ∀ x ∈ p0, x.block < W.heap.size := by obtain ⟨m, hm⟩ := k0; exact DataW.trod_lt m _ _ _ hm
  have w0 : RC Try.prog W 26 cs0.toList := by
    obtain ⟨fuel, hf⟩ := h0
    exact ⟨_, _, _, _, _, fuel, _, by simpa [Value.cells] using hf⟩
  obtain ⟨a1, len1, cap1, rfl⟩ := okWide_slice Try.underlying30 (hval 1 30 v1 rfl rfl)
  have k1 := h1
  have lt1 : ∀ x ∈ p1, x.block < W.heap.size := by obtain ⟨m, hm⟩ := k1; exact DataW.trod_lt m _ _ _ hm
  obtain ⟨z1, w1⟩ : ∃ zs, IsRow .i64 W a1 len1 cap1 zs := by
    obtain ⟨fuel, hf⟩ := h1
    rcases open_ints Try.underlying30 Try.underlying3 (by kernel_rfl) hf with ⟨hcs, _⟩ | ⟨x, l, c, zs, hcs, _, hl, hm, hz, _, hcell, hwz⟩
    · simp [Value.cells] at hcs
      obtain ⟨rfl, rfl, rfl⟩ := hcs
      exact ⟨[], .inl ⟨rfl, rfl, rfl, rfl⟩⟩
    · simp [Value.cells] at hcs
      obtain ⟨rfl, rfl, rfl⟩ := hcs
      exact ⟨zs, .inr ⟨_, rfl, hl, hm, by simpa using hz, hcell, hwz⟩⟩
  clear hA0 hval0
  refine (walk cs0 a1 len1 cap1 z1 W w0 w1).mono fun e W' ⟨he, bel⟩ => ?_
  subst he
  exact ⟨_, rfl, _, _, _, [], _, [], hW', trodAll_mk1 (shut_bool Try.underlying4 _), (trodAll_cons_mk (Below.trod laidOut (by kernel_rfl) (of_decide_eq_true (by kernel_rfl)) k0 bel lt0) (trodAll_cons_mk (Below.trod laidOut (by kernel_rfl) (of_decide_eq_true (by kernel_rfl)) k1 bel lt1) trodAll_mk0)), rfl, bel.frame _, fun h => by cases h⟩

theorem over : Rows.schemaViewsRow.holds Try.pinned (OpenSpec.ofChange Rows.schemaViewsSpec) :=
  OpenClaim.holds_of_wide 4 Try.f4 rfl rfl rfl rfl rfl rfl rfl ⟨rfl, rfl, rfl, rfl, rfl⟩ rfl rfl rfl rfl rfl (by kernel_rfl) Try.func4 (by kernel_rfl)
    (of_decide_eq_true (by kernel_rfl)) (by unfold Func.isWrapper; first | (rw [if_pos (by decide +kernel)]; kernel_rfl) | (rw [if_neg (by decide +kernel)]; exact ⟨rfl, rfl⟩))
    (fun os started H enc _ => lifted os started H enc)

theorem proved : Rows.SchemaViewsSaid := over
end Go.Proofs.Ytbiogldapodhmaa.schemaViews
