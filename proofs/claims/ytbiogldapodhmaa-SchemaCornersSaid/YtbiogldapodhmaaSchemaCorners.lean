/-
  Proved: of any schema (at most 4 Dims of at most 4 Levels), schema.Corners is just how many corners there are, and schema.Base covers each; the document's examples hold, and nothing that was handed in changes. No condition.
-/
import Derived.Test.YtbiogldapodhmaaRows
import Derived.Test.YtbiogldapodhmaaSchemaE
import Derived.Test.YtbiogldapodhmaaSchemaR
import Derived.Test.YtbiogldapodhmaaSchemaD
import Derived.Deep.DeepCutAuto
import Derived.Deep.RegionWith
import Derived.RegionTactic
import Derived.WalkKit
import Derived.ProofKit
import Derived.OpenShut
import Derived.ShutString
import Derived.ChangeOld
import Derived.Below
namespace Go.Proofs.Ytbiogldapodhmaa.schemaCorners
open Go.ChangeShapes Go.WideShapes Go.ChangeAt Go.RowKit
open Go.ChangeMaps (open_string shut_string)
set_option linter.unusedVariables false

theorem own : ownKnob Try.prog.godebug = none := by kernel_rfl
theorem laidOut : laidOutB Try.prog = true := by kernel_rfl

def IsRow (k : IntKind) (w : World) (a : Option Addr) (len cap : Nat) (zs : List Int) : Prop :=
  (a = none ∧ len = 0 ∧ cap = 0 ∧ zs = []) ∨
  ∃ x, a = some x ∧ len ≤ cap ∧ cap ≤ maxLen ∧ zs.length = cap ∧ (∀ i, i < zs.length → w.cell? (x.add i) = some (.int k (zs.getD i 0))) ∧ ∀ n ∈ zs, (Lit.int k n).wf = true

set_option maxRecDepth 100000 in
set_option maxHeartbeats 2000000 in
theorem walk (cs0 : Array Value) (w : World) (w0 : RC Try.prog w 26 cs0.toList) :
    Calls Try.prog 8 #[.agg cs0] w fun e w' => e = .returned (.bool true) ∧ Below w.heap.size w w' := by
  obtain ⟨A1, n1, c1, A2, n2, c2, A3, n3, c3, D, M, V, es, hS, hf, hm⟩ := schema_of w0
  obtain rfl : cs0 = #[.slice A1 n1 c1, .slice A2 n2 c2, .slice A3 n3 c3] := by rw [← Array.toArray_toList (xs := cs0), es]
  clear w0 es
  have hb0 := below_a1 w (.cells #[.slice A1 n1 c1, .slice A2 n2 c2, .slice A3 n3 c3] 26)
  have hX := Block.new w 26 #[.slice A1 n1 c1, .slice A2 n2 c2, .slice A3 n3 c3]
  have hS1 := hS.below hb0 (Nat.le_refl _)
  clear hS
  go_enter Try.func8, Try.ntmps8
  go_wp2_with fail
  have hsz1 : (w.alloc (.cells #[.slice A1 n1 c1, .slice A2 n2 c2, .slice A3 n3 c3] 26)).heap.size = w.heap.size + 1 := by simp
  generalize w.alloc (.cells #[.slice A1 n1 c1, .slice A2 n2 c2, .slice A3 n3 c3] 26) = w1 at hb0 hX hS1 hsz1 ⊢
  refine (few8_any hS1 hb0.size).mono ?_
  rintro e w2 ⟨⟨v1, v2, v3, rfl, k1, k2, k3⟩, hb2⟩
  have hX2 := hX.below hb2 hX.lt
  obtain ⟨B1, d1, B2, N2, d2, B3, N3, d3, rfl, rfl, rfl, hS3, hX3, r1, r2, r3⟩ := few_st hX2 (Nat.le_refl _) hX.lt k1 k2 k3
  have x0 : w2.cell? ⟨w.heap.size, 0, none⟩ = some (.slice A1 n1 c1) := hX2.cell 0
  have x1 : w2.cell? ⟨w.heap.size, 1, none⟩ = some (.slice A2 n2 c2) := hX2.cell 1
  have x2 : w2.cell? ⟨w.heap.size, 2, none⟩ = some (.slice A3 n3 c3) := hX2.cell 2
  have f0 := hX2.free 0
  have f1 := hX2.free 1
  have f2 := hX2.free 2
  have hfD := few_fitD hf 8
  have hfM := few_fitM hm 8
  have hlV := few_lenV V 12
  have hlD := few_lenD D 8
  have hN3 : N3 ≤ 12 := by have h1 := few_lenVs V 12; have h2 := hS3.v.len; omega
  have HB3 := below_put3 (hb0.trans (hb2.mono hb0.size)) (Nat.le_refl w.heap.size) (.slice B1 (fewD D 8).length d1) (.slice B2 N2 d2) (.slice B3 N3 d3)
  obtain ⟨D', hD'⟩ : ∃ D', fewD D 8 = D' := ⟨_, rfl⟩
  obtain ⟨M', hM'⟩ : ∃ M', M.take 8 = M' := ⟨_, rfl⟩
  obtain ⟨V', hV'⟩ : ∃ V', fewV V 12 = V' := ⟨_, rfl⟩
  rw [hD'] at hS3 hX3 r1 hfD hlD HB3 r2 r3 ⊢
  rw [hM'] at hS3 r2 hfM
  rw [hV'] at hS3 r3 hlV
  obtain ⟨N1, hN1⟩ : ∃ N1, D'.length = N1 := ⟨_, rfl⟩
  rw [hN1] at hS3 hX3 r1 r2 r3 HB3 hlD ⊢
  have HN1 := Lib.hid hN1
  have HfD := Lib.hid hfD
  have HfM := Lib.hid hfM
  have HlV := Lib.hid hlV
  clear hD' hM' hV' hN1 hfD hfM hlV hf hm k1 k2 k3 hX hX2 hb0 hb2 hS1 
  go_upto_if 12 with fail
  rw [show ((w2.setCell ⟨w.heap.size, 0, none⟩ (.slice B1 N1 d1)).setCell ⟨w.heap.size, 1, none⟩ (.slice B2 N2 d2)).setCell ⟨w.heap.size, 2, none⟩ (.slice B3 N3 d3) = put3 w2 w.heap.size (.slice B1 N1 d1) (.slice B2 N2 d2) (.slice B3 N3 d3) from rfl]
  clear x0 x1 x2 f0 f1 f2
  generalize put3 w2 w.heap.size (.slice B1 N1 d1) (.slice B2 N2 d2) (.slice B3 N3 d3) = w3 at hS3 hX3 r1 r2 r3 HB3 ⊢
  rw [hsz1] at r1
  clear hsz1 r2 r3
  have hd1 := hS3.d.cap
  have hdm := hS3.d.capMax
  have HN2 := Lib.hid HN1.out
  clear HfD HfM HlV hS3 hN3
  have x0 : w3.cell? ⟨w.heap.size, 0, none⟩ = some (.slice B1 N1 d1) := hX3.cell 0
  go_cut [2] (fun s2 wx => s2 = .bool false ∧ ∃ n, n ≤ 4 ∧ n ≤ N1 ∧ Block wx w.heap.size 26 #[.slice B1 n d1, .slice B2 N2 d2, .slice B3 N3 d3] ∧ OwnDs wx (w.heap.size + 1) w.heap.size (.slice B1 n d1) (D'.take n) ∧ Below w.heap.size w wx)
  case first =>
    have f0 := hX3.free 0
    by_cases h4 : 4 < N1
    · have h4i : (4 : Int) < (N1 : Int) := by omega
      have h5i : (4 : Int) ≤ (d1 : Int) := by omega
      have hB := Lib.hid (hX3.set_ 0 (.slice B1 4 d1))
      have hO := Lib.hid ((r1.take_ (k := 4) (by omega)).put (g := w.heap.size) (i := 0) (u := .slice B1 4 d1) (Nat.le_refl _) (by omega))
      have hBe := Lib.hid (HB3.setCell (p := ⟨w.heap.size, 0, none⟩) (Nat.le_refl _) (.slice B1 4 d1))
      clear hX3 r1 HB3
      go_wp2_with fail
      go_meet
      exact ⟨rfl, 4, Nat.le_refl _, by omega, hB.out, hO.out, hBe.out⟩
    · have h4i : ¬ (4 : Int) < (N1 : Int) := by omega
      have hO := Lib.hid r1
      have e : D'.take N1 = D' := List.take_of_length_le (by have := HN1.out; omega)
      clear r1
      go_wp2_with fail
      go_meet
      exact ⟨rfl, N1, by omega, Nat.le_refl _, hX3, by rw [e]; exact hO.out, HB3⟩
  case rest =>
    obtain ⟨rfl, n, hn4, hnN, hXw, hOw, HBw⟩ := hcut
    obtain ⟨DN, hDN⟩ : ∃ DN, D'.take n = DN := ⟨_, rfl⟩
    rw [hDN] at hOw
    have HDN : Hid (DN.length = n) := Lib.hid (by rw [← hDN, List.length_take, HN2.out]; omega)
    rw [← cutP_zero DN] at hOw
    clear hX3 r1 HB3 HN1 HN2 hDN hd1 hdm x0
    go_wp2_with fail
    go_loopw [3] (fun i wr => ∃ k : Nat, k ≤ n ∧ i = .int .i64 k ∧ Block wr w.heap.size 26 #[.slice B1 n d1, .slice B2 N2 d2, .slice B3 N3 d3] ∧ OwnDs wr (w.heap.size + 1) w.heap.size (.slice B1 n d1) (cutP DN k) ∧ Below w.heap.size w wr) (fun i _ => n - (intOf i).toNat)
    case atStart => exact ⟨0, Nat.zero_le _, rfl, hXw, hOw, HBw⟩
    case round =>
      obtain ⟨k, hk, rfl, hX, hO, hB⟩ := hrel
      clear hXw hOw HBw
      have x0 : wr.cell? ⟨w.heap.size, 0, none⟩ = some (.slice B1 n d1) := hX.cell 0
      by_cases hlt : k < n
      · have hkl : k < (cutP DN k).length := by rw [cutP_len, HDN.out]; exact hlt
        obtain ⟨g, cg, e, hg1, hg2⟩ := hO.formP (by omega)
        injection e with e1 e2 e3
        subst e1
        obtain ⟨x, A', n', c', L, q0, q1, qf, hT, he⟩ := hO.at_ hkl
        have hcap := hT.cap
        have hcm := hT.capMax
        have hTL := Lib.hid hT.len
        have hdn : Hid (DN.getD k zeroD = (x, L)) := Lib.hid (by rw [← cutP_get (by rw [HDN.out]; exact hlt)]; exact he.out)
        have hne : g ≠ w.heap.size := by omega
        have i0 : (0 : Int) ≤ (k : Int) := by omega
        have i1 : (k : Int) < (n : Int) := by omega
        clear e2 e3 q0
        by_cases h4 : (4 : Int) < (n' : Int)
        · have h5 : (4 : Int) ≤ (c' : Int) := by omega
          have hO2 := hO.cut_ (by omega) hkl he.out (hT.take_ 4 (by omega))
          rw [show ((x, L.take 4) : PDim) = c4 (x, L) from rfl, cutP_set (by rw [HDN.out]; exact hlt) hdn.out] at hO2
          have hO3 := Lib.hid hO2
          have hX2 := Lib.hid (hX.elsewhere g (k * 2 + 1) (.slice A' 4 c') hne)
          have hB2 := Lib.hid (hB.setCell (p := ⟨g, k * 2 + 1, none⟩) (show w.heap.size ≤ g by omega) (.slice A' 4 c'))
          clear hO hO2 hX hB hT
          go_wp2_with fail
          go_region
          all_goals
            have hO4 := Lib.hid (hO3.out.below (below_drewN (Below.refl _ _) 1) (Nat.le_refl _) (Nat.le_trans hB2.out.size (Nat.le_refl _)))
            have hX4 := Lib.hid (hX2.out.drewN 1)
            have hB4 := Lib.hid (below_drewN hB2.out 1)
            clear hO3 hX2 hB2 q1 qf x0
            go_wp2_with fail
            go_roundw
            case rel => exact ⟨k + 1, by omega, by go_num, hX4.out, hO4.out, hB4.out⟩
            case measure => simp [intOf]; omega
        · have hO2 := hO
          rw [← cutP_keep (by rw [HDN.out]; exact hlt) hdn.out (by rw [hTL.out]; omega)] at hO2
          have hO3 := Lib.hid hO2
          clear hO hO2 hT
          go_wp2_with fail
          go_roundw
          case rel => exact ⟨k + 1, by omega, by go_num, hX, hO3.out, hB⟩
          case measure => simp [intOf]; omega
      · have e : cutP DN k = DN.map c4 := cutP_all (by rw [HDN.out]; omega)
        rw [e] at hO
        obtain ⟨AA, cc, e2, hH⟩ := hO.read (Nat.le_trans (Nat.le_refl _) hB.size)
        injection e2 with e3 e4 e5
        subst e3 e5
        rw [← e4] at hH
        have h4 : ∀ d ∈ DN.map c4, d.2.length ≤ 4 := c4_len
        obtain ⟨E, hE⟩ : ∃ E, DN.map c4 = E := ⟨_, rfl⟩
        rw [hE] at hH h4
        have H4 := Lib.hid h4
        have HEL := Lib.hid hH.len
        clear hO e e4 hE h4
        have K := Lib.hid (show ∀ W, Below wr.heap.size wr W → (W.cell? ⟨w.heap.size, 0, none⟩ = some (.slice B1 n d1) ∧ W.cell? ⟨w.heap.size, 1, none⟩ = some (.slice B2 N2 d2) ∧ W.cell? ⟨w.heap.size, 2, none⟩ = some (.slice B3 N3 d3)) ∧ HasDs W W.heap.size B1 n d1 E from fun W hW => by
          have hXW := hX.below hW hX.lt
          exact ⟨⟨hXW.cell 0, hXW.cell 1, hXW.cell 2⟩, hH.belowS hW⟩)
        have x1 : wr.cell? ⟨w.heap.size, 1, none⟩ = some (.slice B2 N2 d2) := hX.cell 1
        have x2 : wr.cell? ⟨w.heap.size, 2, none⟩ = some (.slice B3 N3 d3) := hX.cell 2
        have HA := Lib.hid (all_any (A2 := B2) (n2 := N2) (c2 := d2) (A3 := B3) (n3 := N3) (c3 := d3) hH hn4 H4.out)
        clear hX hH
        go_wp2_with fail
        refine HA.out.mono ?_
        rintro e w4 ⟨⟨Al, cl, rfl, hL⟩, hb4⟩
        obtain ⟨N, hN⟩ : ∃ N, Hid ((allP E).length = N) := ⟨_, Lib.hid rfl⟩
        rw [hN.out] at hL ⊢
        have hNm : N ≤ 9223372036854775807 := by have := hL.cap; have := hL.capMax; omega
        obtain ⟨⟨c0, c1, c2⟩, hH4⟩ := K.out w4 hb4
        have HC := Lib.hid (corners_any (A2 := B2) (n2 := N2) (c2 := d2) (A3 := B3) (n3 := N3) (c3 := d3) hH4)
        rw [cornersP_all (by rw [HEL.out]; omega) (fun d hd => Nat.le_trans (H4.out d hd) (by decide)), hN.out] at HC
        clear HA x0 x1 x2 hH4
        go_wp2_with fail
        refine HC.out.mono ?_
        rintro e w5 ⟨rfl, hb5⟩
        have hb45 := below_then hb4 hb5
        have hL := hL.belowS hb5
        clear HC c0 c1 c2 hb4 hb5
        obtain ⟨⟨c0, c1, c2⟩, hH4⟩ := K.out w5 hb45
        have HBs := Lib.hid (base_any (A2 := B2) (n2 := N2) (c2 := d2) (A3 := B3) (n3 := N3) (c3 := d3) hH4 (by omega))
        have hNN : ((N : Int) != (N : Int)) = false := by simp
        clear hH4
        go_wp2_with fail
        refine HBs.out.mono ?_
        rintro e w6 ⟨⟨vb, rfl, hO⟩, hb6⟩
        obtain ⟨Ab, nb, cb, rfl, hI, _⟩ := hO.formN
        have hb46 := below_then hb45 hb6
        have hL := hL.belowS hb6
        clear HBs c0 c1 c2 hb45 hb6 hO hNN
        have K6 := Lib.hid (show ∀ W, Below w6.heap.size w6 W → ((W.cell? ⟨w.heap.size, 0, none⟩ = some (.slice B1 n d1) ∧ W.cell? ⟨w.heap.size, 1, none⟩ = some (.slice B2 N2 d2) ∧ W.cell? ⟨w.heap.size, 2, none⟩ = some (.slice B3 N3 d3)) ∧ HasDs W W.heap.size B1 n d1 E) ∧ HasL W W.heap.size Al N cl (allP E) ∧ HasI W W.heap.size Ab nb cb (baseP E) from fun W hW => ⟨K.out W (hb46.trans (hW.mono hb46.size)), hL.belowS hW, hI.belowS hW⟩)
        have HB6 := hB.trans (hb46.mono hB.size)
        clear K hL hI hb46 hB
        go_wp2_with fail
        go_loopw [6] (fun i wr => ∃ k : Nat, k ≤ N ∧ i = .int .i64 k ∧ Below w6.heap.size w6 wr) (fun i _ => N - (intOf i).toNat)
        case atStart => exact ⟨0, Nat.zero_le _, rfl, Below.refl _ _⟩
        case round =>
          obtain ⟨k, hk, rfl, hB⟩ := hrel
          by_cases hlt : k < N
          · obtain ⟨⟨⟨c0, c1, c2⟩, hH⟩, hL, hI⟩ := K6.out wr hB
            obtain ⟨b, o, A', n', c', l, rfl, hb, g0, hl, he⟩ := hL.at_ hlt
            have i0 : (0 : Int) ≤ (k : Int) := by omega
            have i1 : (k : Int) < (N : Int) := by omega
            have hcr : cornerP E l := by
              have h1 : (allP E).getD k [] ∈ allP E := by rw [List.getD_eq_getElem?_getD, List.getElem?_eq_getElem (by rw [hN.out]; exact hlt)]; exact List.getElem_mem _
              rw [he.out]
              exact allP_corner E _ h1
            have HC := Lib.hid fun (y : Bel wr) => y.calls fun W hw => corner_any (A2 := B2) (n2 := N2) (c2 := d2) (A3 := B3) (n3 := N3) (c3 := d3) (K6.out W (hB.trans (hw.mono hB.size))).1.2 (hl.belowS hw)
            have HV := Lib.hid fun (y : Bel wr) => y.calls fun W hw => toB (covers_any (K6.out W (hB.trans (hw.mono hB.size))).2.2 (hl.belowS hw))
            rw [decide_eq_true hcr] at HC
            rw [decide_eq_true (base_covers hcr)] at HV
            have k0 : ∀ y : Bel wr, y.w.cell? ⟨w.heap.size, 0, none⟩ = some (.slice B1 n d1) := fun y => y.cell c0
            have k1 : ∀ y : Bel wr, y.w.cell? ⟨w.heap.size, 1, none⟩ = some (.slice B2 N2 d2) := fun y => y.cell c1
            have k2 : ∀ y : Bel wr, y.w.cell? ⟨w.heap.size, 2, none⟩ = some (.slice B3 N3 d3) := fun y => y.cell c2
            have k4 : ∀ y : Bel wr, y.w.cell? ⟨b, o + k, none⟩ = some (.slice A' n' c') := fun y => y.cell g0
            clear c0 c1 c2 hH hL hI g0 hl hcr
            go_wp2_with fail
            refine wp_region_below (by kernel_rfl) (by kernel_rfl) ?_
            repeat (go_big_quiet_step (first | (go_at_call 20; exact HC.out _) | (go_at_call 26; exact HV.out _)))
            refine wpQuiet_nil ?_
            rintro _ ⟨⟨w7, hb7⟩, rfl⟩
            have HB7 := Lib.hid (hB.trans (hb7.mono hB.size))
            clear HC HV k0 k1 k2 k4 hb7 hB
            go_wp2_with fail
            go_roundw
            case rel => exact ⟨k + 1, by omega, by go_num, HB7.out⟩
            case measure => simp [intOf]; omega
          · have HB7 := HB6.trans (hB.mono HB6.size)
            clear hB HB6 K6
            go_wp2_with fail
            refine (schemaLives_any _).mono ?_
            rintro e vz ⟨rfl, hbz⟩
            have HF := Lib.hid (HB7.trans (hbz.mono HB7.size))
            clear hbz HB7
            go_wp2_with fail
            go_ret
            exact ⟨rfl, HF.out⟩

set_option maxRecDepth 100000 in
theorem lifted (os : Os) (started : os.Started) (H : Type) (enc : TypeId × Value → H) :
    ReturnsInHanded {} Try.checked os 8 .any (Rows.schemaCornersSpec.pre6 enc Try.prog Try.f8 Rows.schemaCornersRow.domain false) (Rows.schemaCornersSpec.post enc Try.prog Try.f8 false true false false) := by
  refine returnsInHanded_of_change (C := Try.checked) own started (by kernel_rfl) Try.func8
    (ChangeSpec.witness6 (enc := enc) (C := Try.checked) false ⟨#[], #[.agg #[.slice none 0 0, .slice none 0 0, .slice none 0 0]], []⟩ 8 (by kernel_rfl) (by kernel_rfl) (by kernel_rfl) (by kernel_rfl)) ?_
  intro W base args ds gs before hval0 hW hcnd _
  have hval : ∀ (j : Nat) t v, Try.f8.params[j]? = some t → args[j]? = some v → Value.okWide Try.prog W .any base t v := hval0
  have hW' := hW
  obtain ⟨p, q, hA0, hV, rfl, hfz, hnd⟩ := hW
  have hA : DataW.TrodAll enc Try.prog W 0 (fun _ => true) true Try.f8.params.toList args.toList ds p := hA0
  rw [Try.params8] at hA hval
  obtain ⟨v0, vs0, d0, ds0, p0, q0, hargs, rfl, rfl, h0, r0⟩ := trodAll_cons hA
  obtain ⟨rfl, rfl, rfl⟩ := trodAll_nil r0
  obtain rfl : args = #[v0] := by cases args; simp_all
  obtain ⟨rfl, rfl⟩ := trodVars_none hV
  obtain ⟨cs0, rfl, hsz0⟩ := okWide_struct Try.underlying26 (hval 0 26 v0 rfl rfl)
  have k0 := h0
  have lt0 : ∀ x ∈ p0, x.block < W.heap.size := by obtain ⟨m, hm⟩ := k0; exact DataW.trod_lt m _ _ _ hm
  have w0 : RC Try.prog W 26 cs0.toList := by
    obtain ⟨fuel, hf⟩ := h0
    exact ⟨_, _, _, _, _, fuel, _, by simpa [Value.cells] using hf⟩
  clear hA0 hval0
  refine (walk cs0 W w0).mono fun e W' ⟨he, bel⟩ => ?_
  subst he
  exact ⟨_, rfl, _, _, _, [], _, [], hW', trodAll_mk1 (shut_bool Try.underlying4 _), (trodAll_cons_mk (Below.trod laidOut (by kernel_rfl) (of_decide_eq_true (by kernel_rfl)) k0 bel lt0) trodAll_mk0), rfl, bel.frame _, fun h => by cases h⟩

theorem over : Rows.schemaCornersRow.holds Try.pinned (OpenSpec.ofChange Rows.schemaCornersSpec) :=
  OpenClaim.holds_of_wide 8 Try.f8 rfl rfl rfl rfl rfl rfl rfl ⟨rfl, rfl, rfl, rfl, rfl⟩ rfl rfl rfl rfl rfl (by kernel_rfl) Try.func8 (by kernel_rfl)
    (of_decide_eq_true (by kernel_rfl)) (by unfold Func.isWrapper; first | (rw [if_pos (by decide +kernel)]; kernel_rfl) | (rw [if_neg (by decide +kernel)]; exact ⟨rfl, rfl⟩))
    (fun os started H enc _ => lifted os started H enc)

theorem proved : Rows.SchemaCornersSaid := over
end Go.Proofs.Ytbiogldapodhmaa.schemaCorners
