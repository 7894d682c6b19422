/-
  Proved: of any schema (few of each) and any levels (the first 8), what is handed to schema.Views and schema.Join stays as it was, though what they answer is written over; the document's examples hold, and nothing that was handed in changes. No condition.
-/
import Derived.Test.YtbiogldapodhmaaRows
import Derived.Test.YtbiogldapodhmaaSchemaE
import Derived.Test.YtbiogldapodhmaaSchemaR
import Derived.Test.YtbiogldapodhmaaSchemaO
import Derived.Deep.DeepCutAuto
import Derived.Deep.RegionWith
import Derived.WalkKit
import Derived.ProofKit
import Derived.OpenShut
import Derived.ShutString
import Derived.ChangeOld
import Derived.Below
namespace Go.Proofs.Ytbiogldapodhmaa.schemaOwns
open Go.ChangeShapes Go.WideShapes Go.ChangeAt Go.RowKit
open Go.ChangeMaps (open_string shut_string)
set_option linter.unusedVariables false

theorem own : ownKnob Try.prog.godebug = none := by kernel_rfl
theorem laidOut : laidOutB Try.prog = true := by kernel_rfl

def IsRow (k : IntKind) (w : World) (a : Option Addr) (len cap : Nat) (zs : List Int) : Prop :=
  (a = none ∧ len = 0 ∧ cap = 0 ∧ zs = []) ∨
  ∃ x, a = some x ∧ len ≤ cap ∧ cap ≤ maxLen ∧ zs.length = cap ∧ (∀ i, i < zs.length → w.cell? (x.add i) = some (.int k (zs.getD i 0))) ∧ ∀ n ∈ zs, (Lit.int k n).wf = true

set_option maxRecDepth 100000 in
set_option maxHeartbeats 2000000 in
theorem walk (cs0 : Array Value) (a1 : Option Addr) (len1 cap1 : Nat) (z1 : List Int) (w : World) (w0 : RC Try.prog w 26 cs0.toList) (w1 : IsRow .i64 w a1 len1 cap1 z1) :
    Calls Try.prog 9 #[.agg cs0, .slice a1 len1 cap1] w fun e w' => e = .returned (.bool true) ∧ Below w.heap.size w w' := by
  obtain ⟨l1, h1, _⟩ := HasI.of_row w1
  obtain ⟨m1, hm1⟩ : ∃ m, Hid (m = min len1 8) := ⟨_, Lib.hid rfl⟩
  obtain ⟨t1, ht1⟩ : ∃ t, Hid (l1.take 8 = t) := ⟨_, Lib.hid rfl⟩
  clear w1
  obtain ⟨A1, n1, c1, A2, n2, c2, A3, n3, c3, D, M, V, es, hS, hf, hm⟩ := schema_of w0
  obtain rfl : cs0 = #[.slice A1 n1 c1, .slice A2 n2 c2, .slice A3 n3 c3] := by rw [← Array.toArray_toList (xs := cs0), es]
  clear w0 es
  have hb0 := below_a1 w (.cells #[.slice A1 n1 c1, .slice A2 n2 c2, .slice A3 n3 c3] 26)
  have hX := Block.new w 26 #[.slice A1 n1 c1, .slice A2 n2 c2, .slice A3 n3 c3]
  have hS1 := hS.below hb0 (Nat.le_refl _)
  clear hS
  go_enter Try.func9, Try.ntmps9
  go_wp2_with fail
  have hsz1 : (w.alloc (.cells #[.slice A1 n1 c1, .slice A2 n2 c2, .slice A3 n3 c3] 26)).heap.size = w.heap.size + 1 := by simp
  generalize w.alloc (.cells #[.slice A1 n1 c1, .slice A2 n2 c2, .slice A3 n3 c3] 26) = w1 at hb0 hX hS1 hsz1 ⊢
  refine (few8_any hS1 hb0.size).mono ?_
  rintro e w2 ⟨⟨v1, v2, v3, rfl, k1, k2, k3⟩, hb2⟩
  have hX2 := hX.below hb2 hX.lt
  obtain ⟨B1, d1, B2, N2, d2, B3, N3, d3, rfl, rfl, rfl, hS3, hX3, r1, r2, r3⟩ := few_st hX2 (Nat.le_refl _) hX.lt k1 k2 k3
  have x0 : w2.cell? ⟨w.heap.size, 0, none⟩ = some (.slice A1 n1 c1) := hX2.cell 0
  have x1 : w2.cell? ⟨w.heap.size, 1, none⟩ = some (.slice A2 n2 c2) := hX2.cell 1
  have x2 : w2.cell? ⟨w.heap.size, 2, none⟩ = some (.slice A3 n3 c3) := hX2.cell 2
  have f0 := hX2.free 0
  have f1 := hX2.free 1
  have f2 := hX2.free 2
  have hfD := few_fitD hf 8
  have hfM := few_fitM hm 8
  have hlV := few_lenV V 12
  have hlD := few_lenD D 8
  have hN3 : N3 ≤ 12 := by have h1 := few_lenVs V 12; have h2 := hS3.v.len; omega
  have HB3 := below_put3 (hb0.trans (hb2.mono hb0.size)) (Nat.le_refl w.heap.size) (.slice B1 (fewD D 8).length d1) (.slice B2 N2 d2) (.slice B3 N3 d3)
  obtain ⟨D', hD'⟩ : ∃ D', fewD D 8 = D' := ⟨_, rfl⟩
  obtain ⟨M', hM'⟩ : ∃ M', M.take 8 = M' := ⟨_, rfl⟩
  obtain ⟨V', hV'⟩ : ∃ V', fewV V 12 = V' := ⟨_, rfl⟩
  have HVV := Lib.hid (few_again V)
  rw [hV'] at HVV
  rw [hD'] at hS3 hX3 r1 hfD hlD HB3 r2 r3 ⊢
  rw [hM'] at hS3 r2 hfM
  rw [hV'] at hS3 r3 hlV
  obtain ⟨N1, hN1⟩ : ∃ N1, D'.length = N1 := ⟨_, rfl⟩
  rw [hN1] at hS3 hX3 r1 r2 r3 HB3 hlD ⊢
  have HN1 := Lib.hid hN1
  have HfD := Lib.hid hfD
  have HfM := Lib.hid hfM
  have HlV := Lib.hid hlV
  clear hD' hM' hV' hN1 hfD hfM hlV hf hm k1 k2 k3 hX hX2 hb0 hb2 hS1 hsz1
  go_wp2_with fail
  rw [show ((w2.setCell ⟨w.heap.size, 0, none⟩ (.slice B1 N1 d1)).setCell ⟨w.heap.size, 1, none⟩ (.slice B2 N2 d2)).setCell ⟨w.heap.size, 2, none⟩ (.slice B3 N3 d3) = put3 w2 w.heap.size (.slice B1 N1 d1) (.slice B2 N2 d2) (.slice B3 N3 d3) from rfl]
  clear x0 x1 x2 f0 f1 f2
  generalize put3 w2 w.heap.size (.slice B1 N1 d1) (.slice B2 N2 d2) (.slice B3 N3 d3) = w3 at hS3 hX3 r1 r2 r3 HB3 ⊢
  have g1 := (h1.below HB3 (Nat.le_refl _)).more HB3.size
  clear r1 r2 r3
  refine (cutL_is g1 hm1).mono ?_
  rintro e wq ⟨rfl, rfl⟩
  have gv := g1.cut8 hm1
  rw [ht1.out] at gv
  clear g1 h1
  have c0 : w3.cell? ⟨w.heap.size, 0, none⟩ = some (.slice B1 N1 d1) := hX3.cell 0
  have c1 : w3.cell? ⟨w.heap.size, 1, none⟩ = some (.slice B2 N2 d2) := hX3.cell 1
  have c2 : w3.cell? ⟨w.heap.size, 2, none⟩ = some (.slice B3 N3 d3) := hX3.cell 2
  have HFw := Lib.hid (few8_any hS3 (Nat.le_refl _))
  go_wp2_with fail
  refine HFw.out.mono ?_
  rintro e w4 ⟨⟨u1, u2, u3, rfl, q1, q2, q3⟩, hb4⟩
  rw [HVV.out] at q3
  have hV3 := hS3.v.len
  obtain ⟨U1, x1, rfl⟩ : ∃ A c, u1 = .slice A (fewD D' 8).length c := q1.shape
  obtain ⟨U2, y2, x2, rfl, _⟩ := OwnT.formN q2
  obtain ⟨U3, y3, x3, rfl⟩ := q3.shape
  have hRV := RowV.of_own q3
  obtain rfl : y3 = N3 := by have := hRV.len; omega
  generalize (fewD D' 8).length = y1
  have hT := Block.new w4 26 #[.slice U1 y1 x1, .slice U2 y2 x2, .slice U3 y3 x3]
  have hb5 := below_then hb4 (below_a1 w4 (.cells #[.slice U1 y1 x1, .slice U2 y2 x2, .slice U3 y3 x3] 26))
  have hRV := hRV.below (below_a1 w4 (.cells #[.slice U1 y1 x1, .slice U2 y2 x2, .slice U3 y3 x3] 26)) hb4.size
  have hg5 : w3.heap.size ≤ w4.heap.size := hb4.size
  obtain ⟨T, hTe⟩ : ∃ T, Hid (w4.heap.size = T) := ⟨_, Lib.hid rfl⟩
  clear HFw c0 c1 c2 q1 q2 q3 hb4
  go_wp2_with fail
  generalize w4.alloc (.cells #[.slice U1 y1 x1, .slice U2 y2 x2, .slice U3 y3 x3] 26) = w5 at hT hb5 hRV ⊢
  have K := Lib.hid (show ∀ W, Below w3.heap.size w3 W → ((W.cell? ⟨w.heap.size, 0, none⟩ = some (.slice B1 N1 d1) ∧ W.cell? ⟨w.heap.size, 1, none⟩ = some (.slice B2 N2 d2) ∧ W.cell? ⟨w.heap.size, 2, none⟩ = some (.slice B3 y3 d3)) ∧ HasS W W.heap.size B1 N1 d1 B2 N2 d2 B3 y3 d3 D' M' V') ∧ HasI W W.heap.size a1 m1 cap1 t1 from fun W hW => by
    have hXW := hX3.below hW hX3.lt
    exact ⟨⟨⟨hXW.cell 0, hXW.cell 1, hXW.cell 2⟩, (hS3.below hW (Nat.le_refl _)).more hW.size⟩, gv.belowS hW⟩)
  clear hS3 hX3 gv
  go_loopw [6] (fun i wr => ∃ k : Nat, k ≤ y3 ∧ i = .int .i64 k ∧ RowV wr w3.heap.size w3.heap.size (.slice U3 y3 x3) V' ∧ Block wr w4.heap.size 26 #[.slice U1 y1 x1, .slice U2 y2 x2, .slice U3 y3 x3] ∧ Below w3.heap.size w3 wr) (fun i _ => y3 - (intOf i).toNat)
  case atStart => exact ⟨0, Nat.zero_le _, rfl, hRV, hT, hb5⟩
  case round =>
    obtain ⟨k, hk, rfl, hR, hB, hC⟩ := hrel
    clear hRV hT hb5
    have t2 : wr.cell? ⟨w4.heap.size, 2, none⟩ = some (.slice U3 y3 x3) := hB.cell 2
    by_cases hlt : k < y3
    · obtain ⟨g, cg, e, hg1, hg2⟩ := hR.formP (by omega)
      injection e with e1 e2 e3
      subst e1
      obtain ⟨A', n', c', l, p0, pf, hI, hl⟩ := hR.at_ hC.size (show k < V'.length by omega)
      have i0 : (0 : Int) ≤ (k : Int) := by omega
      have i1 : (k : Int) < (y3 : Int) := by omega
      have hn' : (([] : List Int).length + n') * 8 ≤ 140737488355328 := by
        have h2 : l ∈ V' := by rw [← hl.out, List.getD_eq_getElem?_getD, List.getElem?_eq_getElem (show k < V'.length by omega)]; exact List.getElem_mem _
        have := HlV.out l h2
        have := hI.len
        simp; omega
      have Hn := Lib.hid hn'
      clear e2 e3 hn'
      go_wp2_with (at_builtin; refine wpList_appIs rfl _ _ rfl wr.heap.size _ [] rfl (OwnI.nil_ wr wr.heap.size) wr.heap.size A' n' c' l rfl hI Hn.out (Nat.le_refl _) ?_)
      intro v7 w7 hO7 hG7
      have hb7 := hG7.below_ (Nat.le_refl _) (fun k hk => by cases hk)
      have hO7 : OwnI w7 wr.heap.size v7 l := by simpa using hO7
      have hR7 := hR.below hb7 hC.size
      have hB7 := hB.below hb7 hB.lt
      have hC7 := hC.trans (hb7.mono hC.size)
      have t27 : w7.cell? ⟨w4.heap.size, 2, none⟩ = some (.slice (some ⟨g, 0, none⟩) y3 x3) := hB7.cell 2
      obtain ⟨A2, n2', c2', l2, p1, pf1, _⟩ := hR7.at_ hC7.size (show k < V'.length by omega)
      have hne : g ≠ w4.heap.size := by
        intro e
        obtain ⟨xs, hx, _⟩ := hR7
        have hB8 : w7.heap[w4.heap.size]? = some (.cells _ 26 (0, 0)) := hB7
        rcases hx.2 with ⟨e1, _⟩ | ⟨g', cap, cur, e1, _, hgg, _⟩
        · cases e1
        · injection e1 with e1 _ _
          injection e1 with e1
          injection e1 with e1 _ _
          subst e1
          rw [e] at hgg
          rw [hgg] at hB8
          simp only [Option.some.injEq, Obj.cells.injEq] at hB8
          exact absurd hB8.2.1 (by decide)
      obtain ⟨Ay, ny, cy, rfl, _⟩ := hO7.formN
      have hR8 := Lib.hid (hR7.set_ (Nat.le_refl _) hg1 (show k < V'.length by omega) hl.out (hO7.low hC.size))
      have hB8 := Lib.hid (hB7.elsewhere g k (.slice Ay ny cy) hne)
      have hC8 := Lib.hid (hC7.setCell (p := ⟨g, k, none⟩) (show w3.heap.size ≤ g from hg1) (.slice Ay ny cy))
      clear hG7 hO7 hb7 hR hB hC hR7 hB7 hC7 hI t2 p0 pf
      go_wp2_with fail
      go_roundw
      case rel => exact ⟨k + 1, by omega, by go_num, hR8.out, hB8.out, hC8.out⟩
      case measure => simp [intOf]; omega
    · obtain ⟨⟨⟨c0, c1, c2⟩, hS8⟩, _⟩ := K.out wr hC
      obtain ⟨AU, cU, eU, hLU⟩ := hR.read hC.size
      injection eU with e1 e2 e3
      subst e1 e3
      rw [← e2] at hLU
      have HVs := Lib.hid (views_any hS8 (by omega) (by omega) HlV.out)
      have K8 := Lib.hid (show ∀ W, Below wr.heap.size wr W → (W.cell? ⟨w.heap.size, 2, none⟩ = some (.slice B3 y3 d3) ∧ W.cell? ⟨w4.heap.size, 2, none⟩ = some (.slice U3 y3 x3)) ∧ HasL W W.heap.size B3 y3 d3 V' ∧ HasL W W.heap.size U3 y3 x3 V' ∧ HasI W W.heap.size a1 m1 cap1 t1 from fun W hW => by
        have h9 := K.out W (hC.trans (hW.mono hC.size))
        exact ⟨⟨h9.1.1.2.2, (hB.below hW hB.lt).cell 2⟩, h9.1.2.v, hLU.belowS hW, h9.2⟩)
      have HB8 := HB3.trans (hC.mono HB3.size)
      have hVL : ∀ q ∈ viewsP D' V', q.length ≤ 1000000 := by
        intro q hq
        rcases List.mem_cons.1 hq with rfl | hq
        · rw [baseP_len]; have := HN1.out; omega
        · have := HlV.out q hq; omega
      clear hR hB hC K e2 hLU
      go_wp2_with fail
      refine HVs.out.mono ?_
      rintro e w9 ⟨⟨va, rfl, hO⟩, hb9⟩
      obtain ⟨vs, hRS⟩ := RowS.of_own hO hVL
      obtain ⟨N, hN⟩ : ∃ N, (viewsP D' V').length = N := ⟨_, rfl⟩
      rw [hN] at hRS
      obtain ⟨Aa, ca, rfl, hNc, hNm⟩ := hRS.shape
      have hN13 : N ≤ 1000 := by rw [← hN]; simp only [viewsP, List.length_cons]; omega
      clear HVs hO hN hVL c0 c1 c2 t2 hS8
      obtain ⟨w8, hw8⟩ : ∃ w8, w8 = wr := ⟨_, rfl⟩
      rw [← hw8] at hRS K8 HB8 hb9
      clear hw8
      go_wp2_with fail
      go_loopw [9] (fun i wr => ∃ k : Nat, k ≤ N ∧ i = .int .i64 k ∧ RowS wr w8.heap.size (.slice Aa N ca) N vs ∧ Below w8.heap.size w8 wr) (fun i _ => N - (intOf i).toNat)
      case atStart => exact ⟨0, Nat.zero_le _, rfl, hRS, hb9⟩
      case round =>
        obtain ⟨k2, hk2, rfl, hR, hC⟩ := hrel
        clear hRS hb9
        by_cases hlt2 : k2 < N
        · obtain ⟨g, A', n', c', e, p0, pe, hm⟩ := hR.at_ hlt2
          subst e
          have i0 : (0 : Int) ≤ (k2 : Int) := by omega
          have i1 : (k2 : Int) < (N : Int) := by omega
          clear p0
          go_wp2_with fail
          go_loopw [10] (fun i wr => ∃ t : Nat, t ≤ n' ∧ i = .int .i64 t ∧ RowS wr w8.heap.size (.slice (some ⟨g, 0, none⟩) N ca) N vs ∧ Below w8.heap.size w8 wr) (fun i _ => n' - (intOf i).toNat)
          case atStart => exact ⟨0, Nat.zero_le _, rfl, hR, hC⟩
          case round =>
            obtain ⟨t, ht, rfl, hR, hC⟩ := hrel
            have p0 := hR.cell pe
            by_cases htn : t < n'
            · obtain ⟨b, cs, rfl, hb1, hb2, hb3⟩ := (hR.get hlt2 pe) t htn
              have j0 : (0 : Int) ≤ (t : Int) := by omega
              have j1 : (t : Int) < (n' : Int) := by omega
              have q0 : wr.cell? ⟨b, t, none⟩ = some cs[t] := by rw [hb2.cell t]; exact Array.getElem?_eq_getElem hb3
              have qf := hb2.free t
              have hR2 := Lib.hid (hR.set_ hb2 t (.int .i64 77))
              have hC2 := Lib.hid (hC.setCell (p := ⟨b, t, none⟩) hb1 (.int .i64 77))
              clear hR hC hb2
              go_wp2_with fail
              go_roundw
              case rel => exact ⟨t + 1, by omega, by go_num, hR2.out, hC2.out⟩
              case measure => simp [intOf]; omega
            · have hR2 := Lib.hid hR
              have hC2 := Lib.hid hC
              clear hR hC
              go_wp2_with fail
              go_roundw
              case rel => exact ⟨k2 + 1, by omega, by go_num, hR2.out, hC2.out⟩
              case measure => simp [intOf]; omega
        · obtain ⟨_, _, _, hgv⟩ := K8.out wr hC
          have HJ := Lib.hid (join_any hgv hgv (by have := hm1.out; omega))
          obtain ⟨tj, htj⟩ : ∃ tj, joinP t1 t1 = tj := ⟨_, rfl⟩
          have htjl : Hid (tj.length = t1.length) := Lib.hid (by rw [← htj]; exact joinP_len rfl)
          rw [htj] at HJ
          clear htj hR hgv
          obtain ⟨wj, hwj⟩ : ∃ wj, wj = wr := ⟨_, rfl⟩
          rw [← hwj] at hC HJ ⊢
          clear hwj
          go_wp2_with fail
          refine HJ.out.mono ?_
          rintro e w11 ⟨⟨vj, rfl, hO⟩, hb11⟩
          have hC11 := hC.trans (hb11.mono hC.size)
          obtain ⟨Aj, nj, cj, rfl, hIj, _⟩ := hO.formN
          have hnj : nj ≤ 1000000 := by have h1 := hIj.len; have h2 := htjl.out; have h3 := (K8.out w11 hC11).2.2.2.len; have := hm1.out; omega
          have hjl : Hid (∀ a, Aj = some a → a.block < w11.heap.size) := Lib.hid fun a ha => by
            rcases hO.2 with ⟨e1, _⟩ | ⟨g, cap, cur, e1, _, hg, _⟩
            · injection e1 with e1 _ _
              rw [e1] at ha; cases ha
            · injection e1 with e1 _ _
              rw [e1] at ha
              injection ha with ha
              subst ha
              exact (Array.getElem?_eq_some_iff.1 hg).1
          have hIS := InS.of hO
          obtain ⟨_, _, _, hgv⟩ := K8.out w11 hC11
          have hbts : (([] : List Int).length + m1) * 8 ≤ 140737488355328 := by have := hm1.out; simp; omega
          have Hb := Lib.hid hbts
          have hCw := hC
          clear HJ hO hIj hbts hC
          go_wp2_with (at_builtin; refine wpList_appIs rfl _ _ rfl w11.heap.size _ [] rfl (OwnI.nil_ w11 w11.heap.size) w11.heap.size a1 m1 cap1 t1 rfl hgv Hb.out (Nat.le_refl _) ?_)
          intro vo w12 hO12 hG12
          have hb12 := hG12.below_ (Nat.le_refl _) (fun k hk => by cases hk)
          have hO12 : OwnI w12 w11.heap.size vo t1 := by simpa using hO12
          have hIS12 := hIS.below hb12
          have hC12 := hb11.trans (hb12.mono hb11.size)
          obtain ⟨Ao, no, co, rfl, _⟩ := hO12.formN
          clear hG12 hIS hgv hb12 hb11
          have hCj := hC11
          go_wp2_with fail
          go_loopw [13] (fun i wr => ∃ t : Nat, t ≤ nj ∧ i = .int .i64 t ∧ InS wr wj.heap.size Aj nj ∧ OwnI wr w11.heap.size (.slice Ao no co) t1 ∧ Below wj.heap.size wj wr) (fun i _ => nj - (intOf i).toNat)
          case atStart => exact ⟨0, Nat.zero_le _, rfl, hIS12, hO12, hC12⟩
          case round =>
            obtain ⟨t, ht, rfl, hI, hO, hC⟩ := hrel
            clear hIS12 hO12 hC12
            by_cases htn : t < nj
            · obtain ⟨b, cs, rfl, hb1, hb2, hb3⟩ := hI t htn
              have j0 : (0 : Int) ≤ (t : Int) := by omega
              have j1 : (t : Int) < (nj : Int) := by omega
              have q0 : wr.cell? ⟨b, t, none⟩ = some cs[t] := by rw [hb2.cell t]; exact Array.getElem?_eq_getElem hb3
              have qf := hb2.free t
              have hbl : b < w11.heap.size := hjl.out _ rfl
              have hI2 := Lib.hid (hI.set_ b t (.int .i64 77))
              have hO2 := Lib.hid (OwnI.other hO (g := b) (j := t) (fun e => by have := (OwnI.lt hO _ e).1; omega) (.int .i64 77))
              have hC2 := Lib.hid (hC.setCell (p := ⟨b, t, none⟩) hb1 (.int .i64 77))
              clear hI hO hC hb2
              go_wp2_with fail
              go_roundw
              case rel => exact ⟨t + 1, by omega, by go_num, hI2.out, hO2.out, hC2.out⟩
              case measure => simp [intOf]; omega
            · obtain ⟨wk, hwk⟩ : ∃ wk, wk = wr := ⟨_, rfl⟩
              rw [← hwk] at hC hO ⊢
              clear hwk hI
              have hCk := hCw.trans (hC.mono hCw.size)
              have hIo := hO.has
              have HB9 := HB8.trans (hCk.mono HB8.size)
              have K9 := Lib.hid (show ∀ W, Below wk.heap.size wk W → ((W.cell? ⟨w.heap.size, 2, none⟩ = some (.slice B3 y3 d3) ∧ W.cell? ⟨w4.heap.size, 2, none⟩ = some (.slice U3 y3 x3)) ∧ HasL W W.heap.size B3 y3 d3 V' ∧ HasL W W.heap.size U3 y3 x3 V' ∧ HasI W W.heap.size a1 m1 cap1 t1) ∧ HasI W W.heap.size Ao no co t1 from fun W hW => ⟨K8.out W (hCk.trans (hW.mono hCk.size)), hIo.belowS hW⟩)
              clear hC hO hCk hIo hCw hCj hC11 K8 HB8
              go_wp2_with fail
              go_loopw [14] (fun i wr => ∃ k : Nat, k ≤ y3 ∧ i = .int .i64 k ∧ Below wk.heap.size wk wr) (fun i _ => y3 - (intOf i).toNat)
              case atStart => exact ⟨0, Nat.zero_le _, rfl, Below.refl _ _⟩
              case round =>
                obtain ⟨k3, hk3, rfl, hB⟩ := hrel
                obtain ⟨⟨⟨z0, z1⟩, hLs, hLt, hgv⟩, hgo⟩ := K9.out wr hB
                by_cases hlt3 : k3 < y3
                · obtain ⟨ba, oa, A', n2', c', l, rfl, hba, ga, hla, hea⟩ := hLs.at_ hlt3
                  obtain ⟨bb, ob, A2', n3', c2', l2, rfl, hbb, gb, hlb, heb⟩ := hLt.at_ hlt3
                  obtain rfl : l = l2 := hea.out.trans heb.out.symm
                  have i0 : (0 : Int) ≤ (k3 : Int) := by omega
                  have i1 : (k3 : Int) < (y3 : Int) := by omega
                  have HS := Lib.hid fun (y : Bel wr) => y.calls fun W hw => toB (sameI_any (hlb.belowS hw) (hla.belowS hw))
                  rw [decide_eq_true rfl] at HS
                  have k0 : ∀ y : Bel wr, y.w.cell? ⟨w.heap.size, 2, none⟩ = some (.slice (some ⟨ba, oa, none⟩) y3 d3) := fun y => y.cell z0
                  have k1 : ∀ y : Bel wr, y.w.cell? ⟨w4.heap.size, 2, none⟩ = some (.slice (some ⟨bb, ob, none⟩) y3 x3) := fun y => y.cell z1
                  have k4 : ∀ y : Bel wr, y.w.cell? ⟨ba, oa + k3, none⟩ = some (.slice A' n2' c') := fun y => y.cell ga
                  have k5 : ∀ y : Bel wr, y.w.cell? ⟨bb, ob + k3, none⟩ = some (.slice A2' n3' c2') := fun y => y.cell gb
                  clear hLs hLt hgv hgo ga gb hla hlb
                  go_wp2_with fail
                  refine wp_region_below (by kernel_rfl) (by kernel_rfl) ?_
                  repeat (go_big_quiet_step (first | (go_at_call 15; exact HS.out _)))
                  refine wpQuiet_nil ?_
                  rintro _ ⟨⟨w14, hb14⟩, rfl⟩
                  have HB14 := Lib.hid (hB.trans (hb14.mono hB.size))
                  clear HS k0 k1 k4 k5 hb14 hB z0 z1
                  go_wp2_with fail
                  go_roundw
                  case rel => exact ⟨k3 + 1, by omega, by go_num, HB14.out⟩
                  case measure => simp [intOf]; omega
                · have HS := Lib.hid (toB (sameI_any hgo hgv))
                  rw [decide_eq_true rfl] at HS
                  have HB10 := HB9.trans (hB.mono HB9.size)
                  clear hLs hLt hgv hgo hB K9 HB9
                  go_wp2_with fail
                  refine HS.out.mono ?_
                  rintro e w15 ⟨rfl, hb15⟩
                  have HB11 := HB10.trans (hb15.mono HB10.size)
                  clear HS hb15 HB10 z0 z1
                  go_wp2_with fail
                  refine (schemaLives_any _).mono ?_
                  rintro e vz ⟨rfl, hbz⟩
                  have HF := Lib.hid (HB11.trans (hbz.mono HB11.size))
                  clear hbz HB11
                  go_wp2_with fail
                  go_ret
                  exact ⟨rfl, HF.out⟩

set_option maxRecDepth 100000 in
theorem lifted (os : Os) (started : os.Started) (H : Type) (enc : TypeId × Value → H) :
    ReturnsInHanded {} Try.checked os 9 .any (Rows.schemaOwnsSpec.pre6 enc Try.prog Try.f9 Rows.schemaOwnsRow.domain false) (Rows.schemaOwnsSpec.post enc Try.prog Try.f9 false true false false) := by
  refine returnsInHanded_of_change (C := Try.checked) own started (by kernel_rfl) Try.func9
    (ChangeSpec.witness6 (enc := enc) (C := Try.checked) false ⟨#[], #[.agg #[.slice none 0 0, .slice none 0 0, .slice none 0 0], .slice none 0 0], []⟩ 8 (by kernel_rfl) (by kernel_rfl) (by kernel_rfl) (by kernel_rfl)) ?_
  intro W base args ds gs before hval0 hW hcnd _
  have hval : ∀ (j : Nat) t v, Try.f9.params[j]? = some t → args[j]? = some v → Value.okWide Try.prog W .any base t v := hval0
  have hW' := hW
  obtain ⟨p, q, hA0, hV, rfl, hfz, hnd⟩ := hW
  have hA : DataW.TrodAll enc Try.prog W 0 (fun _ => true) true Try.f9.params.toList args.toList ds p := hA0
  rw [Try.params9] at hA hval
  obtain ⟨v0, vs0, d0, ds0, p0, q0, hargs, rfl, rfl, h0, r0⟩ := trodAll_cons hA
  obtain ⟨v1, vs1, d1, ds1, p1, q1, rfl, rfl, rfl, h1, r1⟩ := trodAll_cons r0
  obtain ⟨rfl, rfl, rfl⟩ := trodAll_nil r1
  obtain rfl : args = #[v0, v1] := by cases args; simp_all
  obtain ⟨rfl, rfl⟩ := trodVars_none hV
  obtain ⟨cs0, rfl, hsz0⟩ := okWide_struct Try.underlying26 (hval 0 26 v0 rfl rfl)
  have k0 := h0
  have lt0 : ∀ x ∈ p0, x.block < W.heap.size := by obtain ⟨m, hm⟩ := k0; exact DataW.trod_lt m _ _ _ hm
  have w0 : RC Try.prog W 26 cs0.toList := by
    obtain ⟨fuel, hf⟩ := h0
    exact ⟨_, _, _, _, _, fuel, _, by simpa [Value.cells] using hf⟩
  obtain ⟨a1, len1, cap1, rfl⟩ := okWide_slice Try.underlying30 (hval 1 30 v1 rfl rfl)
  have k1 := h1
  have lt1 : ∀ x ∈ p1, x.block < W.heap.size := by obtain ⟨m, hm⟩ := k1; exact DataW.trod_lt m _ _ _ hm
  obtain ⟨z1, w1⟩ : ∃ zs, IsRow .i64 W a1 len1 cap1 zs := by
    obtain ⟨fuel, hf⟩ := h1
    rcases open_ints Try.underlying30 Try.underlying3 (by kernel_rfl) hf with ⟨hcs, _⟩ | ⟨x, l, c, zs, hcs, _, hl, hm, hz, _, hcell, hwz⟩
    · simp [Value.cells] at hcs
      obtain ⟨rfl, rfl, rfl⟩ := hcs
      exact ⟨[], .inl ⟨rfl, rfl, rfl, rfl⟩⟩
    · simp [Value.cells] at hcs
      obtain ⟨rfl, rfl, rfl⟩ := hcs
      exact ⟨zs, .inr ⟨_, rfl, hl, hm, by simpa using hz, hcell, hwz⟩⟩
  clear hA0 hval0
  refine (walk cs0 a1 len1 cap1 z1 W w0 w1).mono fun e W' ⟨he, bel⟩ => ?_
  subst he
  exact ⟨_, rfl, _, _, _, [], _, [], hW', trodAll_mk1 (shut_bool Try.underlying4 _), (trodAll_cons_mk (Below.trod laidOut (by kernel_rfl) (of_decide_eq_true (by kernel_rfl)) k0 bel lt0) (trodAll_cons_mk (Below.trod laidOut (by kernel_rfl) (of_decide_eq_true (by kernel_rfl)) k1 bel lt1) trodAll_mk0)), rfl, bel.frame _, fun h => by cases h⟩

theorem over : Rows.schemaOwnsRow.holds Try.pinned (OpenSpec.ofChange Rows.schemaOwnsSpec) :=
  OpenClaim.holds_of_wide 9 Try.f9 rfl rfl rfl rfl rfl rfl rfl ⟨rfl, rfl, rfl, rfl, rfl⟩ rfl rfl rfl rfl rfl (by kernel_rfl) Try.func9 (by kernel_rfl)
    (of_decide_eq_true (by kernel_rfl)) (by unfold Func.isWrapper; first | (rw [if_pos (by decide +kernel)]; kernel_rfl) | (rw [if_neg (by decide +kernel)]; exact ⟨rfl, rfl⟩))
    (fun os started H enc _ => lifted os started H enc)

theorem proved : Rows.SchemaOwnsSaid := over
end Go.Proofs.Ytbiogldapodhmaa.schemaOwns
