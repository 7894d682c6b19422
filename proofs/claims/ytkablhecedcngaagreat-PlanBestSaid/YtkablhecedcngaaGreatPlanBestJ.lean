/-
  Proved: whatever schema (at most 6 Dims, 9 Views, 6 Measures), whatever batches (the first 8) and whatever query (a Group of at most 6, at most 5 Filters): the view that plan.Choose tells is one of those that plan.Covering tells, and none of them has fewer cells; the example of the document holds, and nothing that was handed in changes. No condition.
-/
import Derived.Test.YtkablhecedcngaaGreatJ27
import Derived.Test.YtkablhecedcngaaGreatJ31
import Derived.Test.YtkablhecedcngaaGreatJ46
import Derived.Test.YtkablhecedcngaaGreatJ50
import Derived.Below
import Derived.ChangeOld
import Derived.OpenShut
import Derived.ProofKit
import Derived.ShutString
import Derived.Test.YtkablhecedcngaaGreatRows
import Derived.WalkKit
namespace Go.Proofs.YtkablhecedcngaaGreat.planBest
open Go.ChangeShapes Go.WideShapes Go.ChangeAt Go.RowKit
open Go.ChangeMaps (open_string shut_string)
set_option linter.unusedVariables false

theorem own : ownKnob Tryz.prog.godebug = none := by kernel_rfl
theorem laidOut : laidOutB Tryz.prog = true := by kernel_rfl

def IsRow (k : IntKind) (w : World) (a : Option Addr) (len cap : Nat) (zs : List Int) : Prop :=
  (a = none ∧ len = 0 ∧ cap = 0 ∧ zs = []) ∨
  ∃ x, a = some x ∧ len ≤ cap ∧ cap ≤ maxLen ∧ zs.length = cap ∧ (∀ i, i < zs.length → w.cell? (x.add i) = some (.int k (zs.getD i 0))) ∧ ∀ n ∈ zs, (Lit.int k n).wf = true

set_option maxRecDepth 100000 in
set_option maxHeartbeats 2000000 in
theorem walk (cs0 : Array Value) (a1 : Option Addr) (len1 cap1 : Nat) (cs2 : Array Value) (w : World) (w0 : RC Tryz.prog w 26 cs0.toList) (w1 : RC Tryz.prog w 39 [.slice a1 len1 cap1]) (w2 : RC Tryz.prog w 30 cs2.toList) :
    Calls Tryz.prog 5 #[.agg cs0, .slice a1 len1 cap1, .agg cs2] w fun e w' => e = .returned (.bool true) ∧ Below w.heap.size w w' := by
  obtain ⟨A1, n1, c1, A2, n2, c2, A3, n3, c3, D, M, V, es, hS, hf, hm⟩ := H9 w0
  obtain rfl : cs0 = #[.slice A1 n1 c1, .slice A2 n2 c2, .slice A3 n3 c3] := by rw [← Array.toArray_toList (xs := cs0), es]
  obtain ⟨A4, n4, c4, A5, n5, c5, q, eq, hQ, _⟩ := Ll w2
  obtain rfl : cs2 = #[.slice A4 n4 c4, .slice A5 n5 c5] := by rw [← Array.toArray_toList (xs := cs2), eq]
  obtain ⟨LB, hLB⟩ := Gq w1
  clear w0 es w2 eq
  obtain ⟨hb0, hX, hY⟩ := Sw w 26 30 #[.slice A1 n1 c1, .slice A2 n2 c2, .slice A3 n3 c3] #[.slice A4 n4 c4, .slice A5 n5 c5]
  obtain ⟨N1, hN1⟩ : ∃ N1, min n1 6 = N1 := ⟨_, rfl⟩
  obtain ⟨N2, hN2⟩ : ∃ N2, min n2 6 = N2 := ⟨_, rfl⟩
  obtain ⟨N3, hN3⟩ : ∃ N3, min n3 9 = N3 := ⟨_, rfl⟩
  obtain ⟨N4, hN4⟩ : ∃ N4, min n4 6 = N4 := ⟨_, rfl⟩
  obtain ⟨N5, hN5⟩ : ∃ N5, min n5 5 = N5 := ⟨_, rfl⟩
  have l1 : N1 ≤ 1000 := by omega
  have l3 : N3 ≤ 1000 := by omega
  have l4 : N4 ≤ 6 := by omega
  obtain ⟨D', hD'⟩ : ∃ D', D.take 6 = D' := ⟨_, rfl⟩
  obtain ⟨M', hM'⟩ : ∃ M', M.take 6 = M' := ⟨_, rfl⟩
  obtain ⟨V', hV'⟩ : ∃ V', V.take 9 = V' := ⟨_, rfl⟩
  obtain ⟨q', hq'⟩ : ∃ q' : Qry, (q.1.take 6, q.2.take 5) = q' := ⟨_, rfl⟩
  have HfD : Hid (Sq D') := Lib.hid fun d hd => hf d (List.mem_of_mem_take (hD' ▸ hd))
  have HfM : Hid (∀ s ∈ M', s.length ≤ maxLen) := Lib.hid fun s hs => hm s (List.mem_of_mem_take (hM' ▸ hs))
  have KS : Hid (∀ z, Below w.heap.size w z → Wm z (fun b => b < z.heap.size) A1 N1 c1 A2 N2 c2 A3 N3 c3 D' M' V') := Lib.hid fun z hz => by
    rw [← hN1, ← hN2, ← hN3, ← hD', ← hM', ← hV']
    exact (show Wm w _ _ _ _ _ _ _ _ _ _ _ _ _ from ⟨hS.d.Uw 6, hS.m.Uw 6, hS.v.Uw 9⟩).mv (Mv.below hz fun b hb => hb) |>.mv (Mv.to z fun b _ hl => hl)
  have KQ : Hid (∀ z, Below w.heap.size w z → V0 z (fun b => b < w.heap.size) A4 N4 c4 A5 N5 c5 q') := Lib.hid fun z hz => by
    rw [← hN4, ← hN5, ← hq']
    exact (hQ.Uw 6 5).mv (Mv.below hz fun b hb => hb)
  have KL : Hid (∀ z, Below w.heap.size w z → Row Yfy 1 z (fun b => b < z.heap.size) a1 len1 cap1 LB) := Lib.hid fun z hz => (hLB.mv Mt (Mv.below hz fun b hb => hb)).mv Mt (Mv.to z fun b _ hl => hl)
  clear hLB w1
  have HSM := Lib.hid (O1 ((hS.mv (Mv.below hb0 fun b hb => hb)).mv (R' := fun b => b < ((w.alloc (.cells #[.slice A1 n1 c1, .slice A2 n2 c2, .slice A3 n3 c3] 26)).alloc (.cells #[.slice A4 n4 c4, .slice A5 n5 c5] 30)).heap.size) (Mv.to _ fun b _ hl => hl)).has)
  have HQ0 := Lib.hid hQ
  clear hS hf hm hQ hD' hM' hV' hq'
  go_enter Tryz.func5, Tryz.ntmps5
  go_wp2_with fail
  generalize (w.alloc (.cells #[.slice A1 n1 c1, .slice A2 n2 c2, .slice A3 n3 c3] 26)).alloc (.cells #[.slice A4 n4 c4, .slice A5 n5 c5] 30) = w1 at hb0 hX hY HSM ⊢
  refine HSM.out.mono ?_
  rintro e w2 ⟨rfl, hb2⟩
  have hX2 := hX.below hb2 hX.lt
  have hY2 := hY.below hb2 hY.lt
  have x0 : w2.cell? ⟨w.heap.size, 0, none⟩ = some (.slice A1 n1 c1) := hX2.cell 0
  have x1 : w2.cell? ⟨w.heap.size, 1, none⟩ = some (.slice A2 n2 c2) := hX2.cell 1
  have x2 : w2.cell? ⟨w.heap.size, 2, none⟩ = some (.slice A3 n3 c3) := hX2.cell 2
  have f0 := hX2.free 0
  have f1 := hX2.free 1
  have f2 := hX2.free 2
  have hX3 := ((hX2.Yo 0 (.slice A1 (min n1 6) c1)).Yo 1 (.slice A2 (min n2 6) c2)).Yo 2 (.slice A3 (min n3 9) c3)
  have hY3 := ((hY2.Yl w.heap.size 0 (.slice A1 (min n1 6) c1) (by omega)).Yl w.heap.size 1 (.slice A2 (min n2 6) c2) (by omega)).Yl w.heap.size 2 (.slice A3 (min n3 9) c3) (by omega)
  have hB3 := (((hb0.trans (hb2.mono hb0.size)).setCell (p := ⟨w.heap.size, 0, none⟩) (Nat.le_refl _) (.slice A1 (min n1 6) c1)).setCell (p := ⟨w.heap.size, 1, none⟩) (Nat.le_refl _) (.slice A2 (min n2 6) c2)).setCell (p := ⟨w.heap.size, 2, none⟩) (Nat.le_refl _) (.slice A3 (min n3 9) c3)
  rw [hN1, hN2, hN3] at hX3 hY3 hB3
  rw [hN1, hN2, hN3]
  clear HSM hX hY hb0 hb2 hX2 hY2 hN1 hN2 hN3
  go_upto_region 2 with fail
  clear x0 x1 x2 f0 f1 f2
  generalize ((w2.setCell ⟨w.heap.size, 0, none⟩ (.slice A1 N1 c1)).setCell ⟨w.heap.size, 1, none⟩ (.slice A2 N2 c2)).setCell ⟨w.heap.size, 2, none⟩ (.slice A3 N3 c3) = w3 at hX3 hY3 hB3 ⊢
  have y0 : w3.cell? ⟨w.heap.size + 1, 0, none⟩ = some (.slice A4 n4 c4) := hY3.cell 0
  have y1 : w3.cell? ⟨w.heap.size + 1, 1, none⟩ = some (.slice A5 n5 c5) := hY3.cell 1
  have HFW := Lib.hid (Oi (HQ0.out.mv (S' := fun b => b < w.heap.size) (Mv.below hB3 fun b hb => hb)))
  go_wp2_with fail
  refine HFW.out.mono ?_
  rintro e w4 ⟨rfl, hb4⟩
  have hX4 := hX3.below hb4 hX3.lt
  have hY4 := hY3.below hb4 hY3.lt
  have y0 : w4.cell? ⟨w.heap.size + 1, 0, none⟩ = some (.slice A4 n4 c4) := hY4.cell 0
  have y1 : w4.cell? ⟨w.heap.size + 1, 1, none⟩ = some (.slice A5 n5 c5) := hY4.cell 1
  have f0 := hY4.free 0
  have f1 := hY4.free 1
  have hX5 := (hX4.Yl (w.heap.size + 1) 0 (.slice A4 (min n4 6) c4) (by omega)).Yl (w.heap.size + 1) 1 (.slice A5 (min n5 5) c5) (by omega)
  have hY5 := (hY4.Yo 0 (.slice A4 (min n4 6) c4)).Yo 1 (.slice A5 (min n5 5) c5)
  have hB5 := ((hB3.trans (hb4.mono hB3.size)).setCell (p := ⟨w.heap.size + 1, 0, none⟩) (Nat.le_succ _) (.slice A4 (min n4 6) c4)).setCell (p := ⟨w.heap.size + 1, 1, none⟩) (Nat.le_succ _) (.slice A5 (min n5 5) c5)
  rw [hN4, hN5] at hX5 hY5 hB5
  rw [hN4, hN5]
  clear HFW hX3 hY3 hB3 hb4 hX4 hY4 hN4 hN5 HQ0
  go_upto_region 3 with fail
  clear y0 y1 f0 f1
  generalize (w4.setCell ⟨w.heap.size + 1, 0, none⟩ (.slice A4 N4 c4)).setCell ⟨w.heap.size + 1, 1, none⟩ (.slice A5 N5 c5) = w5 at hX5 hY5 hB5 ⊢
  by_cases hms : Z3 D' M' V'
  · have HBO := Lib.hid (Gs (KS.out w5 hB5) HfD.out HfM.out l3 (KL.out w5 hB5) hms)
    have x0 : w5.cell? ⟨w.heap.size, 0, none⟩ = some (.slice A1 N1 c1) := hX5.cell 0
    have x1 : w5.cell? ⟨w.heap.size, 1, none⟩ = some (.slice A2 N2 c2) := hX5.cell 1
    have x2 : w5.cell? ⟨w.heap.size, 2, none⟩ = some (.slice A3 N3 c3) := hX5.cell 2
    clear hms
    go_wp2_with fail
    refine HBO.out.mono ?_
    rintro e w6 ⟨g, r, F, R, G, Qs, rfl, hT6, hG6, hb6⟩
    have hX6 := hX5.below hb6 hX5.lt
    have hY6 := hY5.below hb6 hY5.lt
    have hB6 := hB5.trans (hb6.mono hB5.size)
    have hGl : (G.map Zo).length ≤ 1000 := by rw [List.length_map]; omega
    obtain ⟨cnt, hcnt⟩ := hT6.l.cnt
    have HCN := Lib.hid hcnt
    have HT := Lib.hid hT6
    obtain ⟨x, hx⟩ : ∃ x, Hid (Wk D' M' V' q' = x) := ⟨_, Lib.hid rfl⟩
    clear HBO hX5 hY5 hB5 hb6 hT6 hcnt x0 x1 x2
    have y0 : w6.cell? ⟨w.heap.size + 1, 0, none⟩ = some (.slice A4 N4 c4) := hY6.cell 0
    have y1 : w6.cell? ⟨w.heap.size + 1, 1, none⟩ = some (.slice A5 N5 c5) := hY6.cell 1
    have HLT := Lib.hid HT.out.l
    by_cases hx0 : x = 0
    · subst hx0
      have HC := Lib.hid (Rh HT.out.l HCN.out (KQ.out w6 hB6) hx.out hGl)
      go_wp2_with fail
      refine HC.out.mono ?_
      rintro e w7 ⟨v7, rfl, hv7, hb7⟩
      have hX7 := hX6.below hb7 hX6.lt
      have hY7 := hY6.below hb7 hY6.lt
      have hB7 := hB6.trans (hb7.mono hB6.size)
      have HL7 := Lib.hid (HT.out.l.below hb7)
      have HR := Ve (KS.out w7 hB7).has HfD.out HfM.out l1 l3 (KQ.out w7 hB7)
      rw [hx.out, Tp hx.out] at HR
      have HR := Lib.hid HR
      obtain ⟨j, hj, rfl, _⟩ := Hr hv7.1
      obtain ⟨vw, hvw⟩ : ∃ vw, (Ye D' V')[j]? = some vw := ⟨_, List.getElem?_eq_getElem (show j < (Ye D' V').length from hj)⟩
      have HVW := Lib.hid hvw
      have HBM := Lib.hid hv7.1
      have HBV := Lib.hid hv7.2
      clear HC hX6 hY6 hB6 hb7 hv7 y0 y1 hvw hj
      have x0 : w7.cell? ⟨w.heap.size, 0, none⟩ = some (.slice A1 N1 c1) := hX7.cell 0
      have x1 : w7.cell? ⟨w.heap.size, 1, none⟩ = some (.slice A2 N2 c2) := hX7.cell 1
      have x2 : w7.cell? ⟨w.heap.size, 2, none⟩ = some (.slice A3 N3 c3) := hX7.cell 2
      have y0 : w7.cell? ⟨w.heap.size + 1, 0, none⟩ = some (.slice A4 N4 c4) := hY7.cell 0
      have y1 : w7.cell? ⟨w.heap.size + 1, 1, none⟩ = some (.slice A5 N5 c5) := hY7.cell 1
      go_wp2_with fail
      refine HR.out.mono ?_
      rintro e w8 ⟨v8, rfl, hO8, hb8⟩
      obtain ⟨A8, n8, d8, rfl, hI8, _⟩ := hO8.Yu
      have HLN8 : Hid ((Vd D' V' q').length = n8) := Lib.hid hI8.len
      have hB8 := hB7.trans (hb8.mono hB7.size)
      have HL8 := Lib.hid (HL7.out.below hb8)
      have HV := Lib.hid (Ydt HL8.out HCN.out HVW.out)
      obtain ⟨cv, hcv⟩ : ∃ cv, cnt j = cv := ⟨_, rfl⟩
      rw [hcv] at HV HBV
      have hm8 := hI8.Yn
      clear HR hX7 hY7 hB7 hb8 hO8 x0 x1 x2 y0 y1 hcv HL7
      go_wp2_with fail
      refine HV.out.mono ?_
      rintro e wy ⟨rfl, rfl⟩
      clear HV
      go_wp2_with fail
      go_loopw [13, 16] (fun bv i wr => ∃ k t : Nat, k ≤ n8 ∧ i = .int .i64 k ∧ bv = .bool (decide ((j : Int) ∈ (Vd D' V' q').take k)) ∧ wr = w8.drewN t) (fun _ i _ => n8 - (intOf i).toNat)
      case atStart => exact ⟨0, 0, Nat.zero_le _, rfl, by simp, rfl⟩
      case round =>
        obtain ⟨k, t, hk, rfl, rfl, rfl⟩ := hrel
        by_cases hlt : k < n8
        · obtain ⟨b, o, u, rfl, g0, hu⟩ := (hI8.drewN t).get hlt
          have i0 : (0 : Int) ≤ (k : Int) := by omega
          have i1 : (k : Int) < (n8 : Int) := by omega
          obtain ⟨j', hj', rfl, _⟩ := Hr (List.mem_of_getElem? hu.out)
          obtain ⟨vu, hvu⟩ : ∃ vu, (Ye D' V')[j']? = some vu := ⟨_, List.getElem?_eq_getElem (show j' < (Ye D' V').length from hj')⟩
          have HLN := Lib.hid (Ydt (HL8.out.drewN t) HCN.out hvu)
          obtain ⟨cu, hcu⟩ : ∃ cu, Hid (cnt j' = cu) := ⟨_, Lib.hid rfl⟩
          rw [hcu.out] at HLN
          have HBV : Hid (∀ u ∈ Vd D' V' q', cv < cnt u ∨ cv = cnt u ∧ (j : Int) ≤ u) := HBV
          have HBV : Hid (∀ u ∈ Vd D' V' q', u = (j' : Int) → cv < cu ∨ cv = cu ∧ (j : Int) ≤ (j' : Int)) := Lib.hid fun u hu' e => by subst e; have := HBV.out _ hu'; rwa [hcu.out] at this
          have HBV : Hid (∀ u ∈ Vd D' V' q', cv < cu ∨ cv = cu ∧ (j : Int) ≤ (j' : Int)) := Lib.hid fun _ _ => HBV.out _ (List.mem_of_getElem? hu.out) rfl
          clear hvu hj'
          by_cases hmm : (j : Int) ∈ (Vd D' V' q').take k
          · have HM : Hid (decide ((j : Int) ∈ (Vd D' V' q').take (k + 1)) = true) := Lib.hid (decide_eq_true (by rw [← Z4 hu.out]; exact List.mem_append_left _ hmm))
            rw [decide_eq_true hmm]
            clear hmm
            rcases HBV.out _ (List.mem_of_getElem? hu.out) with hc | ⟨hc, hle⟩
            · have q1 : ¬ (cu : Int) < (cv : Int) := by omega
              have q2 : ((cu : Int) == (cv : Int)) = false := by rw [beq_eq_false_iff_ne]; omega
              clear hc
              go_wp2_with fail
              refine HLN.out.mono ?_
              rintro e wy ⟨rfl, rfl⟩
              clear HLN
              go_wp2_with fail
              go_roundw
              case rel => exact ⟨k + 1, t, by omega, by go_num, by rw [HM.out], rfl⟩
              case measure => simp [intOf]; omega
            · have q2 : ((cu : Int) == (cv : Int)) = true := by rw [beq_iff_eq]; omega
              have q1 : ¬ (cu : Int) < (cv : Int) := by omega
              have q3 : ¬ (j' : Int) < (j : Int) := by omega
              clear hc hle
              go_wp2_with fail
              refine HLN.out.mono ?_
              rintro e wy ⟨rfl, rfl⟩
              clear HLN
              go_wp2_with fail
              go_roundw
              case rel => exact ⟨k + 1, t, by omega, by go_num, by rw [HM.out], rfl⟩
              case measure => simp [intOf]; omega
          · rw [decide_eq_false hmm]
            by_cases hjj : (j' : Int) = (j : Int)
            · have HM : Hid (decide ((j : Int) ∈ (Vd D' V' q').take (k + 1)) = true) := Lib.hid (decide_eq_true (by rw [← Z4 hu.out, hjj]; exact List.mem_append_right _ (List.mem_singleton.2 rfl)))
              have q0 : ((j' : Int) == (j : Int)) = true := by rw [beq_iff_eq]; exact hjj
              clear hmm hjj
              rcases HBV.out _ (List.mem_of_getElem? hu.out) with hc | ⟨hc, hle⟩
              · have q1 : ¬ (cu : Int) < (cv : Int) := by omega
                have q2 : ((cu : Int) == (cv : Int)) = false := by rw [beq_eq_false_iff_ne]; omega
                clear hc
                go_wp2_with fail
                refine HLN.out.mono ?_
                rintro e wy ⟨rfl, rfl⟩
                clear HLN
                go_wp2_with fail
                go_roundw
                case rel => exact ⟨k + 1, t, by omega, by go_num, by rw [HM.out], rfl⟩
                case measure => simp [intOf]; omega
              · have q2 : ((cu : Int) == (cv : Int)) = true := by rw [beq_iff_eq]; omega
                have q1 : ¬ (cu : Int) < (cv : Int) := by omega
                have q3 : ¬ (j' : Int) < (j : Int) := by omega
                clear hc hle
                go_wp2_with fail
                refine HLN.out.mono ?_
                rintro e wy ⟨rfl, rfl⟩
                clear HLN
                go_wp2_with fail
                go_roundw
                case rel => exact ⟨k + 1, t, by omega, by go_num, by rw [HM.out], rfl⟩
                case measure => simp [intOf]; omega
            · have HM : Hid (decide ((j : Int) ∈ (Vd D' V' q').take (k + 1)) = false) := Lib.hid (decide_eq_false (by rw [← Z4 hu.out, List.mem_append, List.mem_singleton]; intro h; rcases h with h | h; exact hmm h; exact hjj h.symm))
              have q0 : ((j' : Int) == (j : Int)) = false := by rw [beq_eq_false_iff_ne]; exact hjj
              clear hmm hjj
              rcases HBV.out _ (List.mem_of_getElem? hu.out) with hc | ⟨hc, hle⟩
              · have q1 : ¬ (cu : Int) < (cv : Int) := by omega
                have q2 : ((cu : Int) == (cv : Int)) = false := by rw [beq_eq_false_iff_ne]; omega
                clear hc
                go_wp2_with fail
                refine HLN.out.mono ?_
                rintro e wy ⟨rfl, rfl⟩
                clear HLN
                go_wp2_with fail
                go_roundw
                case rel => exact ⟨k + 1, t, by omega, by go_num, by rw [HM.out], rfl⟩
                case measure => simp [intOf]; omega
              · have q2 : ((cu : Int) == (cv : Int)) = true := by rw [beq_iff_eq]; omega
                have q1 : ¬ (cu : Int) < (cv : Int) := by omega
                have q3 : ¬ (j' : Int) < (j : Int) := by omega
                clear hc hle
                go_wp2_with fail
                refine HLN.out.mono ?_
                rintro e wy ⟨rfl, rfl⟩
                clear HLN
                go_wp2_with fail
                go_roundw
                case rel => exact ⟨k + 1, t, by omega, by go_num, by rw [HM.out], rfl⟩
                case measure => simp [intOf]; omega
        · obtain rfl : k = n8 := by omega
          rw [List.take_of_length_le (by rw [HLN8.out]; exact Nat.le_refl _), decide_eq_true HBM.out]
          have hB9 := below_drewN hB8 t
          clear hB8 hI8
          go_wp2_with fail
          refine (Zt _).mono ?_
          rintro e vz ⟨rfl, hbz⟩
          have HF := Lib.hid (hB9.trans (hbz.mono hB9.size))
          clear hbz hB9
          go_wp2_with fail
          go_ret
          exact ⟨rfl, HF.out⟩
    · have HC := Lib.hid (G1 HT.out.l HT.out.q.may (KQ.out w6 hB6) hx.out hx0)
      go_wp2_with fail
      refine HC.out.mono ?_
      rintro e w7 ⟨rfl, hb7⟩
      have hX7 := hX6.below hb7 hX6.lt
      have hY7 := hY6.below hb7 hY6.lt
      have hB7 := hB6.trans (hb7.mono hB6.size)
      have HR := Ve (KS.out w7 hB7).has HfD.out HfM.out l1 l3 (KQ.out w7 hB7)
      rw [hx.out, Yau (by rw [hx.out]; exact hx0)] at HR
      have HR := Lib.hid HR
      have hx1 : ((x : Int) != 0) = true := by simp; omega
      have hxx : ((x : Int) != (x : Int)) = false := by simp
      clear HC hX6 hY6 hB6 hb7 hx0 y0 y1
      have x0 : w7.cell? ⟨w.heap.size, 0, none⟩ = some (.slice A1 N1 c1) := hX7.cell 0
      have x1 : w7.cell? ⟨w.heap.size, 1, none⟩ = some (.slice A2 N2 c2) := hX7.cell 1
      have x2 : w7.cell? ⟨w.heap.size, 2, none⟩ = some (.slice A3 N3 c3) := hX7.cell 2
      have y0 : w7.cell? ⟨w.heap.size + 1, 0, none⟩ = some (.slice A4 N4 c4) := hY7.cell 0
      have y1 : w7.cell? ⟨w.heap.size + 1, 1, none⟩ = some (.slice A5 N5 c5) := hY7.cell 1
      go_wp2_with fail
      refine HR.out.mono ?_
      rintro e w8 ⟨v8, rfl, hO8, hb8⟩
      obtain ⟨A8, d8, rfl, _⟩ := hO8.form
      have hB8 := hB7.trans (hb8.mono hB7.size)
      clear HR hX7 hY7 hB7 hb8 hO8 x0 x1 x2 y0 y1
      go_wp2_with fail
      refine (Zt _).mono ?_
      rintro e vz ⟨rfl, hbz⟩
      have HF := Lib.hid (hB8.trans (hbz.mono hB8.size))
      clear hbz hB8
      go_wp2_with fail
      go_ret
      exact ⟨rfl, HF.out⟩
  · have HBO := Lib.hid (Cd (KS.out w5 hB5) HfD.out HfM.out l1 l3 (.slice a1 len1 cap1) hms)
    have x0 : w5.cell? ⟨w.heap.size, 0, none⟩ = some (.slice A1 N1 c1) := hX5.cell 0
    have x1 : w5.cell? ⟨w.heap.size, 1, none⟩ = some (.slice A2 N2 c2) := hX5.cell 1
    have x2 : w5.cell? ⟨w.heap.size, 2, none⟩ = some (.slice A3 N3 c3) := hX5.cell 2
    clear hms hY5
    go_wp2_with fail
    refine HBO.out.mono ?_
    rintro e w6 ⟨rfl, hb6⟩
    have hB6 := hB5.trans (hb6.mono hB5.size)
    clear HBO hX5 hB5 hb6 x0 x1 x2
    go_wp2_with fail
    refine (Zt _).mono ?_
    rintro e vz ⟨rfl, hbz⟩
    have HF := Lib.hid (hB6.trans (hbz.mono hB6.size))
    clear hbz hB6
    go_wp2_with fail
    go_ret
    exact ⟨rfl, HF.out⟩

set_option maxRecDepth 100000 in
theorem lifted (os : Os) (started : os.Started) (H : Type) (enc : TypeId × Value → H) :
    ReturnsInHanded {} Tryz.checked os 5 .any (Rows.planBestSpec.pre6 enc Tryz.prog Tryz.f5 Rows.planBestRow.domain false) (Rows.planBestSpec.post enc Tryz.prog Tryz.f5 false true false false) := by
  refine returnsInHanded_of_change (C := Tryz.checked) own started (by kernel_rfl) Tryz.func5
    (ChangeSpec.witness6 (enc := enc) (C := Tryz.checked) false ⟨#[], #[.agg #[.slice none 0 0, .slice none 0 0, .slice none 0 0], .slice none 0 0, .agg #[.slice none 0 0, .slice none 0 0]], []⟩ 8 (by kernel_rfl) (by kernel_rfl) (by kernel_rfl) (by kernel_rfl)) ?_
  intro W base args ds gs before hval0 hW hcnd _
  have hval : ∀ (j : Nat) t v, Tryz.f5.params[j]? = some t → args[j]? = some v → Value.okWide Tryz.prog W .any base t v := hval0
  have hW' := hW
  obtain ⟨p, q, hA0, hV, rfl, hfz, hnd⟩ := hW
  have hA : DataW.TrodAll enc Tryz.prog W 0 (fun _ => true) true Tryz.f5.params.toList args.toList ds p := hA0
  rw [Tryz.params5] at hA hval
  obtain ⟨v0, vs0, d0, ds0, p0, q0, hargs, rfl, rfl, h0, r0⟩ := trodAll_cons hA
  obtain ⟨v1, vs1, d1, ds1, p1, q1, rfl, rfl, rfl, h1, r1⟩ := trodAll_cons r0
  obtain ⟨v2, vs2, d2, ds2, p2, q2, rfl, rfl, rfl, h2, r2⟩ := trodAll_cons r1
  obtain ⟨rfl, rfl, rfl⟩ := trodAll_nil r2
  obtain rfl : args = #[v0, v1, v2] := by cases args; simp_all
  obtain ⟨rfl, rfl⟩ := trodVars_none hV
  obtain ⟨cs0, rfl, hsz0⟩ := okWide_struct Tryz.underlying26 (hval 0 26 v0 rfl rfl)
  have k0 := h0
  have lt0 : ∀ x ∈ p0, x.block < W.heap.size := by obtain ⟨m, hm⟩ := k0; exact DataW.trod_lt m _ _ _ hm
  have w0 : RC Tryz.prog W 26 cs0.toList := by
    obtain ⟨fuel, hf⟩ := h0
    exact ⟨_, _, _, _, _, fuel, _, by simpa [Value.cells] using hf⟩
  obtain ⟨a1, len1, cap1, rfl⟩ := okWide_slice Tryz.underlying39 (hval 1 39 v1 rfl rfl)
  have k1 := h1
  have lt1 : ∀ x ∈ p1, x.block < W.heap.size := by obtain ⟨m, hm⟩ := k1; exact DataW.trod_lt m _ _ _ hm
  have w1 : RC Tryz.prog W 39 [.slice a1 len1 cap1] := by
    obtain ⟨fuel, hf⟩ := h1
    exact ⟨_, _, _, _, _, fuel, _, hf⟩
  obtain ⟨cs2, rfl, hsz2⟩ := okWide_struct Tryz.underlying30 (hval 2 30 v2 rfl rfl)
  have k2 := h2
  have lt2 : ∀ x ∈ p2, x.block < W.heap.size := by obtain ⟨m, hm⟩ := k2; exact DataW.trod_lt m _ _ _ hm
  have w2 : RC Tryz.prog W 30 cs2.toList := by
    obtain ⟨fuel, hf⟩ := h2
    exact ⟨_, _, _, _, _, fuel, _, by simpa [Value.cells] using hf⟩
  clear hA0 hval0
  refine (walk cs0 a1 len1 cap1 cs2 W w0 w1 w2).mono fun e W' ⟨he, bel⟩ => ?_
  subst he
  exact ⟨_, rfl, _, _, _, [], _, [], hW', trodAll_mk1 (shut_bool Tryz.underlying4 _), (trodAll_cons_mk (Below.trod laidOut (by kernel_rfl) (of_decide_eq_true (by kernel_rfl)) k0 bel lt0) (trodAll_cons_mk (Below.trod laidOut (by kernel_rfl) (of_decide_eq_true (by kernel_rfl)) k1 bel lt1) (trodAll_cons_mk (Below.trod laidOut (by kernel_rfl) (of_decide_eq_true (by kernel_rfl)) k2 bel lt2) trodAll_mk0))), rfl, bel.frame _, fun h => by cases h⟩

theorem over : Rows.planBestRow.holds Tryz.pinned (OpenSpec.ofChange Rows.planBestSpec) :=
  OpenClaim.holds_of_wide 5 Tryz.f5 rfl rfl rfl rfl rfl rfl rfl ⟨rfl, rfl, rfl, rfl, rfl⟩ rfl rfl rfl rfl rfl (by kernel_rfl) Tryz.func5 (by kernel_rfl)
    (of_decide_eq_true (by kernel_rfl)) (by unfold Func.isWrapper; first | (rw [if_pos (by decide +kernel)]; kernel_rfl) | (rw [if_neg (by decide +kernel)]; exact ⟨rfl, rfl⟩))
    (fun os started H enc _ => lifted os started H enc)

theorem proved : Rows.PlanBestSaid := over
end Go.Proofs.YtkablhecedcngaaGreat.planBest
