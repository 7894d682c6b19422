/-
  Proved: whatever schema (at most 6 Dims, 9 Views, 6 Measures), whatever query (a Group of at most 6, at most 5 Filters of at most 8 Members of 5 names) that may be for it, and whatever paths (the first 8, of 5 names each), as many as it has Dims: cut to their first names, as many as query.Need tells, query.Passes and query.Key answer alike; the examples of the document hold, and nothing that was handed in changes. No condition.
-/
import Derived.Test.YtmcccpbpijnbmaaJ9
import Derived.Test.YtmcccpbpijnbmaaJ27
import Derived.Test.YtmcccpbpijnbmaaJ29
import Derived.Test.YtmcccpbpijnbmaaJ31
import Derived.Test.YtmcccpbpijnbmaaJ38
import Derived.Test.YtmcccpbpijnbmaaJ39
import Derived.Below
import Derived.ChangeOld
import Derived.Deep.RegionHeld3
import Derived.Deep.RegionLaw
import Derived.OpenShut
import Derived.ProofKit
import Derived.ShutString
import Derived.Test.YtmcccpbpijnbmaaRows
import Derived.WalkKit
namespace Go.Proofs.Ytmcccpbpijnbmaa.queryNeeds
open Go.ChangeShapes Go.WideShapes Go.ChangeAt Go.RowKit
open Go.ChangeMaps (open_string shut_string)
set_option linter.unusedVariables false

theorem own : ownKnob Try.prog.godebug = none := by kernel_rfl
theorem laidOut : laidOutB Try.prog = true := by kernel_rfl

def IsRow (k : IntKind) (w : World) (a : Option Addr) (len cap : Nat) (zs : List Int) : Prop :=
  (a = none ∧ len = 0 ∧ cap = 0 ∧ zs = []) ∨
  ∃ x, a = some x ∧ len ≤ cap ∧ cap ≤ maxLen ∧ zs.length = cap ∧ (∀ i, i < zs.length → w.cell? (x.add i) = some (.int k (zs.getD i 0))) ∧ ∀ n ∈ zs, (Lit.int k n).wf = true

set_option maxRecDepth 100000 in
set_option maxHeartbeats 2000000 in
theorem walk (cs0 : Array Value) (cs1 : Array Value) (a2 : Option Addr) (len2 cap2 : Nat) (w : World) (w0 : RC Try.prog w 26 cs0.toList) (w1 : RC Try.prog w 30 cs1.toList) (w2 : RC Try.prog w 41 [.slice a2 len2 cap2]) :
    Calls Try.prog 6 #[.agg cs0, .agg cs1, .slice a2 len2 cap2] w fun e w' => e = .returned (.bool true) ∧ Below w.heap.size w w' := by
  obtain ⟨A1, n1, c1, A2, n2, c2, A3, n3, c3, D, M, V, es, hS, hf, hm⟩ := schema_of w0
  obtain rfl : cs0 = #[.slice A1 n1 c1, .slice A2 n2 c2, .slice A3 n3 c3] := by rw [← Array.toArray_toList (xs := cs0), es]
  obtain ⟨A4, n4, c4, A5, n5, c5, q, eq, hQ, _⟩ := query_of w1
  obtain rfl : cs1 = #[.slice A4 n4 c4, .slice A5 n5 c5] := by rw [← Array.toArray_toList (xs := cs1), eq]
  obtain ⟨P, hP⟩ := paths_of w2
  clear w2
  clear w0 es w1 eq
  obtain ⟨hb0, hX, hY⟩ := boxes2 w 26 30 #[.slice A1 n1 c1, .slice A2 n2 c2, .slice A3 n3 c3] #[.slice A4 n4 c4, .slice A5 n5 c5]
  have hS1 := hS.belowS hb0
  have HSM := Lib.hid (small_any hS1)
  have HfD := Lib.hid hf
  have HfM := Lib.hid hm
  have HS0 := Lib.hid hS
  have HQ0 := Lib.hid hQ
  clear hS hf hm hQ
  go_enter Try.func6, Try.ntmps6
  go_wp2_with fail
  generalize (w.alloc (.cells #[.slice A1 n1 c1, .slice A2 n2 c2, .slice A3 n3 c3] 26)).alloc (.cells #[.slice A4 n4 c4, .slice A5 n5 c5] 30) = w1 at hb0 hX hY hS1 HSM ⊢
  refine HSM.out.mono ?_
  rintro e w2 ⟨rfl, hb2⟩
  have hX2 := hX.below hb2 hX.lt
  have hY2 := hY.below hb2 hY.lt
  have x0 : w2.cell? ⟨w.heap.size, 0, none⟩ = some (.slice A1 n1 c1) := hX2.cell 0
  have x1 : w2.cell? ⟨w.heap.size, 1, none⟩ = some (.slice A2 n2 c2) := hX2.cell 1
  have x2 : w2.cell? ⟨w.heap.size, 2, none⟩ = some (.slice A3 n3 c3) := hX2.cell 2
  have f0 := hX2.free 0
  have f1 := hX2.free 1
  have f2 := hX2.free 2
  have hX3 := ((hX2.set_ 0 (.slice A1 (min n1 6) c1)).set_ 1 (.slice A2 (min n2 6) c2)).set_ 2 (.slice A3 (min n3 9) c3)
  have hY3 := ((hY2.elsewhere w.heap.size 0 (.slice A1 (min n1 6) c1) (by omega)).elsewhere w.heap.size 1 (.slice A2 (min n2 6) c2) (by omega)).elsewhere w.heap.size 2 (.slice A3 (min n3 9) c3) (by omega)
  have hB3 := (((hb0.trans (hb2.mono hb0.size)).setCell (p := ⟨w.heap.size, 0, none⟩) (Nat.le_refl _) (.slice A1 (min n1 6) c1)).setCell (p := ⟨w.heap.size, 1, none⟩) (Nat.le_refl _) (.slice A2 (min n2 6) c2)).setCell (p := ⟨w.heap.size, 2, none⟩) (Nat.le_refl _) (.slice A3 (min n3 9) c3)
  obtain ⟨N1, hN1⟩ : ∃ N1, min n1 6 = N1 := ⟨_, rfl⟩
  obtain ⟨N2, hN2⟩ : ∃ N2, min n2 6 = N2 := ⟨_, rfl⟩
  obtain ⟨N3, hN3⟩ : ∃ N3, min n3 9 = N3 := ⟨_, rfl⟩
  have l1 : N1 ≤ 1000 := by omega
  have l3 : N3 ≤ 1000 := by omega
  rw [hN1, hN2, hN3] at hX3 hY3 hB3
  rw [hN1, hN2, hN3]
  have hSt := Lib.hid (show HasS w w.heap.size A1 N1 c1 A2 N2 c2 A3 N3 c3 (D.take 6) (M.take 6) (V.take 9) from by
    rw [← hN1, ← hN2, ← hN3]
    exact ⟨HS0.out.d.take9 6, HS0.out.m.take9 6, HS0.out.v.take9 9⟩)
  have HfD6 : Hid (FitD (D.take 6)) := Lib.hid fun d hd => HfD.out d (List.mem_of_mem_take hd)
  have HfM6 : Hid (∀ s ∈ M.take 6, s.length ≤ maxLen) := Lib.hid fun s hs => HfM.out s (List.mem_of_mem_take hs)
  clear HSM hX hY hS1 hb0 hb2 hX2 hY2 hN1 hN2 hN3 HfD HfM HS0
  generalize D.take 6 = D' at hSt HfD6
  generalize M.take 6 = M' at hSt HfM6
  generalize V.take 9 = V' at hSt
  go_upto_region 2 with fail
  clear x0 x1 x2 f0 f1 f2
  generalize ((w2.setCell ⟨w.heap.size, 0, none⟩ (.slice A1 N1 c1)).setCell ⟨w.heap.size, 1, none⟩ (.slice A2 N2 c2)).setCell ⟨w.heap.size, 2, none⟩ (.slice A3 N3 c3) = w3 at hX3 hY3 hB3 ⊢
  have y0 : w3.cell? ⟨w.heap.size + 1, 0, none⟩ = some (.slice A4 n4 c4) := hY3.cell 0
  have y1 : w3.cell? ⟨w.heap.size + 1, 1, none⟩ = some (.slice A5 n5 c5) := hY3.cell 1
  have HFW := Lib.hid (fewQ_any (HQ0.out.mv (S' := fun b => b < w.heap.size) (Mv.below hB3 fun _ h => h)))
  go_wp2_with fail
  refine HFW.out.mono ?_
  rintro e w4 ⟨B4, m4, d4, B5, m5, d5, rfl, hQ4, hb4⟩
  have hX4 := hX3.below hb4 hX3.lt
  have hY4 := hY3.below hb4 hY3.lt
  have hzb := hY3.lt
  have hsh := fewQ_short q
  generalize fewQ q = q' at hQ4 hsh
  have y0 : w4.cell? ⟨w.heap.size + 1, 0, none⟩ = some (.slice A4 n4 c4) := hY4.cell 0
  have y1 : w4.cell? ⟨w.heap.size + 1, 1, none⟩ = some (.slice A5 n5 c5) := hY4.cell 1
  have f0 := hY4.free 0
  have f1 := hY4.free 1
  have hns : ¬ ((w.heap.size + 1 < w.heap.size ∧ w.heap.size + 1 < w3.heap.size) ∨ (w3.heap.size ≤ w.heap.size + 1 ∧ w.heap.size + 1 < w4.heap.size)) := by omega
  have hQ5 : HasQ ((w4.setCell ⟨w.heap.size + 1, 0, none⟩ (.slice B4 m4 d4)).setCell ⟨w.heap.size + 1, 1, none⟩ (.slice B5 m5 d5)) (fun b => b < w.heap.size ∨ w.heap.size + 1 < b) B4 m4 d4 B5 m5 d5 q' := hQ4.mv ((Mv.set w4 (w.heap.size + 1) 0 (.slice B4 m4 d4) hns).trans ((Mv.set _ (w.heap.size + 1) 1 (.slice B5 m5 d5) hns).trans (Mv.to _ fun b hb _ => by omega)))
  have hX5 := (hX4.elsewhere (w.heap.size + 1) 0 (.slice B4 m4 d4) (by omega)).elsewhere (w.heap.size + 1) 1 (.slice B5 m5 d5) (by omega)
  have hY5 := (hY4.set_ 0 (.slice B4 m4 d4)).set_ 1 (.slice B5 m5 d5)
  have hB5 := ((hB3.trans (hb4.mono hB3.size)).setCell (p := ⟨w.heap.size + 1, 0, none⟩) (Nat.le_succ _) (.slice B4 m4 d4)).setCell (p := ⟨w.heap.size + 1, 1, none⟩) (Nat.le_succ _) (.slice B5 m5 d5)
  have hm4 : m4 ≤ 6 := by have h1 := hQ4.g.len; have h2 := hsh.1; omega
  clear HFW hQ4 hX3 hY3 hB3 hb4 hX4 hY4 hns hzb
  go_upto_region 3 with fail
  clear y0 y1 f0 f1
  generalize (w4.setCell ⟨w.heap.size + 1, 0, none⟩ (.slice B4 m4 d4)).setCell ⟨w.heap.size + 1, 1, none⟩ (.slice B5 m5 d5) = w5 at hQ5 hX5 hY5 hB5 ⊢
  have hS5 := (hSt.out.below hB5 (Nat.le_refl _)).more hB5.size
  clear hSt
  have HCu := Lib.hid (cutQ_any (hP.mv elPath_ok (Mv.below hB5 fun _ h => h)))
  clear hP
  go_wp2_with fail
  refine HCu.out.mono ?_
  rintro e w6 ⟨⟨Ap, np, cp, rfl, hP6'⟩, hb6⟩
  have hPs := cutQ_short P
  generalize cutQ P = P' at hP6' hPs
  have HPL := Lib.hid (fun p hp => Nat.le_trans (hPs.2 p hp) (by decide) : ∀ p ∈ P', p.length ≤ 1000000)
  have HPN := Lib.hid hP6'.len
  have hpm := hP6'.lenMax
  have hX6 := hX5.below hb6 hX5.lt
  have hY6 := hY5.below hb6 hY5.lt
  have hS6 := hS5.belowS hb6
  have hQ6 := hQ5.belowS hb6
  have hB6 := hB5.trans (hb6.mono hB5.size)
  have hP6 := hP6'.mv (S' := fun b => b < w6.heap.size) elPath_ok (Mv.to w6 fun _ _ hl => hl)
  have hnp8 : np ≤ 8 := by have h1 := HPN.out; have h2 := hPs.1; omega
  have HN := Lib.hid (need_any hS6 HfD6.out HfM6.out l1 hQ6)
  obtain ⟨x, hx⟩ : ∃ x, Hid (mayQ D' M' V' q' = x) := ⟨_, Lib.hid rfl⟩
  rw [hx.out] at HN
  have HDL := Lib.hid hS6.d.len
  clear HCu hP6' hX5 hY5 hS5 hQ5 hB5 hb6
  have x0 : w6.cell? ⟨w.heap.size, 0, none⟩ = some (.slice A1 N1 c1) := hX6.cell 0
  have x1 : w6.cell? ⟨w.heap.size, 1, none⟩ = some (.slice A2 N2 c2) := hX6.cell 1
  have x2 : w6.cell? ⟨w.heap.size, 2, none⟩ = some (.slice A3 N3 c3) := hX6.cell 2
  have y0 : w6.cell? ⟨w.heap.size + 1, 0, none⟩ = some (.slice B4 m4 d4) := hY6.cell 0
  have y1 : w6.cell? ⟨w.heap.size + 1, 1, none⟩ = some (.slice B5 m5 d5) := hY6.cell 1
  go_wp2_with fail
  refine HN.out.mono ?_
  rintro e w7 ⟨v7, rfl, hO7, hb7⟩
  have hX7 := hX6.below hb7 hX6.lt
  have hY7 := hY6.below hb7 hY6.lt
  have hQ7 := hQ6.belowS hb7
  have hP7 := hP6.mv (S' := fun b => b < w7.heap.size) elPath_ok (fun b hb hl => ⟨hb7.block b hl, Nat.lt_of_lt_of_le hl hb7.size⟩)
  have hB7 := hB6.trans (hb7.mono hB6.size)
  clear HN hX6 hY6 hS6 hQ6 hP6 hb7 hB6
  clear x0 x1 x2 y0 y1
  have x0 : w7.cell? ⟨w.heap.size, 0, none⟩ = some (.slice A1 N1 c1) := hX7.cell 0
  by_cases hx0 : x = 0
  · subst hx0
    have HND : Hid (needA D' M' V' q' = needQ q') := Lib.hid (if_pos hx.out)
    rw [HND.out] at hO7
    obtain ⟨_, hfit, _⟩ := mayQ_plain hx.out
    have HFT := Lib.hid hfit
    have HNL : Hid ((needQ q').length = N1) := Lib.hid (by rw [needQ_len, hfit.1.1, HDL.out])
    obtain ⟨An, cn, rfl, hn7, _⟩ := hO7.form
    rw [HNL.out] at hn7 hO7
    rw [HNL.out]
    clear hfit
    by_cases hne : np = N1
    · subst hne
      have he1 : ((np : Int) != (np : Int)) = false := by simp
      have HPD : Hid (P'.length = D'.length) := Lib.hid (by rw [HPN.out, HDL.out])
      have HPK := Lib.hid (needQ_key HFT.out HPD.out)
      have HPP := Lib.hid (needQ_pass HFT.out HPD.out)
      have HY7 := Lib.hid hY7
      have HQ7 := Lib.hid hQ7
      have HP7 := Lib.hid hP7
      have HB7 := Lib.hid hB7
      have HN7 := Lib.hid hn7
      clear hO7 hn7 hX7 hY7 hQ7 hP7 hB7
      go_wp2_with fail
      clear he1 x0
      go_loopw [9, 10] (fun v i wr => ∃ k : Nat, k ≤ np ∧ i = .int .i64 k ∧ OwnR (elOwn elText 9 1) 23 1 wr w7.heap.size (fun b => w7.heap.size ≤ b) v ((shortQ (needQ q') P').take k) ∧ Below w7.heap.size w7 wr) (fun _ i _ => np - (intOf i).toNat)
      case atStart => exact ⟨0, Nat.zero_le _, rfl, OwnR.nil_ _ _ _, Below.refl _ _⟩
      case round =>
        obtain ⟨k, hk, rfl, hO, hB⟩ := hrel
        have hz := hB.size
        by_cases hlt : k < np
        · obtain ⟨b, o, A3', n3', c3', p, rfl, _, _, g1, hp, hpe⟩ := (HP7.out.mv elPath_ok (Mv.below hB fun _ h => h)).at1 hlt
          obtain ⟨b4, o4, xn, rfl, g0, hxn⟩ := (HN7.out.below hB (Nat.le_refl _)).get hlt
          have i0 : (0 : Int) ≤ (k : Int) := by omega
          have i1 : (k : Int) < (np : Int) := by omega
          have HT := Lib.hid (takeX_step (shortQ_at hpe.out hxn.out))
          have hpl : n3' ≤ 1000000 := by have h1 := HPL.out p (List.mem_of_getElem? hpe.out); have h2 := hp.len; omega
          have HU := Lib.hid (refUpO_any (w := wr.drew) (hp.hasT.drewN 1) xn hpl)
          have hlb : Hid (((shortQ (needQ q') P').take k).length ≤ 1000000) := Lib.hid (Nat.le_trans (List.length_take_le k _) (by omega))
          have hlo := fun g e => hO.lt g e
          clear hp
          go_wp2_with fail
          go_region_law (first
            | (refine step_appX elPathO_ok rfl _ _ rfl info_rowT Try.underlying41 rfl (by decide) w7.heap.size _ _ _ rfl HO7.out _ rfl [.slice A8 n8 c8] rfl (upP p xn) HC7.out (one_slR _ _ _) HE7.out hlb.out HS7.out ?_; intro v' w8 hO8 hG8)
            | (go_simp; go_at_call 25; refine HU.out.mono ?_; rintro e z6 ⟨⟨v6, rfl, hO6⟩, hb6⟩; obtain ⟨A8, n8, c8, rfl, _⟩ := hO6.formN; have hbw : Below wr.heap.size wr z6 := (below_drewN (Below.refl _ wr) 1).trans hb6; have HO7 := Lib.hid ((hO.below elPathO_ok hbw).alloc elPathO_ok (.cells #[.slice A8 n8 c8] 23)); have HC7 := Lib.hid (cell_litX z6 (.slice A8 n8 c8) 23); have HE7 := Lib.hid (elPathO_ok _ _ _ _ _ _ (Mv.alloc z6 (.cells #[.slice A8 n8 c8] 23) _) (OwnR.el (base := w7.heap.size) (u := u9) elText_ok (hO6.ownR (S := fun k => wr.drew.heap.size ≤ k)) (fun k hk => (hlo k hk).2) hz)); have hB7' := (hB.trans (hbw.mono hz)).trans ((below_a1 z6 (.cells #[.slice A8 n8 c8] 23)).mono (Nat.le_trans hz hbw.size)); have HS7 := Lib.hid hB7'.size; have HB8 := Lib.hid hB7'))
          all_goals
            have hF := Lib.hid (show OwnR (elOwn elText 9 1) 23 1 w8 w7.heap.size (fun b => w7.heap.size ≤ b) v' ((shortQ (needQ q') P').take (k + 1)) ∧ Below w7.heap.size w7 w8 from ⟨by rw [← HT.out]; exact hO8, HB8.out.trans (hG8.below_ HS7.out fun j e => (hlo j e).1)⟩)
            clear hO8 hG8 HE7 HS7 HC7 HO7 HB8 g0 g1 HU hO hB hB7' hbw hb6 hO6
            go_wp2_with fail
            go_roundw
            case rel => exact ⟨k + 1, by omega, by go_num, hF.out⟩
            case measure => simp [intOf]; omega
        · have hSL : (shortQ (needQ q') P').length = np := by rw [shortQ_len, HPN.out]
          rw [List.take_of_length_le (by rw [hSL]; omega)] at hO
          obtain ⟨As, cs, rfl, hrs⟩ := hO.read elPathO_ok
          rw [hSL] at hrs
          rw [hSL]
          have hRs : Row (elRow elText 1) 1 wr (fun b => b < wr.heap.size) As np cs (shortQ (needQ q') P') := (hrs.map (E' := elRow elText 1) fun us x h => elOwn_row elText_ok (fun _ _ h => h) h).mv elPath_ok (Mv.to wr fun _ _ hl => hl)
          have HRs := Lib.hid hRs
          have HSH : Hid (∀ p ∈ shortQ (needQ q') P', p.length ≤ 1000000) := Lib.hid (fun p hp => shortQ_short HPL.out p hp)
          obtain ⟨Sh, hSh⟩ : ∃ Sh, Hid (shortQ (needQ q') P' = Sh) := ⟨_, Lib.hid rfl⟩
          rw [hSh.out] at HRs HSH HPK HPP
          have HQ6 := Lib.hid (HQ7.out.belowS hB)
          have HP6 := Lib.hid (HP7.out.mv elPath_ok (Mv.belowS hB _))
          have HY6 := Lib.hid (HY7.out.below hB HY7.out.lt)
          have HB6 := Lib.hid (HB7.out.trans (hB.mono HB7.out.size))
          have hx1 : ¬ k < np := hlt
          clear hO hrs hRs hSL
          obtain ⟨WW, hWW⟩ : ∃ WW, WW = wr := ⟨_, rfl⟩
          subst hWW
          obtain ⟨Z, hZ⟩ : ∃ Z, Hid (keyQ q' P' = Z) := ⟨_, Lib.hid rfl⟩
          have HK1 := key_any (HQ6.out.mv (Mv.drewN WW 1 _)) (HP6.out.mv elPath_ok (Mv.drewN WW 1 _)) (by omega) HPL.out
          have HK2 := Lib.hid (fun (y : World) (hy : Below WW.heap.size WW y) => key_any (HQ6.out.belowS hy) (HRs.out.mv elPath_ok (Mv.belowS hy _)) (by omega) HSH.out)
          rw [hZ.out] at HK1
          simp only [HPK.out, hZ.out] at HK2
          have HK1 := Lib.hid HK1
          have K : Hid (∀ y, Below WW.heap.size WW y → y.cell? ⟨w.heap.size + 1, 0, none⟩ = some (.slice B4 m4 d4) ∧ y.cell? ⟨w.heap.size + 1, 1, none⟩ = some (.slice B5 m5 d5)) := Lib.hid fun y hy => ⟨(HY6.out.below hy HY6.out.lt).cell 0, (HY6.out.below hy HY6.out.lt).cell 1⟩
          have y0 : WW.cell? ⟨w.heap.size + 1, 0, none⟩ = some (.slice B4 m4 d4) := HY6.out.cell 0
          have y1 : WW.cell? ⟨w.heap.size + 1, 1, none⟩ = some (.slice B5 m5 d5) := HY6.out.cell 1
          go_wp2_with fail
          go_region_held3 (fun w' => w'.cell? ⟨w.heap.size + 1, 0, none⟩ = some (.slice B4 m4 d4) ∧ w'.cell? ⟨w.heap.size + 1, 1, none⟩ = some (.slice B5 m5 d5))
            (first
              | go_keep
              | exact K.out _ hBB3
              | exact K.out _ hBB2
              | exact K.out _ hBB1)
            (first
              | (go_at_call 18; have hfst := hBB1; refine (HK2.out _ hBB1).mono ?_; rintro e wy2 ⟨v2, rfl, hO2, hb2⟩; obtain ⟨AK2, cK2, rfl, hr2⟩ := hO2.read elPathO_ok; have hR2 : Row (elRow elText 1) 1 wy2 (fun b => b < wy2.heap.size) AK2 Z.length cK2 Z := (hr2.map (E' := elRow elText 1) fun us x h => elOwn_row elText_ok (fun _ _ h => h) h).mv elPath_ok (Mv.to wy2 fun _ _ hl => hl); have hBB2 := hBB1.trans (hb2.mono hBB1.size); have hR3 := hR1.mv elPath_ok (Mv.belowS hb2 _))
              | (go_at_call 18; refine (HK1.out).mono ?_; rintro e wy1 ⟨v1, rfl, hO1, hb1⟩; obtain ⟨AK1, cK1, rfl, hr1⟩ := hO1.read elPathO_ok; have hR1 : Row (elRow elText 1) 1 wy1 (fun b => b < wy1.heap.size) AK1 Z.length cK1 Z := (hr1.map (E' := elRow elText 1) fun us x h => elOwn_row elText_ok (fun _ _ h => h) h).mv elPath_ok (Mv.to wy1 fun _ _ hl => hl); have hBB1 : Below WW.heap.size WW wy1 := (below_drewN (Below.refl _ WW) 1).trans hb1)
              | (go_at_call 17; refine (samePs_eq hR3 hR2).mono ?_; rintro e wy3 ⟨rfl, k3, rfl⟩; have hBB3 := below_drewN hBB2 k3))
          clear HK1 HK2 K hR1 hR2 hR3 hr1 hr2 hO1 hO2 hb1 hb2 y0 y1 hfst
          have hq7 := Lib.hid (HQ6.out.belowS hBB3)
          have hp7 := Lib.hid (HP6.out.mv elPath_ok (Mv.belowS hBB3 _))
          have hs7 := Lib.hid (HRs.out.mv elPath_ok (Mv.belowS hBB3 _))
          have HYX := Lib.hid (HY6.out.below hBB3 HY6.out.lt)
          have hBX := Lib.hid (HB6.out.trans (hBB3.mono HB6.out.size))
          generalize wy2.drewN k3 = WX at hq7 hp7 hs7 hBX HYX ⊢
          clear hBB1 hBB2 hBB3 HQ6 HP6 HY6 HB6 HRs HQ7 HP7 HY7 HB7 HN7 hB
          obtain ⟨WW, hWW⟩ : ∃ WW, WW = WX := ⟨_, rfl⟩
          subst hWW
          obtain ⟨r, hr⟩ : ∃ r, Hid (decide (passQ P' q') = r) := ⟨_, Lib.hid rfl⟩
          have HR2 : Hid (decide (passQ Sh q') = r) := Lib.hid (by rw [← hr.out]; exact decide_eq_decide.2 HPP.out)
          have HK1 := passes_any (hq7.out.mv (Mv.drewN WW 1 _)) (hp7.out.mv elPath_ok (Mv.drewN WW 1 _))
          have HK2 := Lib.hid (fun (y : World) (hy : Below WW.heap.size WW y) => passes_any (hq7.out.belowS hy) (hs7.out.mv elPath_ok (Mv.belowS hy _)))
          rw [hr.out] at HK1
          simp only [HR2.out] at HK2
          have HK1 := Lib.hid HK1
          have K : Hid (∀ y, Below WW.heap.size WW y → y.cell? ⟨w.heap.size + 1, 0, none⟩ = some (.slice B4 m4 d4) ∧ y.cell? ⟨w.heap.size + 1, 1, none⟩ = some (.slice B5 m5 d5)) := Lib.hid fun y hy => ⟨(HYX.out.below hy HYX.out.lt).cell 0, (HYX.out.below hy HYX.out.lt).cell 1⟩
          have hrr : (r == r) = true := by simp
          have y0 : WW.cell? ⟨w.heap.size + 1, 0, none⟩ = some (.slice B4 m4 d4) := HYX.out.cell 0
          have y1 : WW.cell? ⟨w.heap.size + 1, 1, none⟩ = some (.slice B5 m5 d5) := HYX.out.cell 1
          go_wp2_with fail
          go_region_held3 (fun w' => w'.cell? ⟨w.heap.size + 1, 0, none⟩ = some (.slice B4 m4 d4) ∧ w'.cell? ⟨w.heap.size + 1, 1, none⟩ = some (.slice B5 m5 d5))
            (first
              | go_keep
              | exact K.out _ hBB3
              | exact K.out _ hBB2
              | exact K.out _ hBB1)
            (first
              | (go_at_call 20; have hfst := hBB1; refine (HK2.out _ hBB1).mono ?_; rintro e wy2 ⟨rfl, hb2⟩; have hBB2 := hBB1.trans (hb2.mono hBB1.size))
              | (go_at_call 20; refine (HK1.out).mono ?_; rintro e wy1 ⟨rfl, hb1⟩; have hBB1 : Below WW.heap.size WW wy1 := (below_drewN (Below.refl _ WW) 1).trans hb1)
              | (go_at_call 13; refine (qryLives_any _).mono ?_; rintro e wy3 ⟨rfl, hb3⟩; have hBB3 := hBB2.trans (hb3.mono hBB2.size)))
          have HF := Lib.hid (hBX.out.trans (hBB3.mono hBX.out.size))
          clear HK1 HK2 K hb1 hb2 hb3 y0 y1 hBB1 hBB2 hBB3 hfst
          go_wp2_with fail
          go_ret
          exact ⟨rfl, HF.out⟩
    · have he1 : ((np : Int) != (N1 : Int)) = true := by rw [bne_iff_ne]; omega
      clear hne hO7 hn7 hX7 hY7 hQ7 hP7
      go_wp2_with fail
      refine (qryLives_any _).mono ?_
      rintro e vz ⟨rfl, hbz⟩
      have HF := Lib.hid (hB7.trans (hbz.mono hB7.size))
      clear hbz hB7
      go_wp2_with fail
      go_ret
      exact ⟨rfl, HF.out⟩
  · have hx1 : ((x : Int) != 0) = true := by simp; omega
    obtain ⟨An, nn, cn, rfl, _⟩ := hO7.formN
    clear hx0 hO7 hX7 hY7 hQ7 hP7
    go_wp2_with fail
    refine (qryLives_any _).mono ?_
    rintro e vz ⟨rfl, hbz⟩
    have HF := Lib.hid (hB7.trans (hbz.mono hB7.size))
    clear hbz hB7
    go_wp2_with fail
    go_ret
    exact ⟨rfl, HF.out⟩

set_option maxRecDepth 100000 in
theorem lifted (os : Os) (started : os.Started) (H : Type) (enc : TypeId × Value → H) :
    ReturnsInHanded {} Try.checked os 6 .any (Rows.queryNeedsSpec.pre6 enc Try.prog Try.f6 Rows.queryNeedsRow.domain false) (Rows.queryNeedsSpec.post enc Try.prog Try.f6 false true false false) := by
  refine returnsInHanded_of_change (C := Try.checked) own started (by kernel_rfl) Try.func6
    (ChangeSpec.witness6 (enc := enc) (C := Try.checked) false ⟨#[], #[.agg #[.slice none 0 0, .slice none 0 0, .slice none 0 0], .agg #[.slice none 0 0, .slice none 0 0], .slice none 0 0], []⟩ 8 (by kernel_rfl) (by kernel_rfl) (by kernel_rfl) (by kernel_rfl)) ?_
  intro W base args ds gs before hval0 hW hcnd _
  have hval : ∀ (j : Nat) t v, Try.f6.params[j]? = some t → args[j]? = some v → Value.okWide Try.prog W .any base t v := hval0
  have hW' := hW
  obtain ⟨p, q, hA0, hV, rfl, hfz, hnd⟩ := hW
  have hA : DataW.TrodAll enc Try.prog W 0 (fun _ => true) true Try.f6.params.toList args.toList ds p := hA0
  rw [Try.params6] at hA hval
  obtain ⟨v0, vs0, d0, ds0, p0, q0, hargs, rfl, rfl, h0, r0⟩ := trodAll_cons hA
  obtain ⟨v1, vs1, d1, ds1, p1, q1, rfl, rfl, rfl, h1, r1⟩ := trodAll_cons r0
  obtain ⟨v2, vs2, d2, ds2, p2, q2, rfl, rfl, rfl, h2, r2⟩ := trodAll_cons r1
  obtain ⟨rfl, rfl, rfl⟩ := trodAll_nil r2
  obtain rfl : args = #[v0, v1, v2] := by cases args; simp_all
  obtain ⟨rfl, rfl⟩ := trodVars_none hV
  obtain ⟨cs0, rfl, hsz0⟩ := okWide_struct Try.underlying26 (hval 0 26 v0 rfl rfl)
  have k0 := h0
  have lt0 : ∀ x ∈ p0, x.block < W.heap.size := by obtain ⟨m, hm⟩ := k0; exact DataW.trod_lt m _ _ _ hm
  have w0 : RC Try.prog W 26 cs0.toList := by
    obtain ⟨fuel, hf⟩ := h0
    exact ⟨_, _, _, _, _, fuel, _, by simpa [Value.cells] using hf⟩
  obtain ⟨cs1, rfl, hsz1⟩ := okWide_struct Try.underlying30 (hval 1 30 v1 rfl rfl)
  have k1 := h1
  have lt1 : ∀ x ∈ p1, x.block < W.heap.size := by obtain ⟨m, hm⟩ := k1; exact DataW.trod_lt m _ _ _ hm
  have w1 : RC Try.prog W 30 cs1.toList := by
    obtain ⟨fuel, hf⟩ := h1
    exact ⟨_, _, _, _, _, fuel, _, by simpa [Value.cells] using hf⟩
  obtain ⟨a2, len2, cap2, rfl⟩ := okWide_slice Try.underlying41 (hval 2 41 v2 rfl rfl)
  have k2 := h2
  have lt2 : ∀ x ∈ p2, x.block < W.heap.size := by obtain ⟨m, hm⟩ := k2; exact DataW.trod_lt m _ _ _ hm
  have w2 : RC Try.prog W 41 [.slice a2 len2 cap2] := by
    obtain ⟨fuel, hf⟩ := h2
    exact ⟨_, _, _, _, _, fuel, _, hf⟩
  clear hA0 hval0
  refine (walk cs0 cs1 a2 len2 cap2 W w0 w1 w2).mono fun e W' ⟨he, bel⟩ => ?_
  subst he
  exact ⟨_, rfl, _, _, _, [], _, [], hW', trodAll_mk1 (shut_bool Try.underlying4 _), (trodAll_cons_mk (Below.trod laidOut (by kernel_rfl) (of_decide_eq_true (by kernel_rfl)) k0 bel lt0) (trodAll_cons_mk (Below.trod laidOut (by kernel_rfl) (of_decide_eq_true (by kernel_rfl)) k1 bel lt1) (trodAll_cons_mk (Below.trod laidOut (by kernel_rfl) (of_decide_eq_true (by kernel_rfl)) k2 bel lt2) trodAll_mk0))), rfl, bel.frame _, fun h => by cases h⟩

theorem over : Rows.queryNeedsRow.holds Try.pinned (OpenSpec.ofChange Rows.queryNeedsSpec) :=
  OpenClaim.holds_of_wide 6 Try.f6 rfl rfl rfl rfl rfl rfl rfl ⟨rfl, rfl, rfl, rfl, rfl⟩ rfl rfl rfl rfl rfl (by kernel_rfl) Try.func6 (by kernel_rfl)
    (of_decide_eq_true (by kernel_rfl)) (by unfold Func.isWrapper; first | (rw [if_pos (by decide +kernel)]; kernel_rfl) | (rw [if_neg (by decide +kernel)]; exact ⟨rfl, rfl⟩))
    (fun os started H enc _ => lifted os started H enc)

theorem proved : Rows.QueryNeedsSaid := over
end Go.Proofs.Ytmcccpbpijnbmaa.queryNeeds
