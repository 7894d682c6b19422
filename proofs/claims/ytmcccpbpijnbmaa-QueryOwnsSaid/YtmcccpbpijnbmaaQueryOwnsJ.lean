/-
  Proved: whatever schema (at most 6 Dims, 9 Views, 6 Measures), whatever query (a Group of at most 6, at most 5 Filters of at most 8 Members of 5 names) and whatever paths (the first 8, of 5 names each): what is handed to query.Key and query.Need stays as it was, though what they tell is written over; the examples of the document hold, and nothing that was handed in changes. No condition.
-/
import Derived.Test.YtmcccpbpijnbmaaJ27
import Derived.Test.YtmcccpbpijnbmaaJ29
import Derived.Test.YtmcccpbpijnbmaaJ31
import Derived.Test.YtmcccpbpijnbmaaJ38
import Derived.Test.YtmcccpbpijnbmaaJ39
import Derived.Below
import Derived.ChangeOld
import Derived.OpenShut
import Derived.ProofKit
import Derived.ShutString
import Derived.Test.YtmcccpbpijnbmaaRows
import Derived.WalkKit
namespace Go.Proofs.Ytmcccpbpijnbmaa.queryOwns
open Go.ChangeShapes Go.WideShapes Go.ChangeAt Go.RowKit
open Go.ChangeMaps (open_string shut_string)
set_option linter.unusedVariables false

theorem own : ownKnob Try.prog.godebug = none := by kernel_rfl
theorem laidOut : laidOutB Try.prog = true := by kernel_rfl

def IsRow (k : IntKind) (w : World) (a : Option Addr) (len cap : Nat) (zs : List Int) : Prop :=
  (a = none ∧ len = 0 ∧ cap = 0 ∧ zs = []) ∨
  ∃ x, a = some x ∧ len ≤ cap ∧ cap ≤ maxLen ∧ zs.length = cap ∧ (∀ i, i < zs.length → w.cell? (x.add i) = some (.int k (zs.getD i 0))) ∧ ∀ n ∈ zs, (Lit.int k n).wf = true

set_option maxRecDepth 100000 in
set_option maxHeartbeats 2000000 in
theorem walk (cs0 : Array Value) (cs1 : Array Value) (a2 : Option Addr) (len2 cap2 : Nat) (w : World) (w0 : RC Try.prog w 26 cs0.toList) (w1 : RC Try.prog w 30 cs1.toList) (w2 : RC Try.prog w 41 [.slice a2 len2 cap2]) :
    Calls Try.prog 7 #[.agg cs0, .agg cs1, .slice a2 len2 cap2] w fun e w' => e = .returned (.bool true) ∧ Below w.heap.size w w' := by
  obtain ⟨A1, n1, c1, A2, n2, c2, A3, n3, c3, D, M, V, es, hS, hf, hm⟩ := schema_of w0
  obtain rfl : cs0 = #[.slice A1 n1 c1, .slice A2 n2 c2, .slice A3 n3 c3] := by rw [← Array.toArray_toList (xs := cs0), es]
  obtain ⟨A4, n4, c4, A5, n5, c5, q, eq, hQ, _⟩ := query_of w1
  obtain rfl : cs1 = #[.slice A4 n4 c4, .slice A5 n5 c5] := by rw [← Array.toArray_toList (xs := cs1), eq]
  obtain ⟨P, hP⟩ := paths_of w2
  clear w2
  clear w0 es w1 eq
  obtain ⟨hb0, hX, hY⟩ := boxes2 w 26 30 #[.slice A1 n1 c1, .slice A2 n2 c2, .slice A3 n3 c3] #[.slice A4 n4 c4, .slice A5 n5 c5]
  have hS1 := hS.belowS hb0
  have HSM := Lib.hid (small_any hS1)
  have HfD := Lib.hid hf
  have HfM := Lib.hid hm
  have HS0 := Lib.hid hS
  have HQ0 := Lib.hid hQ
  clear hS hf hm hQ
  go_enter Try.func7, Try.ntmps7
  go_wp2_with fail
  generalize (w.alloc (.cells #[.slice A1 n1 c1, .slice A2 n2 c2, .slice A3 n3 c3] 26)).alloc (.cells #[.slice A4 n4 c4, .slice A5 n5 c5] 30) = w1 at hb0 hX hY hS1 HSM ⊢
  refine HSM.out.mono ?_
  rintro e w2 ⟨rfl, hb2⟩
  have hX2 := hX.below hb2 hX.lt
  have hY2 := hY.below hb2 hY.lt
  have x0 : w2.cell? ⟨w.heap.size, 0, none⟩ = some (.slice A1 n1 c1) := hX2.cell 0
  have x1 : w2.cell? ⟨w.heap.size, 1, none⟩ = some (.slice A2 n2 c2) := hX2.cell 1
  have x2 : w2.cell? ⟨w.heap.size, 2, none⟩ = some (.slice A3 n3 c3) := hX2.cell 2
  have f0 := hX2.free 0
  have f1 := hX2.free 1
  have f2 := hX2.free 2
  have hX3 := ((hX2.set_ 0 (.slice A1 (min n1 6) c1)).set_ 1 (.slice A2 (min n2 6) c2)).set_ 2 (.slice A3 (min n3 9) c3)
  have hY3 := ((hY2.elsewhere w.heap.size 0 (.slice A1 (min n1 6) c1) (by omega)).elsewhere w.heap.size 1 (.slice A2 (min n2 6) c2) (by omega)).elsewhere w.heap.size 2 (.slice A3 (min n3 9) c3) (by omega)
  have hB3 := (((hb0.trans (hb2.mono hb0.size)).setCell (p := ⟨w.heap.size, 0, none⟩) (Nat.le_refl _) (.slice A1 (min n1 6) c1)).setCell (p := ⟨w.heap.size, 1, none⟩) (Nat.le_refl _) (.slice A2 (min n2 6) c2)).setCell (p := ⟨w.heap.size, 2, none⟩) (Nat.le_refl _) (.slice A3 (min n3 9) c3)
  obtain ⟨N1, hN1⟩ : ∃ N1, min n1 6 = N1 := ⟨_, rfl⟩
  obtain ⟨N2, hN2⟩ : ∃ N2, min n2 6 = N2 := ⟨_, rfl⟩
  obtain ⟨N3, hN3⟩ : ∃ N3, min n3 9 = N3 := ⟨_, rfl⟩
  have l1 : N1 ≤ 1000 := by omega
  have l3 : N3 ≤ 1000 := by omega
  rw [hN1, hN2, hN3] at hX3 hY3 hB3
  rw [hN1, hN2, hN3]
  have hSt := Lib.hid (show HasS w w.heap.size A1 N1 c1 A2 N2 c2 A3 N3 c3 (D.take 6) (M.take 6) (V.take 9) from by
    rw [← hN1, ← hN2, ← hN3]
    exact ⟨HS0.out.d.take9 6, HS0.out.m.take9 6, HS0.out.v.take9 9⟩)
  have HfD6 : Hid (FitD (D.take 6)) := Lib.hid fun d hd => HfD.out d (List.mem_of_mem_take hd)
  have HfM6 : Hid (∀ s ∈ M.take 6, s.length ≤ maxLen) := Lib.hid fun s hs => HfM.out s (List.mem_of_mem_take hs)
  clear HSM hX hY hS1 hb0 hb2 hX2 hY2 hN1 hN2 hN3 HfD HfM HS0
  generalize D.take 6 = D' at hSt HfD6
  generalize M.take 6 = M' at hSt HfM6
  generalize V.take 9 = V' at hSt
  go_upto_region 2 with fail
  clear x0 x1 x2 f0 f1 f2
  generalize ((w2.setCell ⟨w.heap.size, 0, none⟩ (.slice A1 N1 c1)).setCell ⟨w.heap.size, 1, none⟩ (.slice A2 N2 c2)).setCell ⟨w.heap.size, 2, none⟩ (.slice A3 N3 c3) = w3 at hX3 hY3 hB3 ⊢
  have y0 : w3.cell? ⟨w.heap.size + 1, 0, none⟩ = some (.slice A4 n4 c4) := hY3.cell 0
  have y1 : w3.cell? ⟨w.heap.size + 1, 1, none⟩ = some (.slice A5 n5 c5) := hY3.cell 1
  have HFW := Lib.hid (fewQ_any (HQ0.out.mv (S' := fun b => b < w.heap.size) (Mv.below hB3 fun _ h => h)))
  go_wp2_with fail
  refine HFW.out.mono ?_
  rintro e w4 ⟨B4, m4, d4, B5, m5, d5, rfl, hQ4, hb4⟩
  have hX4 := hX3.below hb4 hX3.lt
  have hY4 := hY3.below hb4 hY3.lt
  have hzb := hY3.lt
  have hsh := fewQ_short q
  generalize fewQ q = q' at hQ4 hsh
  have y0 : w4.cell? ⟨w.heap.size + 1, 0, none⟩ = some (.slice A4 n4 c4) := hY4.cell 0
  have y1 : w4.cell? ⟨w.heap.size + 1, 1, none⟩ = some (.slice A5 n5 c5) := hY4.cell 1
  have f0 := hY4.free 0
  have f1 := hY4.free 1
  have hns : ¬ ((w.heap.size + 1 < w.heap.size ∧ w.heap.size + 1 < w3.heap.size) ∨ (w3.heap.size ≤ w.heap.size + 1 ∧ w.heap.size + 1 < w4.heap.size)) := by omega
  have hQ5 : HasQ ((w4.setCell ⟨w.heap.size + 1, 0, none⟩ (.slice B4 m4 d4)).setCell ⟨w.heap.size + 1, 1, none⟩ (.slice B5 m5 d5)) (fun b => b < w.heap.size ∨ w.heap.size + 1 < b) B4 m4 d4 B5 m5 d5 q' := hQ4.mv ((Mv.set w4 (w.heap.size + 1) 0 (.slice B4 m4 d4) hns).trans ((Mv.set _ (w.heap.size + 1) 1 (.slice B5 m5 d5) hns).trans (Mv.to _ fun b hb _ => by omega)))
  have hX5 := (hX4.elsewhere (w.heap.size + 1) 0 (.slice B4 m4 d4) (by omega)).elsewhere (w.heap.size + 1) 1 (.slice B5 m5 d5) (by omega)
  have hY5 := (hY4.set_ 0 (.slice B4 m4 d4)).set_ 1 (.slice B5 m5 d5)
  have hB5 := ((hB3.trans (hb4.mono hB3.size)).setCell (p := ⟨w.heap.size + 1, 0, none⟩) (Nat.le_succ _) (.slice B4 m4 d4)).setCell (p := ⟨w.heap.size + 1, 1, none⟩) (Nat.le_succ _) (.slice B5 m5 d5)
  have hm4 : m4 ≤ 6 := by have h1 := hQ4.g.len; have h2 := hsh.1; omega
  clear HFW hQ4 hX3 hY3 hB3 hb4 hX4 hY4 hns hzb
  go_upto_region 3 with fail
  clear y0 y1 f0 f1
  generalize (w4.setCell ⟨w.heap.size + 1, 0, none⟩ (.slice B4 m4 d4)).setCell ⟨w.heap.size + 1, 1, none⟩ (.slice B5 m5 d5) = w5 at hQ5 hX5 hY5 hB5 ⊢
  have hS5 := (hSt.out.below hB5 (Nat.le_refl _)).more hB5.size
  clear hSt
  have HCu := Lib.hid (cutQ_any (hP.mv elPath_ok (Mv.below hB5 fun _ h => h)))
  clear hP
  go_wp2_with fail
  refine HCu.out.mono ?_
  rintro e w6 ⟨⟨Ap, np, cp, rfl, hP6'⟩, hb6⟩
  have hPs := cutQ_short P
  generalize cutQ P = P' at hP6' hPs
  have HPS := Lib.hid hPs.2
  have HPL := Lib.hid (fun p hp => Nat.le_trans (hPs.2 p hp) (by decide) : ∀ p ∈ P', p.length ≤ 1000000)
  have HPN := Lib.hid hP6'.len
  have hnp8 : np ≤ 8 := by have h1 := HPN.out; have h2 := hPs.1; omega
  have HX6 := Lib.hid (hX5.below hb6 hX5.lt)
  have HY6 := Lib.hid (hY5.below hb6 hY5.lt)
  have HS6 := Lib.hid (hS5.belowS hb6)
  have HQ6 := Lib.hid (hQ5.belowS hb6)
  have HB6 := Lib.hid (hB5.trans (hb6.mono hB5.size))
  have HP6 := Lib.hid (hP6'.mv (S' := fun b => b < w6.heap.size) elPath_ok (Mv.to w6 fun _ _ hl => hl))
  clear HCu hP6' hX5 hY5 hS5 hQ5 hB5 hb6 hPs
  go_wp2_with fail
  go_loopw [7, 8] (fun v i wr => ∃ k : Nat, k ≤ np ∧ i = .int .i64 k ∧ OwnR (elOwn elText 9 1) 23 1 wr w6.heap.size (fun b => w6.heap.size ≤ b) v (P'.take k) ∧ Below w6.heap.size w6 wr) (fun _ i _ => np - (intOf i).toNat)
  case atStart => exact ⟨0, Nat.zero_le _, rfl, OwnR.nil_ _ _ _, Below.refl _ _⟩
  case round =>
    obtain ⟨k, hk, rfl, hO, hB⟩ := hrel
    have hz := hB.size
    by_cases hlt : k < np
    · obtain ⟨b, o, A3', n3', c3', p, rfl, _, _, g1, hp, hpe⟩ := (HP6.out.mv elPath_ok (Mv.below hB fun _ h => h)).at1 hlt
      have i0 : (0 : Int) ≤ (k : Int) := by omega
      have i1 : (k : Int) < (np : Int) := by omega
      have HT := Lib.hid (takeX_step hpe.out)
      have hpl : n3' ≤ 5 := by have h1 := HPS.out p (List.mem_of_getElem? hpe.out); have h2 := hp.len; omega
      have hby : Hid ((([] : List Txt).length + n3') * 16 ≤ 140737488355328) := Lib.hid (by simp; omega)
      have hlb : Hid ((P'.take k).length ≤ 1000000) := Lib.hid (Nat.le_trans (List.length_take_le k _) (by omega))
      have hlo := fun g e => hO.lt g e
      have HpT := Lib.hid hp.hasT
      clear hp
      go_wp2_with (at_builtin; refine wpList_appTs rfl _ _ rfl wr.heap.size (.slice none 0 0) [] rfl (OwnT.nil_ _ _) _ A3' n3' c3' p rfl HpT.out hby.out (Nat.le_refl _) ?_)
      intro vp wp hOp hGp
      have hbp := hGp.below_ (Nat.le_refl _) (fun k hk => by cases hk)
      obtain ⟨A8, n8, c8, rfl, _⟩ := hOp.formN
      have hO7 := (hO.below elPathO_ok hbp).alloc elPathO_ok (.cells #[.slice A8 n8 c8] 23)
      have hE7 := elPathO_ok _ _ _ _ _ _ (Mv.alloc wp (.cells #[.slice A8 n8 c8] 23) _) (OwnR.el (base := w6.heap.size) (u := u7) elText_ok (hOp.ownR (S := fun k => wr.heap.size ≤ k)) (fun k hk => (hlo k hk).2) hz)
      have hB7 := (hB.trans (hbp.mono hz)).trans ((below_a1 wp (.cells #[.slice A8 n8 c8] 23)).mono (Nat.le_trans hz hbp.size))
      have hbs := hB7.size
      clear hO hB hOp hGp hbp g1
      go_wp2_with (at_builtin; refine wpList_appX elPathO_ok rfl _ _ rfl info_rowT Try.underlying41 rfl (by decide) w6.heap.size _ u7 _ rfl hO7 _ rfl [.slice A8 n8 c8] rfl p (cell_litX wp _ _) (one_slR _ _ _) hE7 hlb.out hbs ?_)
      intro v' w8 hO8 hG8
      have hF := Lib.hid (show OwnR (elOwn elText 9 1) 23 1 w8 w6.heap.size (fun b => w6.heap.size ≤ b) v' (P'.take (k + 1)) ∧ Below w6.heap.size w6 w8 from ⟨by rw [← HT.out]; exact hO8, hB7.trans (hG8.below_ hbs fun j e => (hlo j e).1)⟩)
      clear hO8 hG8 hB7 hO7 hE7
      go_wp2_with fail
      go_roundw
      case rel => exact ⟨k + 1, by omega, by go_num, hF.out⟩
      case measure => simp [intOf]; omega
    · rw [List.take_of_length_le (by have := HPN.out; omega)] at hO
      obtain ⟨Ao, co, rfl, hro⟩ := hO.read elPathO_ok
      rw [HPN.out] at hro
      rw [HPN.out]
      have HRo : Hid (Row (elRow elText 1) 1 wr (fun b => b < wr.heap.size) Ao np co P') := Lib.hid ((hro.map (E' := elRow elText 1) fun us x h => elOwn_row elText_ok (fun _ _ h => h) h).mv elPath_ok (Mv.to wr fun _ _ hl => hl))
      obtain ⟨W0, hW0⟩ : ∃ W0, W0 = wr := ⟨_, rfl⟩
      subst hW0
      have HXr := Lib.hid (HX6.out.below hB HX6.out.lt)
      have HYr := Lib.hid (HY6.out.below hB HY6.out.lt)
      have HSr := Lib.hid (HS6.out.belowS hB)
      have HQr := Lib.hid (HQ6.out.belowS hB)
      have HPr : Hid (Row (elRow elText 1) 1 W0 (fun b => b < W0.heap.size) Ap np cp P') := Lib.hid (HP6.out.mv elPath_ok (fun b hb hl => ⟨hB.block b hb, Nat.lt_of_lt_of_le hl hz⟩))
      have HBr := Lib.hid (HB6.out.trans (hB.mono HB6.out.size))
      have HK := Lib.hid (key_any HQr.out HPr.out (by omega) HPL.out)
      have y0 : W0.cell? ⟨w.heap.size + 1, 0, none⟩ = some (.slice B4 m4 d4) := HYr.out.cell 0
      have y1 : W0.cell? ⟨w.heap.size + 1, 1, none⟩ = some (.slice B5 m5 d5) := HYr.out.cell 1
      have hns : ¬ k < np := hlt
      clear hO hro hB HX6 HY6 HS6 HQ6 HP6 HB6 hz
      go_wp2_with fail
      refine HK.out.mono ?_
      rintro e w8 ⟨v8, rfl, hO8, hb8⟩
      have ht8 : TRows w8 W0.heap.size w8.heap.size 23 9 v8 := elOwn_trows elT_one (OwnR.el0 hO8) (fun _ h => h)
      obtain ⟨Ak, ck, rfl⟩ := hO8.shape
      have hlk : (keyQ q' P').length ≤ 6 := by rw [keyQ_len]; exact hsh.1
      obtain ⟨nk, hnk⟩ : ∃ nk, (keyQ q' P').length = nk := ⟨_, rfl⟩
      rw [hnk] at ht8 hlk
      rw [hnk]
      clear HK hO8 y0 y1 hnk
      go_wp2_with fail
      go_loopw [11] (fun i wr => ∃ k : Nat, k ≤ nk ∧ i = .int .i64 k ∧ TRows wr W0.heap.size w8.heap.size 23 9 (.slice Ak nk ck) ∧ Below W0.heap.size W0 wr) (fun i _ => nk - (intOf i).toNat)
      case atStart => exact ⟨0, Nat.zero_le _, rfl, ht8, hb8⟩
      case round =>
        clear ht8 hb8
        obtain ⟨i, hi, rfl, ht, hB⟩ := hrel
        by_cases hlt : i < nk
        · obtain ⟨g, o, cs, P1, n1', c1', rfl, hblk, hcs, hp1, hp2, hg1, hg2⟩ := ht.raw hlt
          have i0 : (0 : Int) ≤ (i : Int) := by omega
          have i1 : (i : Int) < (nk : Int) := by omega
          go_wp2_with fail
          go_loopw [12] (fun j wi => ∃ k : Nat, k ≤ n1' ∧ j = .int .i64 k ∧ TRows wi W0.heap.size w8.heap.size 23 9 (.slice (some ⟨g, o, none⟩) nk ck) ∧ Below W0.heap.size W0 wi ∧ Block wi g 23 cs) (fun j _ => n1' - (intOf j).toNat)
          case atStart => exact ⟨0, Nat.zero_le _, rfl, ht, hB, hblk⟩
          case round =>
            clear ht hB hblk
            obtain ⟨j, hj, rfl, ht, hB, hblk⟩ := hrel
            have f0 : wr.cell? ⟨g, o + i, none⟩ = some (.slice P1 n1' c1') := (hblk.cell _).trans hcs
            by_cases hlj : j < n1'
            · obtain ⟨b, o2, u, rfl, t0, t1, hbb1, hbb2, ds, hbb⟩ := (ht.atB hlt hblk hcs).wr.at_ hlj
              have i2 : (0 : Int) ≤ (j : Int) := by omega
              have i3 : (j : Int) < (n1' : Int) := by omega
              have hF := Lib.hid (show TRows (wr.setCell ⟨b, o2 + j, none⟩ (.string ⟨#[122, 122]⟩)) W0.heap.size w8.heap.size 23 9 (.slice (some ⟨g, o, none⟩) nk ck) ∧ Below W0.heap.size W0 (wr.setCell ⟨b, o2 + j, none⟩ (.string ⟨#[122, 122]⟩)) ∧ Block (wr.setCell ⟨b, o2 + j, none⟩ (.string ⟨#[122, 122]⟩)) g 23 cs from
                ⟨ht.set_ hbb _ _ (.inl (by decide)), hB.setCell (p := ⟨b, o2 + j, none⟩) hbb1 _, hblk.other hbb (by decide) _ _⟩)
              clear ht hB hblk hbb
              go_wp2_with fail
              go_roundw
              case rel => exact ⟨j + 1, by omega, by go_num, hF.out⟩
              case measure => simp [intOf]; omega
            · go_wp2_with fail
              go_roundw
              case rel => exact ⟨i + 1, by omega, by go_num, ht, hB⟩
              case measure => simp [intOf]; omega
        · have hY9 := HYr.out.below hB HYr.out.lt
          have y0 : wr.cell? ⟨w.heap.size + 1, 0, none⟩ = some (.slice B4 m4 d4) := hY9.cell 0
          have hg9 := HQr.out.g.hasI.below hB (Nat.le_refl _)
          have hby : Hid ((([] : List Int).length + m4) * 8 ≤ 140737488355328) := Lib.hid (by simp; omega)
          obtain ⟨W9, hW9⟩ : ∃ W9, W9 = wr := ⟨_, rfl⟩
          subst hW9
          clear ht hY9
          go_wp2_with (at_builtin; refine wpList_appIs rfl _ _ rfl W9.heap.size (.slice none 0 0) [] rfl (OwnI.nil_ _ _) _ B4 m4 d4 q'.1 rfl hg9 hby.out (Nat.le_refl _) ?_)
          intro v10 w10 hO10 hG10
          have hb10 := hG10.below_ (Nat.le_refl _) (fun k hk => by cases hk)
          have hB10 := hB.trans (hb10.mono hB.size)
          obtain ⟨Ag, ng, cg, rfl, _⟩ := hO10.formN
          have HO10 := Lib.hid hO10.has
          have hX10 := HXr.out.below hB10 HXr.out.lt
          have hY10 := HYr.out.below hB10 HYr.out.lt
          have HN := Lib.hid (need_any (HSr.out.belowS hB10) HfD6.out HfM6.out l1 (HQr.out.belowS hB10))
          obtain ⟨x, hx⟩ : ∃ x, mayQ D' M' V' q' = x := ⟨_, rfl⟩
          rw [hx] at HN
          clear hO10 hG10 hg9 y0 hB hb10 hby hx
          have x0 : w10.cell? ⟨w.heap.size, 0, none⟩ = some (.slice A1 N1 c1) := hX10.cell 0
          have x1 : w10.cell? ⟨w.heap.size, 1, none⟩ = some (.slice A2 N2 c2) := hX10.cell 1
          have x2 : w10.cell? ⟨w.heap.size, 2, none⟩ = some (.slice A3 N3 c3) := hX10.cell 2
          have y0 : w10.cell? ⟨w.heap.size + 1, 0, none⟩ = some (.slice B4 m4 d4) := hY10.cell 0
          have y1 : w10.cell? ⟨w.heap.size + 1, 1, none⟩ = some (.slice B5 m5 d5) := hY10.cell 1
          go_wp2_with fail
          refine HN.out.mono ?_
          rintro e w11 ⟨v11, rfl, hO11, hb11⟩
          have ht11 : TRow w11 w10.heap.size w11.heap.size 3 v11 := elOwn_trow (S := fun k => w10.heap.size ≤ k) elI_one (OwnR.el0 (hO11.ownR (S := fun k => w10.heap.size ≤ k))) (fun _ h => h)
          obtain ⟨An, nn, cn, rfl, hcc1, hcc2⟩ : ∃ A n c, v11 = .slice A n c ∧ n ≤ c ∧ c ≤ 9223372036854775807 := by
            obtain ⟨A, n, c, e, h1, h2, _⟩ := ht11
            exact ⟨A, n, c, e, h1, h2⟩
          have HT11 := Lib.hid ht11
          clear ht11
          clear HN hO11 hX10 hY10
          clear x0 x1 x2 y0 y1
          go_wp2_with fail
          go_loopw [16] (fun i wr => ∃ k : Nat, k ≤ nn ∧ i = .int .i64 k ∧ TRow wr w10.heap.size w11.heap.size 3 (.slice An nn cn) ∧ Below w10.heap.size w10 wr) (fun i _ => nn - (intOf i).toNat)
          case atStart => exact ⟨0, Nat.zero_le _, rfl, HT11.out, hb11⟩
          case round =>
            clear hb11
            obtain ⟨i, hi, rfl, ht, hB⟩ := hrel
            by_cases hlt : i < nn
            · obtain ⟨b, o2, u, rfl, t0, t1, hbb1, hbb2, ds, hbb⟩ := ht.wr.at_ hlt
              have i2 : (0 : Int) ≤ (i : Int) := by omega
              have i3 : (i : Int) < (nn : Int) := by omega
              have hF := Lib.hid (show TRow (wr.setCell ⟨b, o2 + i, none⟩ (.int .i64 77)) w10.heap.size w11.heap.size 3 (.slice (some ⟨b, o2, none⟩) nn cn) ∧ Below w10.heap.size w10 (wr.setCell ⟨b, o2 + i, none⟩ (.int .i64 77)) from
                ⟨ht.set_ _ _ _, hB.setCell (p := ⟨b, o2 + i, none⟩) hbb1 _⟩)
              clear ht hB hbb
              go_wp2_with fail
              go_roundw
              case rel => exact ⟨i + 1, by omega, by go_num, hF.out⟩
              case measure => simp [intOf]; omega
            · have hBt := hB10.trans (hB.mono hB10.size)
              have HSm := Lib.hid (samePs_eq (HRo.out.mv elPath_ok (Mv.belowS hBt _)) (HPr.out.mv elPath_ok (Mv.belowS hBt _)))
              have hYt := HYr.out.below hBt HYr.out.lt
              have hgt := HQr.out.g.hasI.below hBt (Nat.le_refl _)
              have hot := HO10.out.below hB (Nat.le_refl _)
              have hBf := HBr.out.trans (hBt.mono HBr.out.size)
              clear ht hB hBt
              go_wp2_with fail
              refine HSm.out.mono ?_
              rintro e wz ⟨rfl, t3, rfl⟩
              have y0 : (wr.drewN t3).cell? ⟨w.heap.size + 1, 0, none⟩ = some (.slice B4 m4 d4) := hYt.cell 0
              have HSI := Lib.hid (sameI_any (hot.drewN t3) (hgt.drewN t3))
              rw [decide_eq_true rfl] at HSI
              have hBg := below_drewN hBf t3
              clear HSm hYt hgt hot hBf
              go_wp2_with fail
              refine HSI.out.mono ?_
              rintro e wz ⟨rfl, t4, rfl⟩
              have hBh : Below w.heap.size w (wr.drewN (t3 + t4)) := by rw [← World.drewN_drewN]; exact below_drewN hBg t4
              clear HSI hBg y0
              go_wp2_with fail
              refine (qryLives_any _).mono ?_
              rintro e vz ⟨rfl, hbz⟩
              have HF := Lib.hid (hBh.trans (hbz.mono hBh.size))
              clear hbz hBh
              go_wp2_with fail
              go_ret
              exact ⟨rfl, HF.out⟩

set_option maxRecDepth 100000 in
theorem lifted (os : Os) (started : os.Started) (H : Type) (enc : TypeId × Value → H) :
    ReturnsInHanded {} Try.checked os 7 .any (Rows.queryOwnsSpec.pre6 enc Try.prog Try.f7 Rows.queryOwnsRow.domain false) (Rows.queryOwnsSpec.post enc Try.prog Try.f7 false true false false) := by
  refine returnsInHanded_of_change (C := Try.checked) own started (by kernel_rfl) Try.func7
    (ChangeSpec.witness6 (enc := enc) (C := Try.checked) false ⟨#[], #[.agg #[.slice none 0 0, .slice none 0 0, .slice none 0 0], .agg #[.slice none 0 0, .slice none 0 0], .slice none 0 0], []⟩ 8 (by kernel_rfl) (by kernel_rfl) (by kernel_rfl) (by kernel_rfl)) ?_
  intro W base args ds gs before hval0 hW hcnd _
  have hval : ∀ (j : Nat) t v, Try.f7.params[j]? = some t → args[j]? = some v → Value.okWide Try.prog W .any base t v := hval0
  have hW' := hW
  obtain ⟨p, q, hA0, hV, rfl, hfz, hnd⟩ := hW
  have hA : DataW.TrodAll enc Try.prog W 0 (fun _ => true) true Try.f7.params.toList args.toList ds p := hA0
  rw [Try.params7] at hA hval
  obtain ⟨v0, vs0, d0, ds0, p0, q0, hargs, rfl, rfl, h0, r0⟩ := trodAll_cons hA
  obtain ⟨v1, vs1, d1, ds1, p1, q1, rfl, rfl, rfl, h1, r1⟩ := trodAll_cons r0
  obtain ⟨v2, vs2, d2, ds2, p2, q2, rfl, rfl, rfl, h2, r2⟩ := trodAll_cons r1
  obtain ⟨rfl, rfl, rfl⟩ := trodAll_nil r2
  obtain rfl : args = #[v0, v1, v2] := by cases args; simp_all
  obtain ⟨rfl, rfl⟩ := trodVars_none hV
  obtain ⟨cs0, rfl, hsz0⟩ := okWide_struct Try.underlying26 (hval 0 26 v0 rfl rfl)
  have k0 := h0
  have lt0 : ∀ x ∈ p0, x.block < W.heap.size := by obtain ⟨m, hm⟩ := k0; exact DataW.trod_lt m _ _ _ hm
  have w0 : RC Try.prog W 26 cs0.toList := by
    obtain ⟨fuel, hf⟩ := h0
    exact ⟨_, _, _, _, _, fuel, _, by simpa [Value.cells] using hf⟩
  obtain ⟨cs1, rfl, hsz1⟩ := okWide_struct Try.underlying30 (hval 1 30 v1 rfl rfl)
  have k1 := h1
  have lt1 : ∀ x ∈ p1, x.block < W.heap.size := by obtain ⟨m, hm⟩ := k1; exact DataW.trod_lt m _ _ _ hm
  have w1 : RC Try.prog W 30 cs1.toList := by
    obtain ⟨fuel, hf⟩ := h1
    exact ⟨_, _, _, _, _, fuel, _, by simpa [Value.cells] using hf⟩
  obtain ⟨a2, len2, cap2, rfl⟩ := okWide_slice Try.underlying41 (hval 2 41 v2 rfl rfl)
  have k2 := h2
  have lt2 : ∀ x ∈ p2, x.block < W.heap.size := by obtain ⟨m, hm⟩ := k2; exact DataW.trod_lt m _ _ _ hm
  have w2 : RC Try.prog W 41 [.slice a2 len2 cap2] := by
    obtain ⟨fuel, hf⟩ := h2
    exact ⟨_, _, _, _, _, fuel, _, hf⟩
  clear hA0 hval0
  refine (walk cs0 cs1 a2 len2 cap2 W w0 w1 w2).mono fun e W' ⟨he, bel⟩ => ?_
  subst he
  exact ⟨_, rfl, _, _, _, [], _, [], hW', trodAll_mk1 (shut_bool Try.underlying4 _), (trodAll_cons_mk (Below.trod laidOut (by kernel_rfl) (of_decide_eq_true (by kernel_rfl)) k0 bel lt0) (trodAll_cons_mk (Below.trod laidOut (by kernel_rfl) (of_decide_eq_true (by kernel_rfl)) k1 bel lt1) (trodAll_cons_mk (Below.trod laidOut (by kernel_rfl) (of_decide_eq_true (by kernel_rfl)) k2 bel lt2) trodAll_mk0))), rfl, bel.frame _, fun h => by cases h⟩

theorem over : Rows.queryOwnsRow.holds Try.pinned (OpenSpec.ofChange Rows.queryOwnsSpec) :=
  OpenClaim.holds_of_wide 7 Try.f7 rfl rfl rfl rfl rfl rfl rfl ⟨rfl, rfl, rfl, rfl, rfl⟩ rfl rfl rfl rfl rfl (by kernel_rfl) Try.func7 (by kernel_rfl)
    (of_decide_eq_true (by kernel_rfl)) (by unfold Func.isWrapper; first | (rw [if_pos (by decide +kernel)]; kernel_rfl) | (rw [if_neg (by decide +kernel)]; exact ⟨rfl, rfl⟩))
    (fun os started H enc _ => lifted os started H enc)

theorem proved : Rows.QueryOwnsSaid := over
end Go.Proofs.Ytmcccpbpijnbmaa.queryOwns
