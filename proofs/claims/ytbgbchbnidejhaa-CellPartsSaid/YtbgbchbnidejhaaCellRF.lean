/- Layer 5: the reference: Fold. -/
import Derived.Test.YtbgbchbnidejhaaCellRG
namespace Go.Proofs.Ytbgbchbnidejhaa
open Go.RowKit

theorem colI_len (L : List (List Int)) (k : Nat) : (colI L k).length = L.length := by simp [colI]
theorem colI_at {L : List (List Int)} {k j : Nat} (hj : j < L.length) : (colI L k).getD j 0 = (L.getD j []).getD k 0 := by
  simp [colI, List.getD_eq_getElem?_getD, hj]
theorem min_snoc {l : List Int} {x0 y : Int} {j : Nat} (hj : j < l.length) (hy : l.getD j 0 = y) : minL (x0 :: l.take (j + 1)) = min (minL (x0 :: l.take j)) y := by
  rw [← take_snoc hj hy, ← List.cons_append]
  exact minL_snoc (by simp) _
theorem max_snoc {l : List Int} {x0 y : Int} {j : Nat} (hj : j < l.length) (hy : l.getD j 0 = y) : maxL (x0 :: l.take (j + 1)) = max (maxL (x0 :: l.take j)) y := by
  rw [← take_snoc hj hy, ← List.cons_append]
  exact maxL_snoc (by simp) _
theorem min_head {l : List Int} (hl : 0 < l.length) : minL (l.getD 0 0 :: l) = minL l := by
  cases l with
  | nil => simp at hl
  | cons x l => show minL (x :: x :: l) = _; exact minL_same (by simp) (by simp) fun y => by simp
theorem max_head {l : List Int} (hl : 0 < l.length) : maxL (l.getD 0 0 :: l) = maxL l := by
  cases l with
  | nil => simp at hl
  | cons x l => show maxL (x :: x :: l) = _; exact maxL_same (by simp) (by simp) fun y => by simp

set_option maxRecDepth 100000 in
set_option maxHeartbeats 4000000 in
theorem refFold_any (x : Int) {A : Option Addr} {n c : Nat} {L : List (List Int)} {w : World} (h : HasL w w.heap.size A n c L) (hn : n ≤ 1000) :
    Calls Try.prog 12 #[.int .i64 x, .slice A n c] w (TellC w (cFold x L)) := by
  have hll := Lib.hid h.len
  have hcm := h.capMax
  have hcap := h.cap
  have hb0 := below_a1 w (.cells #[.int .i64 0, .slice none 0 0, .slice none 0 0, .slice none 0 0] 26)
  have hR := Block.new w 26 #[.int .i64 0, .slice none 0 0, .slice none 0 0, .slice none 0 0]
  by_cases hx0 : x < 0
  · have hZ : Hid (cFold x L = (zeroC, 1)) := Lib.hid (cFold_arg (.inl hx0))
    go_enter Try.func12, Try.ntmps12
    go_wp2_with fail
    refine bodyPost_ret (results_block2 rfl _ _ w.heap.size _ _ rfl hR Try.underlying26 rfl info_cell) rfl ?_
    rw [hZ.out]
    exact ⟨⟨_, _, _, rfl, zeroC_own _ _⟩, hb0⟩
  · by_cases hx2 : 2 < x
    · have hZ : Hid (cFold x L = (zeroC, 1)) := Lib.hid (cFold_arg (.inr (.inl hx2)))
      go_enter Try.func12, Try.ntmps12
      go_wp2_with fail
      refine bodyPost_ret (results_block2 rfl _ _ w.heap.size _ _ rfl hR Try.underlying26 rfl info_cell) rfl ?_
      rw [hZ.out]
      exact ⟨⟨_, _, _, rfl, zeroC_own _ _⟩, hb0⟩
    · obtain ⟨m, rfl⟩ : ∃ m : Nat, x = (m : Int) := ⟨x.toNat, by omega⟩
      have hm2 : m ≤ 2 := by omega
      go_enter Try.func12, Try.ntmps12
      go_wp2_with fail
      have h1 := h.below hb0 (Nat.le_refl _)
      generalize w.alloc (.cells #[.int .i64 0, .slice none 0 0, .slice none 0 0, .slice none 0 0] 26) = w1 at hb0 hR h1 ⊢
      clear h
      have r0 : w1.cell? ⟨w.heap.size, 0, none⟩ = some (.int .i64 0) := hR.cell 0
      have r1 : w1.cell? ⟨w.heap.size, 1, none⟩ = some (.slice none 0 0) := hR.cell 1
      have r2 : w1.cell? ⟨w.heap.size, 2, none⟩ = some (.slice none 0 0) := hR.cell 2
      have r3 : w1.cell? ⟨w.heap.size, 3, none⟩ = some (.slice none 0 0) := hR.cell 3
      have f0 := hR.free 0
      have f1 := hR.free 1
      have f2 := hR.free 2
      have f3 := hR.free 3
      go_loopw [6, 7] (fun i _ wr => ∃ k : Nat, k ≤ n ∧ i = .int .i64 k ∧ Hid (∀ j, j < k → isVal m (L.getD j [])) ∧ w1 = wr) (fun i _ _ => n - (intOf i).toNat)
      case atStart => exact ⟨0, Nat.zero_le _, rfl, Lib.hid fun j hj => absurd hj (by omega), rfl⟩
      case round =>
        obtain ⟨k, hk, rfl, hJ, rfl⟩ := hrel
        by_cases hlt : k < n
        · obtain ⟨b, o, A', n', c', l, rfl, hb, g0, hl, he⟩ := h1.at_ hlt
          have i0 : (0 : Int) ≤ (k : Int) := by omega
          have i1 : (k : Int) < (n : Int) := by omega
          obtain ⟨r, hr⟩ : ∃ r : Bool, Hid (r = true ↔ isVal (m : Int) l) := ⟨decide (isVal (m : Int) l), Lib.hid (by simp)⟩
          have HV := Lib.hid (refValues_any (w := w1) (m : Int) (hl.more hb0.size) hr.out)
          clear hl
          cases r
          · have hZ : Hid (cFold m L = (zeroC, 1)) := Lib.hid (cFold_arg (.inr (.inr ⟨l, by
              rw [he.out, List.getD_eq_getElem?_getD, List.getElem?_eq_getElem (by rw [hll.out]; exact hlt)]
              exact List.getElem_mem _, fun h => by cases hr.out.2 h⟩)))
            go_wp2_with fail
            refine HV.out.mono ?_
            rintro e w5 ⟨rfl, rfl⟩
            have hRR := Lib.hid (hR.put4_ (.int .i64 0) (.slice none 0 0) (.slice none 0 0) (.slice none 0 0))
            have hRB := Lib.hid (below_put4 hb0 (Nat.le_refl _) (.int .i64 0) (.slice none 0 0) (.slice none 0 0) (.slice none 0 0))
            go_wp2_with fail
            refine bodyPost_ret (results_block2 rfl _ _ w.heap.size _ _ rfl hRR.out Try.underlying26 rfl info_cell) rfl ?_
            rw [hZ.out]
            exact ⟨⟨_, _, _, rfl, zeroC_own _ _⟩, hRB.out⟩
          · have hJ2 : Hid (∀ j, j < k + 1 → isVal m (L.getD j [])) := Lib.hid fun j hj => by
              by_cases h : j < k
              · exact hJ.out j h
              · obtain rfl : j = k := by omega
                rw [← he.out]; exact hr.out.1 rfl
            go_wp2_with fail
            refine HV.out.mono ?_
            rintro e w5 ⟨rfl, rfl⟩
            go_wp2_with fail
            go_roundw
            case rel => exact ⟨k + 1, by omega, by go_num, hJ2, by first | rfl | trivial⟩
            case measure => simp [intOf]; omega
        · obtain rfl : k = n := by omega
          have HV : Hid (∀ v ∈ L, isVal m v) := Lib.hid fun v hv => by
            obtain ⟨j, hj, rfl⟩ := List.mem_iff_getElem.1 hv
            have := hJ.out j (by rw [← hll.out]; exact hj)
            rwa [List.getD_eq_getElem?_getD, List.getElem?_eq_getElem hj] at this
          have HJ := hJ
          have hnn : ¬ ((m : Int) < 0 ∨ 2 < (m : Int)) := by omega
          clear hk hlt
          by_cases hk0 : k = 0
          · subst hk0
            have hL0 : L = [] := List.eq_nil_of_length_eq_zero hll.out
            have hZ : Hid (cFold m L = (cEmpty m, 0)) := Lib.hid (by rw [hL0]; have := cFold_none hnn; rwa [Int.toNat_natCast] at this)
            clear hL0 hnn
            go_wp2_with fail
            refine (refEmpty_any (m : Int) _ (m := m) (by omega)).mono ?_
            rintro e w5 ⟨⟨v1, v2, v3, rfl, ho, _⟩, hb5⟩
            have hrl := hR.lt
            have hR5 := hR.below hb5 hR.lt
            have hbe5 := below_then hb0 hb5
            clear r0 r1 r2 r3 f0 f1 f2 f3
            have r0 : w5.cell? ⟨w.heap.size, 0, none⟩ = some (.int .i64 0) := hR5.cell 0
            have r1 : w5.cell? ⟨w.heap.size, 1, none⟩ = some (.slice none 0 0) := hR5.cell 1
            have r2 : w5.cell? ⟨w.heap.size, 2, none⟩ = some (.slice none 0 0) := hR5.cell 2
            have r3 : w5.cell? ⟨w.heap.size, 3, none⟩ = some (.slice none 0 0) := hR5.cell 3
            have f0 := hR5.free 0
            have f1 := hR5.free 1
            have f2 := hR5.free 2
            have f3 := hR5.free 3
            obtain ⟨E1, l1, d1, rfl, _⟩ := ho.s.formN
            obtain ⟨E2, l2, d2, rfl, _⟩ := ho.m.formN
            obtain ⟨E3, l3, d3, rfl, _⟩ := ho.x.formN
            have hRR := Lib.hid (hR5.put4_ (.int .i64 0) (.slice E1 l1 d1) (.slice E2 l2 d2) (.slice E3 l3 d3))
            have hRB := Lib.hid (below_put4 hbe5 (Nat.le_refl _) (.int .i64 0) (.slice E1 l1 d1) (.slice E2 l2 d2) (.slice E3 l3 d3))
            have hRO := Lib.hid ((ho.put4_ hrl (.int .i64 0) (.slice E1 l1 d1) (.slice E2 l2 d2) (.slice E3 l3 d3)).low (Nat.le_of_lt hrl))
            clear ho hb5
            go_wp2_with fail
            refine bodyPost_ret (results_block2 rfl _ _ w.heap.size _ _ rfl hRR.out Try.underlying26 rfl info_cell) rfl ?_
            rw [hZ.out]
            exact ⟨⟨_, _, _, rfl, hRO.out⟩, hRB.out⟩
          · have e0 : ((k : Int) == 0) = false := by simpa using hk0
            have hLne : L ≠ [] := fun e => hk0 (by rw [← hll.out, e]; rfl)
            obtain ⟨Fs, Fm, Fx, hF⟩ : ∃ Fs Fm Fx, Hid (foldC m L = ((k : Int), Fs, Fm, Fx)) := ⟨_, _, _, Lib.hid (by rw [← hll.out]; rfl)⟩
            have hZp : Hid (cFold m L = if ∀ j, j < m → inS (sumI (colI L j)) then (((k : Int), Fs, Fm, Fx), 0) else (zeroC, 14)) := Lib.hid (by
              have := cFold_all hnn HV.out hLne
              rwa [Int.toNat_natCast, hF.out] at this)
            have lF : Hid (Fs.length = m ∧ Fm.length = m ∧ Fx.length = m) := Lib.hid (by have := foldC_length m L; rwa [hF.out] at this)
            have gF : Hid (∀ j, j < m → Fs.getD j 0 = sumI (colI L j) ∧ Fm.getD j 0 = minL (colI L j) ∧ Fx.getD j 0 = maxL (colI L j)) := Lib.hid fun j hj => by have := foldC_get L hj; rwa [hF.out] at this
            clear hnn hLne
            go_wp2_with fail
            have hA := Acc.new (w0 := w1) (Block.new w1 26 #[.int .i64 (k : Int), .slice none 0 0, .slice none 0 0, .slice none 0 0]) (below_a1 w1 _) (Nat.le_refl _)
            generalize w1.alloc (.cells #[.int .i64 (k : Int), .slice none 0 0, .slice none 0 0, .slice none 0 0] 26) = ws at hA ⊢
            obtain ⟨s, hss⟩ : ∃ s, Hid (w1.heap.size = s) := ⟨_, Lib.hid rfl⟩
            have hA : Acc w1 ws w1.heap.size (k : Int) (.slice none 0 0) (.slice none 0 0) (.slice none 0 0) (Fs.take 0) (Fm.take 0) (Fx.take 0) := hA
            have hA : Acc w1 ws s (k : Int) (.slice none 0 0) (.slice none 0 0) (.slice none 0 0) (Fs.take 0) (Fm.take 0) (Fx.take 0) := by rw [← hss.out]; exact hA
            rw [hss.out]
            clear r0 r1 r2 r3 f0 f1 f2 f3 e0
            go_loopw [9] (fun i wr => ∃ (p : Nat) (v1 v2 v3 : Value), p ≤ m ∧ i = .int .i64 p ∧ Hid (∀ j, j < p → inS (sumI (colI L j))) ∧ Acc w1 wr s (k : Int) v1 v2 v3 (Fs.take p) (Fm.take p) (Fx.take p)) (fun i _ => m - (intOf i).toNat)
            case atStart => exact ⟨0, _, _, _, Nat.zero_le _, rfl, Lib.hid fun j hj => absurd hj (by omega), hA⟩
            case round =>
              obtain ⟨p, v1, v2, v3, hp, rfl, hQ, hT⟩ := hrel
              clear hA
              have hRr := hR.below hT.bel hR.lt
              have hzr := hT.bel.size
              have hber := hb0.trans (hT.bel.mono hb0.size)
              have hr := (h1.more hb0.size).below hT.bel (Nat.le_refl _)
              obtain ⟨E1, l1, d1, rfl, _⟩ := hT.r1.formN
              obtain ⟨E2, l2, d2, rfl, _⟩ := hT.r2.formN
              obtain ⟨E3, l3, d3, rfl, _⟩ := hT.r3.formN
              by_cases hlt : p < m
              · -- GO
                have hz1 : w1.heap.size ≤ w1.heap.size := Nat.le_refl _
                obtain ⟨b, o, A0, n0, c0, l0, hAe, hbb, g0, hl0, he0⟩ := hr.at_ (k := 0) (by omega)
                subst hAe
                have hv0 : isVal (m : Int) l0 := by rw [he0.out]; exact HJ.out 0 (by omega)
                obtain rfl : n0 = m := by have h1 := hl0.len; have h2 := hv0.1; omega
                rw [Nat.add_zero] at g0
                obtain ⟨b0, o0, x0, rfl, hb0', cx0, ex0⟩ := hl0.at_ hlt
                have hx0 : Hid ((colI L p).getD 0 0 = x0) := Lib.hid (by rw [colI_at (by rw [hll.out]; omega), ← he0.out, ← ex0.out])
                have i0 : (0 : Int) ≤ (p : Int) := by omega
                have i1 : (p : Int) < (n0 : Int) := by omega
                have i2 : (0 : Int) < (k : Int) := by omega
                clear hv0 ex0 he0 hl0
                go_wp2_with fail
                obtain ⟨wo, rfl⟩ : ∃ wo, wo = wr := ⟨_, rfl⟩
                go_loopw [10, 11, 12, 13] (fun v lo hi i wi => ∃ (j : Nat) (y z : Int) (v' : Value), j ≤ k ∧ lo = .int .i64 y ∧ hi = .int .i64 z ∧ i = .int .i64 j ∧ v = v' ∧ Hid (y = minL (x0 :: (colI L p).take j) ∧ z = maxL (x0 :: (colI L p).take j)) ∧ OwnI wi wo.heap.size v' ((colI L p).take j) ∧ Below wo.heap.size wo wi) (fun _ _ _ i _ => k - (intOf i).toNat)
                case atStart => exact ⟨0, x0, x0, _, Nat.zero_le _, rfl, rfl, rfl, rfl, Lib.hid ⟨rfl, rfl⟩, OwnI.nil_ _ _, Below.refl _ _⟩
                case round =>
                  obtain ⟨j, y, z, v', hj, rfl, rfl, rfl, rfl, hX, hO, hbi⟩ := hrel
                  by_cases hjk : j < k
                  · obtain ⟨b', o', A', n', c', l, hAe, hbb', gj, hl, hej⟩ := (hr.below hbi hzr).at_ hjk
                    injection hAe with hAe
                    injection hAe with hAe1 hAe2
                    subst hAe1 hAe2
                    have hvj : isVal (n0 : Int) l := by rw [hej.out]; exact HJ.out j hjk
                    have hn' : n' = n0 := by have h1 := hl.len; have h2 := hvj.1; omega
                    subst hn'
                    obtain ⟨bq, oq, t, rfl, hbq, cq, eq⟩ := hl.at_ hlt
                    have hyc : Hid ((colI L p).getD j 0 = t) := Lib.hid (by rw [colI_at (by rw [hll.out]; exact hjk), ← hej.out, ← eq.out])
                    have hjl : Hid (j < (colI L p).length) := Lib.hid (by rw [colI_len, hll.out]; exact hjk)
                    have j0 : (0 : Int) ≤ (j : Int) := by omega
                    have j1 : (j : Int) < (k : Int) := by omega
                    obtain ⟨E, le, de, rfl, _⟩ := hO.formN
                    have hzi := hbi.size
                    clear eq hej hvj hl g0 cx0
                    go_wp2_with (at_builtin; refine wpList_appI rfl _ _ rfl wo.heap.size _ _ rfl (hO.alloc _) _ rfl t (cell_lit _ _ _ _ (by simp)) (Nat.le_trans (List.length_take_le j _) (by omega)) (by rw [World.size_alloc]; omega) ?_)
                    intro u wj hO2 hG2
                    obtain ⟨E', le', de', rfl, _⟩ := hO2.formN
                    rw [take_snoc hjl.out hyc.out] at hO2
                    have hbj : Below wo.heap.size wo wj := (hbi.alloc hzi _).trans (hG2.below_ (by simp; omega) fun q e => (hO.lt q e).1)
                    have hOj := Lib.hid hO2
                    have hBj := Lib.hid hbj
                    have hrj := hr.below hbj hzr
                    clear gj cq
                    obtain ⟨b5, o5, A5, n5, c5, l5, hAe, _, gj, hl5, hej5⟩ := hrj.at_ hjk
                    injection hAe with hAe
                    injection hAe with hAe1 hAe2
                    subst hAe1 hAe2
                    have hn5 : n5 = n' := by
                      have h1 := hl5.len
                      have h2 := (HJ.out j hjk).1
                      rw [← hej5.out] at h2
                      omega
                    subst hn5
                    obtain ⟨b6, o6, t6, rfl, _, c6, e6⟩ := hl5.at_ hlt
                    obtain rfl : t6 = t := by rw [e6.out, hej5.out, ← colI_at (by rw [hll.out]; exact hjk)]; exact hyc.out
                    clear hO2 hbj hG2 hO hbi hrj hl5 hej5 e6
                    by_cases hm : t6 < y
                    · by_cases hg : z < t6
                      · have hX2 : Hid (t6 = minL (x0 :: (colI L p).take (j + 1)) ∧ t6 = maxL (x0 :: (colI L p).take (j + 1))) := Lib.hid (by
                          rw [min_snoc hjl.out hyc.out, max_snoc hjl.out hyc.out, ← hX.out.1, ← hX.out.2]
                          omega)
                        clear hX hyc hjl
                        go_wp2_with fail
                        go_roundw
                        case rel => exact ⟨j + 1, _, _, _, by omega, rfl, rfl, by go_num, rfl, hX2, hOj.out, hBj.out⟩
                        case measure => simp [intOf]; omega
                      · have hX2 : Hid (t6 = minL (x0 :: (colI L p).take (j + 1)) ∧ z = maxL (x0 :: (colI L p).take (j + 1))) := Lib.hid (by
                          rw [min_snoc hjl.out hyc.out, max_snoc hjl.out hyc.out, ← hX.out.1, ← hX.out.2]
                          omega)
                        clear hX hyc hjl
                        go_wp2_with fail
                        go_roundw
                        case rel => exact ⟨j + 1, _, _, _, by omega, rfl, rfl, by go_num, rfl, hX2, hOj.out, hBj.out⟩
                        case measure => simp [intOf]; omega
                    · by_cases hg : z < t6
                      · have hX2 : Hid (y = minL (x0 :: (colI L p).take (j + 1)) ∧ t6 = maxL (x0 :: (colI L p).take (j + 1))) := Lib.hid (by
                          rw [min_snoc hjl.out hyc.out, max_snoc hjl.out hyc.out, ← hX.out.1, ← hX.out.2]
                          omega)
                        clear hX hyc hjl
                        go_wp2_with fail
                        go_roundw
                        case rel => exact ⟨j + 1, _, _, _, by omega, rfl, rfl, by go_num, rfl, hX2, hOj.out, hBj.out⟩
                        case measure => simp [intOf]; omega
                      · have hX2 : Hid (y = minL (x0 :: (colI L p).take (j + 1)) ∧ z = maxL (x0 :: (colI L p).take (j + 1))) := Lib.hid (by
                          rw [min_snoc hjl.out hyc.out, max_snoc hjl.out hyc.out, ← hX.out.1, ← hX.out.2]
                          omega)
                        clear hX hyc hjl
                        go_wp2_with fail
                        go_roundw
                        case rel => exact ⟨j + 1, _, _, _, by omega, rfl, rfl, by go_num, rfl, hX2, hOj.out, hBj.out⟩
                        case measure => simp [intOf]; omega
                  · obtain rfl : j = k := by omega
                    have hT5 := hT.below hbi
                    have hRr5 := hRr.below hbi hRr.lt
                    have hber5 := hber.trans (hbi.mono hber.size)
                    have hcl : Hid ((colI L p).take j = colI L p) := Lib.hid (List.take_of_length_le (by rw [colI_len, hll.out]; exact Nat.le_refl _))
                    rw [hcl.out] at hX hO
                    have hpos : Hid (0 < (colI L p).length) := Lib.hid (by rw [colI_len, hll.out]; omega)
                    have hyz : Hid (Fm.getD p 0 = y ∧ Fx.getD p 0 = z) := Lib.hid (by
                      have h1 := gF.out p hlt
                      rw [h1.2.1, h1.2.2, hX.out.1, hX.out.2, ← hx0.out, min_head hpos.out, max_head hpos.out]
                      exact ⟨rfl, rfl⟩)
                    obtain ⟨E, le, de, rfl, hE, _⟩ := hO.formN
                    obtain ⟨sm, bm, hs⟩ : ∃ sm bm, Hid (TotIs (sumI (colI L p)) sm bm) := by
                      obtain ⟨z, b, h⟩ := totIs_any (sumI (colI L p))
                      exact ⟨z, b, Lib.hid h⟩
                    have hI2 : I64 (colI L p) := by
                      intro q hq
                      have := colI_val (m := n0) HV.out hlt q hq
                      unfold inV at this
                      omega
                    have HT := Lib.hid (refTot_any hE (by have := hE.len; rw [colI_len, hll.out] at this; omega) hI2 hs.out)
                    clear hI2 hE hO hT hRr hber hr cx0 g0 hX hcl hpos
                    have hzi := hbi.size
                    go_wp2_with fail
                    refine HT.out.mono ?_
                    rintro e w5 ⟨rfl, hb5⟩
                    have hT6 := hT5.below hb5
                    have hR6 := hRr5.below hb5 hRr5.lt
                    have hbe6 := hber5.trans (hb5.mono hber5.size)
                    clear hT5 hRr5 hber5 hbi hb5 HT
                    rcases hs.out with ⟨hin, hz, rfl⟩ | ⟨hin, rfl, _⟩
                    · have hy : Hid (Fs.getD p 0 = sm) := Lib.hid ((gF.out p hlt).1.trans hz.symm)
                      have hQ2 : Hid (∀ j, j < p + 1 → inS (sumI (colI L j))) := Lib.hid fun j hj => by
                        by_cases h : j < p
                        · exact hQ.out j h
                        · obtain rfl : j = p := by omega
                          exact hin
                      clear hin hz hs hR6 hbe6 hQ
                      have g1 : w5.cell? ⟨s, 1, none⟩ = some (.slice E1 l1 d1) := hT6.blk.cell 1
                      go_wp2_with (at_builtin; refine wpList_appI rfl _ _ rfl w1.heap.size _ _ rfl (hT6.alloc _).r1 _ rfl sm (cell_lit _ _ _ _ (by simp)) (Nat.le_trans (List.length_take_le p _) (by omega)) (hT6.alloc _).bel.size ?_)
                      intro u1 w11 hO1 hG1
                      obtain ⟨F1, j1, t1, rfl, _⟩ := hO1.formN
                      obtain ⟨hB1, hA1⟩ := (hT6.alloc _).app1 hO1 hG1
                      have x0' := hB1.cell 1
                      have x1' := hB1.free 1
                      have x2 : (w11.setCell ⟨s, 1, none⟩ (.slice F1 j1 t1)).cell? ⟨s, 2, none⟩ = some (.slice E2 l2 d2) := hA1.blk.cell 2
                      clear hT6 g1 hO1 hG1 hB1
                      go_wp2_with (at_builtin; refine wpList_appI rfl _ _ rfl w1.heap.size _ _ rfl (hA1.alloc _).r2 _ rfl y (cell_lit _ _ _ _ (by simp)) (Nat.le_trans (List.length_take_le p _) (by omega)) (hA1.alloc _).bel.size ?_)
                      intro u2 w12 hO2 hG2
                      obtain ⟨F2, j2, t2, rfl, _⟩ := hO2.formN
                      obtain ⟨hB2, hA2⟩ := (hA1.alloc _).app2 hO2 hG2
                      have y0 := hB2.cell 2
                      have y1 := hB2.free 2
                      have y2 : (w12.setCell ⟨s, 2, none⟩ (.slice F2 j2 t2)).cell? ⟨s, 3, none⟩ = some (.slice E3 l3 d3) := hA2.blk.cell 3
                      clear hA1 x0' x1' x2 hO2 hG2 hB2
                      go_wp2_with (at_builtin; refine wpList_appI rfl _ _ rfl w1.heap.size _ _ rfl (hA2.alloc _).r3 _ rfl z (cell_lit _ _ _ _ (by simp)) (Nat.le_trans (List.length_take_le p _) (by omega)) (hA2.alloc _).bel.size ?_)
                      intro u3 w13 hO3 hG3
                      obtain ⟨F3, j3, t3, rfl, _⟩ := hO3.formN
                      obtain ⟨hB3, hA3⟩ := (hA2.alloc _).app3 hO3 hG3
                      have z0 := hB3.cell 3
                      have z1 := hB3.free 3
                      rw [take_snoc (by rw [lF.out.1]; exact hlt) hy.out, take_snoc (by rw [lF.out.2.1]; exact hlt) hyz.out.1, take_snoc (by rw [lF.out.2.2]; exact hlt) hyz.out.2] at hA3
                      have hA4 := Lib.hid hA3
                      clear hA2 y0 y1 y2 hO3 hG3 hB3 hA3
                      go_wp2_with fail
                      go_roundw
                      case rel => exact ⟨p + 1, _, _, _, by omega, by go_num, hQ2, hA4.out⟩
                      case measure => simp [intOf]; omega
                    · have hZ : Hid (cFold n0 L = (zeroC, 14)) := Lib.hid (by
                        rw [hZp.out, if_neg]
                        intro h
                        exact hin (h p hlt))
                      clear hin hs hT6
                      have r0 : w5.cell? ⟨w.heap.size, 0, none⟩ = some (.int .i64 0) := hR6.cell 0
                      have r1 : w5.cell? ⟨w.heap.size, 1, none⟩ = some (.slice none 0 0) := hR6.cell 1
                      have r2 : w5.cell? ⟨w.heap.size, 2, none⟩ = some (.slice none 0 0) := hR6.cell 2
                      have r3 : w5.cell? ⟨w.heap.size, 3, none⟩ = some (.slice none 0 0) := hR6.cell 3
                      have f0 := hR6.free 0
                      have f1 := hR6.free 1
                      have f2 := hR6.free 2
                      have f3 := hR6.free 3
                      have hRR := Lib.hid (hR6.put4_ (.int .i64 0) (.slice none 0 0) (.slice none 0 0) (.slice none 0 0))
                      have hRB := Lib.hid (below_put4 hbe6 (Nat.le_refl _) (.int .i64 0) (.slice none 0 0) (.slice none 0 0) (.slice none 0 0))
                      go_wp2_with fail
                      refine bodyPost_ret (results_block2 rfl _ _ w.heap.size _ _ rfl hRR.out Try.underlying26 rfl info_cell) rfl ?_
                      rw [hZ.out]
                      exact ⟨⟨_, _, _, rfl, zeroC_own _ _⟩, hRB.out⟩
              · obtain rfl : p = m := by omega
                have hS1 : Fs.take p = Fs := List.take_of_length_le (by rw [lF.out.1]; exact Nat.le_refl _)
                have hS2 : Fm.take p = Fm := List.take_of_length_le (by rw [lF.out.2.1]; exact Nat.le_refl _)
                have hS3 : Fx.take p = Fx := List.take_of_length_le (by rw [lF.out.2.2]; exact Nat.le_refl _)
                rw [hS1, hS2, hS3] at hT
                have s0 : wr.cell? ⟨s, 0, none⟩ = some (.int .i64 (k : Int)) := hT.blk.cell 0
                have s1 : wr.cell? ⟨s, 1, none⟩ = some (.slice E1 l1 d1) := hT.blk.cell 1
                have s2 : wr.cell? ⟨s, 2, none⟩ = some (.slice E2 l2 d2) := hT.blk.cell 2
                have s3 : wr.cell? ⟨s, 3, none⟩ = some (.slice E3 l3 d3) := hT.blk.cell 3
                have hrl : w.heap.size < w1.heap.size := hR.lt
                have r0 : wr.cell? ⟨w.heap.size, 0, none⟩ = some (.int .i64 0) := hRr.cell 0
                have r1 : wr.cell? ⟨w.heap.size, 1, none⟩ = some (.slice none 0 0) := hRr.cell 1
                have r2 : wr.cell? ⟨w.heap.size, 2, none⟩ = some (.slice none 0 0) := hRr.cell 2
                have r3 : wr.cell? ⟨w.heap.size, 3, none⟩ = some (.slice none 0 0) := hRr.cell 3
                have f0 := hRr.free 0
                have f1 := hRr.free 1
                have f2 := hRr.free 2
                have f3 := hRr.free 3
                have hZ : Hid (cFold p L = (((k : Int), Fs, Fm, Fx), 0)) := Lib.hid (by rw [hZp.out, if_pos hQ.out])
                have hO := hT.own.put4_ hrl (.int .i64 (k : Int)) (.slice E1 l1 d1) (.slice E2 l2 d2) (.slice E3 l3 d3)
                have hRR := Lib.hid (hRr.put4_ (.int .i64 (k : Int)) (.slice E1 l1 d1) (.slice E2 l2 d2) (.slice E3 l3 d3))
                have hRB := Lib.hid (below_put4 hber (Nat.le_refl _) (.int .i64 (k : Int)) (.slice E1 l1 d1) (.slice E2 l2 d2) (.slice E3 l3 d3))
                have hRO := Lib.hid (hO.low (Nat.le_of_lt hrl))
                clear hO hT hr
                go_wp2_with fail
                refine bodyPost_ret (results_block2 rfl _ _ w.heap.size _ _ rfl hRR.out Try.underlying26 rfl info_cell) rfl ?_
                rw [hZ.out]
                exact ⟨⟨_, _, _, rfl, hRO.out⟩, hRB.out⟩
end Go.Proofs.Ytbgbchbnidejhaa
