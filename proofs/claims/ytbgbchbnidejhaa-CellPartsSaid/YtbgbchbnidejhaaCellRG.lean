/- Layer 5: the reference: Merge. -/
import Derived.Test.YtbgbchbnidejhaaCellRM
namespace Go.Proofs.Ytbgbchbnidejhaa
open Go.RowKit

theorem take_snoc {l : List Int} {k : Nat} (h : k < l.length) {y : Int} (hy : l.getD k 0 = y) : l.take k ++ [y] = l.take (k + 1) := by
  rw [List.take_add_one, ← hy, List.getD_eq_getElem?_getD, List.getElem?_eq_getElem h]
  rfl
theorem cMay_len {q : Int} {S M X : List Int} (h : cMay (q, S, M, X)) : S.length ≤ 2 ∧ M.length = S.length ∧ X.length = S.length ∧ 0 ≤ q ∧ q ≤ 1099511627776 := by
  obtain ⟨h1, h2, h3, h4, h5, _⟩ := (cMay_iff q S M X).1 h
  exact ⟨h1, h2, h3, h4, h5⟩

set_option maxRecDepth 100000 in
set_option maxHeartbeats 4000000 in
theorem refMerge_any {q q' : Int} {A1 A2 A3 B1 B2 B3 : Option Addr} {n1 c1 n2 c2 n3 c3 m1 d1 m2 d2 m3 d3 : Nat} {S M X S' M' X' : List Int} {w : World}
    (ha0 : HasC w w.heap.size A1 n1 c1 A2 n2 c2 A3 n3 c3 S M X) (hb0 : HasC w w.heap.size B1 m1 d1 B2 m2 d2 B3 m3 d3 S' M' X') :
    Calls Try.prog 16 #[cellV q A1 n1 c1 A2 n2 c2 A3 n3 c3, cellV q' B1 m1 d1 B2 m2 d2 B3 m3 d3] w (TellH w (cMerge (q, S, M, X) (q', S', M', X'))) := by
  have lA := Lib.hid (And.intro ha0.s.len (And.intro ha0.m.len ha0.x.len))
  have lB := Lib.hid (And.intro hb0.s.len (And.intro hb0.m.len hb0.x.len))
  have z1 := ha0.s.lenMax
  have z2 := hb0.s.lenMax
  have hbe := below_a3 w (.cells #[.int .i64 q, .slice A1 n1 c1, .slice A2 n2 c2, .slice A3 n3 c3] 26) (.cells #[.int .i64 q', .slice B1 m1 d1, .slice B2 m2 d2, .slice B3 m3 d3] 26) (.cells #[.int .i64 0, .slice none 0 0, .slice none 0 0, .slice none 0 0] 26)
  have hL := ((Block.new w 26 #[.int .i64 q, .slice A1 n1 c1, .slice A2 n2 c2, .slice A3 n3 c3]).alloc (.cells #[.int .i64 q', .slice B1 m1 d1, .slice B2 m2 d2, .slice B3 m3 d3] 26)).alloc (.cells #[.int .i64 0, .slice none 0 0, .slice none 0 0, .slice none 0 0] 26)
  have hK := (Block.new (w.alloc (.cells #[.int .i64 q, .slice A1 n1 c1, .slice A2 n2 c2, .slice A3 n3 c3] 26)) 26 #[.int .i64 q', .slice B1 m1 d1, .slice B2 m2 d2, .slice B3 m3 d3]).alloc (.cells #[.int .i64 0, .slice none 0 0, .slice none 0 0, .slice none 0 0] 26)
  have hR := Block.new ((w.alloc (.cells #[.int .i64 q, .slice A1 n1 c1, .slice A2 n2 c2, .slice A3 n3 c3] 26)).alloc (.cells #[.int .i64 q', .slice B1 m1 d1, .slice B2 m2 d2, .slice B3 m3 d3] 26)) 26 #[.int .i64 0, .slice none 0 0, .slice none 0 0, .slice none 0 0]
  simp only [World.size_alloc] at hK hR
  have ha := ha0.belowS hbe
  have hb := hb0.belowS hbe
  obtain ⟨r, hr⟩ : ∃ r : Bool, Hid (r = true ↔ cMay (q, S, M, X)) := ⟨decide (cMay (q, S, M, X)), Lib.hid (by simp)⟩
  obtain ⟨r', hr'⟩ : ∃ r : Bool, Hid (r = true ↔ cMay (q', S', M', X')) := ⟨decide (cMay (q', S', M', X')), Lib.hid (by simp)⟩
  go_enter Try.func16, Try.ntmps16
  go_wp2_with fail
  generalize ((w.alloc (.cells #[.int .i64 q, .slice A1 n1 c1, .slice A2 n2 c2, .slice A3 n3 c3] 26)).alloc (.cells #[.int .i64 q', .slice B1 m1 d1, .slice B2 m2 d2, .slice B3 m3 d3] 26)).alloc (.cells #[.int .i64 0, .slice none 0 0, .slice none 0 0, .slice none 0 0] 26) = w1 at hbe hL hK hR ha hb ⊢
  have hp3 : w.heap.size ≤ w.heap.size + 1 + 1 := by omega
  obtain ⟨p2, hp2⟩ : ∃ p, Hid (w.heap.size + 1 = p) := ⟨_, Lib.hid rfl⟩
  obtain ⟨p3, hpp3⟩ : ∃ p, Hid (w.heap.size + 1 + 1 = p) := ⟨_, Lib.hid rfl⟩
  rw [hpp3.out] at hR hp3 ⊢
  rw [hp2.out] at hK ⊢
  refine (refMay_any5 (n := q) ha (r := r) hr.out).mono ?_
  rintro e w2 ⟨rfl, hb1⟩
  have hL := hL.below hb1 hL.lt
  have hK := hK.below hb1 hK.lt
  have hR := hR.below hb1 hR.lt
  have ha := ha.belowS hb1
  have hb := hb.belowS hb1
  have hbe := below_then hbe hb1
  clear hb1
  have a0 : w2.cell? ⟨w.heap.size, 0, none⟩ = some (.int .i64 q) := hL.cell 0
  have a1 : w2.cell? ⟨w.heap.size, 1, none⟩ = some (.slice A1 n1 c1) := hL.cell 1
  have a2 : w2.cell? ⟨w.heap.size, 2, none⟩ = some (.slice A2 n2 c2) := hL.cell 2
  have a3 : w2.cell? ⟨w.heap.size, 3, none⟩ = some (.slice A3 n3 c3) := hL.cell 3
  have k0 : w2.cell? ⟨p2, 0, none⟩ = some (.int .i64 q') := hK.cell 0
  have k1 : w2.cell? ⟨p2, 1, none⟩ = some (.slice B1 m1 d1) := hK.cell 1
  have k2 : w2.cell? ⟨p2, 2, none⟩ = some (.slice B2 m2 d2) := hK.cell 2
  have k3 : w2.cell? ⟨p2, 3, none⟩ = some (.slice B3 m3 d3) := hK.cell 3
  go_wp2_with fail
  refine (refMay_any5 (n := q') hb (r := r') hr'.out).mono ?_
  rintro e w3 ⟨rfl, hb1⟩
  have hL := hL.below hb1 hL.lt
  have hK := hK.below hb1 hK.lt
  have hR := hR.below hb1 hR.lt
  have ha := ha.belowS hb1
  have hb := hb.belowS hb1
  have hbe := below_then hbe hb1
  clear hb1 a0 a1 a2 a3 k0 k1 k2 k3
  have a0 : w3.cell? ⟨w.heap.size, 0, none⟩ = some (.int .i64 q) := hL.cell 0
  have a1 : w3.cell? ⟨w.heap.size, 1, none⟩ = some (.slice A1 n1 c1) := hL.cell 1
  have a2 : w3.cell? ⟨w.heap.size, 2, none⟩ = some (.slice A2 n2 c2) := hL.cell 2
  have a3 : w3.cell? ⟨w.heap.size, 3, none⟩ = some (.slice A3 n3 c3) := hL.cell 3
  have k0 : w3.cell? ⟨p2, 0, none⟩ = some (.int .i64 q') := hK.cell 0
  have k1 : w3.cell? ⟨p2, 1, none⟩ = some (.slice B1 m1 d1) := hK.cell 1
  have k2 : w3.cell? ⟨p2, 2, none⟩ = some (.slice B2 m2 d2) := hK.cell 2
  have k3 : w3.cell? ⟨p2, 3, none⟩ = some (.slice B3 m3 d3) := hK.cell 3
  have r0 : w3.cell? ⟨p3, 0, none⟩ = some (.int .i64 0) := hR.cell 0
  have r1 : w3.cell? ⟨p3, 1, none⟩ = some (.slice none 0 0) := hR.cell 1
  have r2 : w3.cell? ⟨p3, 2, none⟩ = some (.slice none 0 0) := hR.cell 2
  have r3 : w3.cell? ⟨p3, 3, none⟩ = some (.slice none 0 0) := hR.cell 3
  have f0 := hR.free 0
  have f1 := hR.free 1
  have f2 := hR.free 2
  have f3 := hR.free 3
  cases r
  · have hZ : Hid (cMerge (q, S, M, X) (q', S', M', X') = (zeroC, 1)) := Lib.hid (if_pos (.inl fun h => by cases hr.out.2 h))
    have hRR := Lib.hid (hR.put4_ (.int .i64 0) (.slice none 0 0) (.slice none 0 0) (.slice none 0 0))
    have hRB := Lib.hid (below_put4 hbe hp3 (.int .i64 0) (.slice none 0 0) (.slice none 0 0) (.slice none 0 0))
    go_wp2_with fail
    refine bodyPost_ret (results_block2 rfl _ _ p3 _ _ rfl hRR.out Try.underlying26 rfl info_cell) rfl ?_
    rw [hZ.out]
    exact TellC.toH ⟨⟨_, _, _, rfl, zeroC_own _ _⟩, hRB.out⟩
  · cases r'
    · have hZ : Hid (cMerge (q, S, M, X) (q', S', M', X') = (zeroC, 1)) := Lib.hid (if_pos (.inr (.inl fun h => by cases hr'.out.2 h)))
      have hRR := Lib.hid (hR.put4_ (.int .i64 0) (.slice none 0 0) (.slice none 0 0) (.slice none 0 0))
      have hRB := Lib.hid (below_put4 hbe hp3 (.int .i64 0) (.slice none 0 0) (.slice none 0 0) (.slice none 0 0))
      go_wp2_with fail
      refine bodyPost_ret (results_block2 rfl _ _ p3 _ _ rfl hRR.out Try.underlying26 rfl info_cell) rfl ?_
      rw [hZ.out]
      exact TellC.toH ⟨⟨_, _, _, rfl, zeroC_own _ _⟩, hRB.out⟩
    · have mA := cMay_len (hr.out.1 rfl)
      have mB := cMay_len (hr'.out.1 rfl)
      have hm2 : n1 ≤ 2 := by have := lA.out.1; omega
      obtain ⟨qa, qb⟩ : (0 ≤ q ∧ q ≤ 1099511627776) ∧ (0 ≤ q' ∧ q' ≤ 1099511627776) := ⟨mA.2.2.2, mB.2.2.2⟩
      have MA := Lib.hid mA
      have MB := Lib.hid mB
      clear mA mB
      by_cases hl : n1 = m1
      · have hll : Hid (S.length = S'.length) := Lib.hid (by have := lA.out.1; have := lB.out.1; omega)
        have hno : Hid (¬ (¬ cMay (q, S, M, X) ∨ ¬ cMay (q', S', M', X') ∨ (q, S, M, X).2.1.length ≠ (q', S', M', X').2.1.length)) := Lib.hid (by
          rintro (h | h | h)
          · exact h (hr.out.1 rfl)
          · exact h (hr'.out.1 rfl)
          · exact h hll.out)
        have LE : Hid (n1 = n2 ∧ n1 = n3 ∧ m1 = m2 ∧ m1 = m3) := Lib.hid (by have h := MA.out; have h1 := lA.out; have h' := MB.out; have h1' := lB.out; omega)
        have lA : Hid (S.length = n1 ∧ M.length = n1 ∧ X.length = n1) := Lib.hid (by have h := MA.out; have h1 := lA.out.1; omega)
        have lB : Hid (S'.length = m1 ∧ M'.length = m1 ∧ X'.length = m1) := Lib.hid (by have h := MB.out; have h1 := lB.out.1; omega)
        have kk : ((n1 : Int) != (m1 : Int)) = false := by simp; omega
        by_cases hq0 : q = 0
        · have hZ : Hid (cMerge (q, S, M, X) (q', S', M', X') = ((q', S', M', X'), 0)) := Lib.hid (by
            unfold cMerge
            rw [if_neg hno.out, if_pos (show (q, S, M, X).1 = 0 from hq0)])
          have e0 : ((q : Int) == 0) = true := by simpa using hq0
          clear hl
          have hRR := Lib.hid (hR.put4_ (.int .i64 q') (.slice B1 m1 d1) (.slice B2 m2 d2) (.slice B3 m3 d3))
          have hRB := Lib.hid (below_put4 hbe hp3 (.int .i64 q') (.slice B1 m1 d1) (.slice B2 m2 d2) (.slice B3 m3 d3))
          have hRO := Lib.hid ((hb0.below hRB.out (Nat.le_refl _)).more hRB.out.size)
          go_wp2_with fail
          refine bodyPost_ret (results_block2 rfl _ _ p3 _ _ rfl hRR.out Try.underlying26 rfl info_cell) rfl ?_
          rw [hZ.out]
          exact ⟨⟨_, _, _, _, _, _, _, _, _, rfl, hRO.out⟩, hRB.out⟩
        · by_cases hq0' : q' = 0
          · have hZ : Hid (cMerge (q, S, M, X) (q', S', M', X') = ((q, S, M, X), 0)) := Lib.hid (by
              unfold cMerge
              rw [if_neg hno.out, if_neg (show ¬ (q, S, M, X).1 = 0 from hq0), if_pos (show (q', S', M', X').1 = 0 from hq0')])
            have e0 : ((q : Int) == 0) = false := by simpa using hq0
            have e1 : ((q' : Int) == 0) = true := by simpa using hq0'
            clear hl
            have hRR := Lib.hid (hR.put4_ (.int .i64 q) (.slice A1 n1 c1) (.slice A2 n2 c2) (.slice A3 n3 c3))
            have hRB := Lib.hid (below_put4 hbe hp3 (.int .i64 q) (.slice A1 n1 c1) (.slice A2 n2 c2) (.slice A3 n3 c3))
            have hRO := Lib.hid ((ha0.below hRB.out (Nat.le_refl _)).more hRB.out.size)
            go_wp2_with fail
            refine bodyPost_ret (results_block2 rfl _ _ p3 _ _ rfl hRR.out Try.underlying26 rfl info_cell) rfl ?_
            rw [hZ.out]
            exact ⟨⟨_, _, _, _, _, _, _, _, _, rfl, hRO.out⟩, hRB.out⟩
          · -- both are full
            have hlen : n1 = m1 := by have h := lA.out; have h' := lB.out; have h2 := hll.out; omega
            have hn2 : n1 ≤ 2 := hm2
            have iA : Hid (∀ k, k < n1 → inS (S.getD k 0) ∧ inS (S'.getD k 0)) := Lib.hid fun k hk => ⟨cMay_in (hr.out.1 rfl) (by show k < S.length; rw [lA.out.1]; exact hk), cMay_in (hr'.out.1 rfl) (by show k < S'.length; rw [lB.out.1, ← hlen]; exact hk)⟩
            obtain ⟨Ps, hPs⟩ : ∃ P, List.zipWith (· + ·) S S' = P := ⟨_, rfl⟩
            obtain ⟨Pm, hPm⟩ : ∃ P, List.zipWith min M M' = P := ⟨_, rfl⟩
            obtain ⟨Px, hPx⟩ : ∃ P, List.zipWith max X X' = P := ⟨_, rfl⟩
            have lP : Hid (Ps.length = n1 ∧ Pm.length = n1 ∧ Px.length = n1) := Lib.hid (by
              have h := lA.out
              have h' := lB.out
              rw [← hPs, ← hPm, ← hPx]
              simp only [List.length_zipWith]
              omega)
            have gP : Hid (∀ k, k < n1 → Ps.getD k 0 = S.getD k 0 + S'.getD k 0 ∧ Pm.getD k 0 = min (M.getD k 0) (M'.getD k 0) ∧ Px.getD k 0 = max (X.getD k 0) (X'.getD k 0)) := Lib.hid (by
              intro k hk
              have h := lA.out
              have h' := lB.out
              rw [← hPs, ← hPm, ← hPx]
              exact ⟨zip_getD _ h.1 (by omega) hk, zip_getD _ (show M.length = n1 by omega) (by omega) hk, zip_getD _ (show X.length = n1 by omega) (by omega) hk⟩)
            have hZp : Hid (cMerge (q, S, M, X) (q', S', M', X') = if (∀ k, k < n1 → inS (Ps.getD k 0)) ∧ q + q' ≤ 1099511627776 then ((q + q', Ps, Pm, Px), 0) else (zeroC, 14)) := Lib.hid (by
              unfold cMerge putC
              rw [if_neg hno.out, if_neg (show ¬ (q, S, M, X).1 = 0 from hq0), if_neg (show ¬ (q', S', M', X').1 = 0 from hq0')]
              show (if (∀ k, k < S.length → inS ((List.zipWith (· + ·) S S').getD k 0)) ∧ q + q' ≤ 1099511627776 then ((q + q', List.zipWith (· + ·) S S', List.zipWith min M M', List.zipWith max X X'), (0 : Int)) else (zeroC, 14)) = _
              rw [hPs, hPm, hPx, lA.out.1])
            clear hPs hPm hPx
            have e0 : ((q : Int) == 0) = false := by simpa using hq0
            have e1 : ((q' : Int) == 0) = false := by simpa using hq0'
            have hsum : IntKind.i64.wrap (q + q') = q + q' := IntWalk.i64_in _ (by omega)
            have en : n1 = n2 ∧ n1 = n3 ∧ m1 = m2 ∧ m1 = m3 := LE.out
            clear LE
            obtain ⟨en1, en2, en3, en4⟩ := en
            subst en1 en2 en3 en4
            subst hlen
            have kk : ((n1 : Int) != (n1 : Int)) = false := by simp
            go_wp2_with fail
            have hA := Acc.new (w0 := w3) (Block.new w3 26 #[.int .i64 (q + q'), .slice none 0 0, .slice none 0 0, .slice none 0 0]) (below_a1 w3 _) (Nat.le_refl _)
            clear hsum
            generalize hws : w3.alloc (.cells #[.int .i64 (q + q'), .slice none 0 0, .slice none 0 0, .slice none 0 0] 26) = ws at hA ⊢
            have hws := Lib.hid hws
            obtain ⟨s, hss⟩ : ∃ s, Hid (w3.heap.size = s) := ⟨_, Lib.hid rfl⟩
            have hA : Acc w3 ws s (q + q') (.slice none 0 0) (.slice none 0 0) (.slice none 0 0) (Ps.take 0) (Pm.take 0) (Px.take 0) := by rw [← hss.out]; exact hA
            have hA : Acc w3 ws s (q + q') (.slice none 0 0) (.slice none 0 0) (.slice none 0 0) (Ps.take 0) (Pm.take 0) (Px.take 0) := hA
            rw [hss.out]
            clear hr hr' a0 a1 a2 a3 k0 k1 k2 k3 r0 r1 r2 r3 f0 f1 f2 f3 e0 e1 kk
            go_loopw [9] (fun i wr => ∃ (k : Nat) (v1 v2 v3 : Value), k ≤ n1 ∧ i = .int .i64 k ∧ Hid (∀ j, j < k → inS (Ps.getD j 0)) ∧ Acc w3 wr s (q + q') v1 v2 v3 (Ps.take k) (Pm.take k) (Px.take k)) (fun i _ => n1 - (intOf i).toNat)
            case atStart => exact ⟨0, _, _, _, Nat.zero_le _, rfl, Lib.hid fun j hj => absurd hj (by omega), hA⟩
            case round =>
              obtain ⟨k, v1, v2, v3, hk, rfl, hJ, hT⟩ := hrel
              clear hA
              have hLr := hL.below hT.bel hL.lt
              have hKr := hK.below hT.bel hK.lt
              have hRr := hR.below hT.bel hR.lt
              have har := ha.below hT.bel (Nat.le_refl _)
              have hbr := hb.below hT.bel (Nat.le_refl _)
              have hzr := hT.bel.size
              have hber := hbe.trans (hT.bel.mono hbe.size)
              have a1 : wr.cell? ⟨w.heap.size, 1, none⟩ = some (.slice A1 n1 c1) := hLr.cell 1
              obtain ⟨E1, l1, d1', rfl, _⟩ := hT.r1.formN
              obtain ⟨E2, l2, d2', rfl, _⟩ := hT.r2.formN
              obtain ⟨E3, l3, d3', rfl, _⟩ := hT.r3.formN
              by_cases hlt : k < n1
              · obtain ⟨x1, o1, sa, rfl, hx1, ca, ea⟩ := har.s.at_ hlt
                obtain ⟨x2, o2, sb, rfl, hx2, cb, eb⟩ := hbr.s.at_ hlt
                obtain ⟨x3, o3, la, rfl, hx3, cla, ela⟩ := har.m.at_ hlt
                obtain ⟨x4, o4, lb, rfl, hx4, clb, elb⟩ := hbr.m.at_ hlt
                obtain ⟨x5, o5, ga, rfl, hx5, cga, ega⟩ := har.x.at_ hlt
                obtain ⟨x6, o6, gb, rfl, hx6, cgb, egb⟩ := hbr.x.at_ hlt
                have i0 : (0 : Int) ≤ (k : Int) := by omega
                have i1 : (k : Int) < (n1 : Int) := by omega
                have k1 : wr.cell? ⟨p2, 1, none⟩ = some (.slice (some ⟨x2, o2, none⟩) n1 d1) := hKr.cell 1
                obtain ⟨z, b, hs⟩ : ∃ z b, Hid (TotIs (sumI [sa, sb]) z b) := by
                  obtain ⟨z, b, h⟩ := totIs_any (sumI [sa, sb])
                  exact ⟨z, b, Lib.hid h⟩
                have hI2 : I64 [sa, sb] := by
                  obtain ⟨h1, h2⟩ := iA.out k hlt
                  rw [← ea.out, ← eb.out] at *
                  unfold inS at h1 h2
                  intro x hx
                  simp only [List.mem_cons, List.not_mem_nil, or_false] at hx
                  rcases hx with rfl | rfl <;> omega
                have HT := Lib.hid (refTot_any (w := (wr.alloc (.cells #[.int .i64 sa, .int .i64 sb] 3)).drew) (((HasI.litAt wr [sa, sb] #[.int .i64 sa, .int .i64 sb] rfl 3 (0, 0) 2 rfl (by decide) wr.heap.size rfl).more (by simp)).drew) (by decide) hI2 hs.out)
                have hP : Hid (Ps.getD k 0 = sa + sb ∧ Pm.getD k 0 = min la lb ∧ Px.getD k 0 = max ga gb) := Lib.hid (by
                  have := gP.out k hlt
                  rw [← ea.out, ← eb.out, ← ela.out, ← elb.out, ← ega.out, ← egb.out] at this
                  exact this)
                have K : Hid (∀ y, Below wr.heap.size wr y → y.cell? ⟨w.heap.size, 1, none⟩ = some (.slice (some ⟨x1, o1, none⟩) n1 c1) ∧ y.cell? ⟨p2, 1, none⟩ = some (.slice (some ⟨x2, o2, none⟩) n1 d1) ∧ y.cell? ⟨x1, o1 + k, none⟩ = some (.int .i64 sa) ∧ y.cell? ⟨x2, o2 + k, none⟩ = some (.int .i64 sb)) :=
                  Lib.hid fun y hy => ⟨(hLr.below hy hLr.lt).cell 1, (hKr.below hy hKr.lt).cell 1, (hy.cell (p := ⟨x1, o1 + k, none⟩) (Nat.lt_of_lt_of_le hx1 hzr)).trans ca, (hy.cell (p := ⟨x2, o2 + k, none⟩) (Nat.lt_of_lt_of_le hx2 hzr)).trans cb⟩
                clear ea eb ela elb ega egb hI2
                go_wp2_with fail
                go_region_held3 (fun w' => w'.cell? ⟨w.heap.size, 1, none⟩ = some (.slice (some ⟨x1, o1, none⟩) n1 c1) ∧ w'.cell? ⟨p2, 1, none⟩ = some (.slice (some ⟨x2, o2, none⟩) n1 d1) ∧ w'.cell? ⟨x1, o1 + k, none⟩ = some (.int .i64 sa) ∧ w'.cell? ⟨x2, o2 + k, none⟩ = some (.int .i64 sb))
                  (first
                    | exact K.out _ hd1
                    | exact K.out _ (Below.drew (below_a1 _ _))
                    | exact K.out _ (Below.drew (Below.refl _ _)))
                  (first
                    | (go_at_call 27; refine HT.out.mono ?_; rintro e w5 ⟨rfl, hb5⟩; have hd1 := below_then (Below.drew (below_a1 wr (.cells #[.int .i64 sa, .int .i64 sb] 3))) hb5))
                have hT5 := hT.below hd1
                have hL5 := hLr.below hd1 hLr.lt
                have hK5 := hKr.below hd1 hKr.lt
                have hR5 := hRr.below hd1 hRr.lt
                have hbe5 := hber.trans (hd1.mono hber.size)
                have a2 : w5.cell? ⟨w.heap.size, 2, none⟩ = some (.slice (some ⟨x3, o3, none⟩) n1 c2) := hL5.cell 2
                have a3 : w5.cell? ⟨w.heap.size, 3, none⟩ = some (.slice (some ⟨x5, o5, none⟩) n1 c3) := hL5.cell 3
                have k2 : w5.cell? ⟨p2, 2, none⟩ = some (.slice (some ⟨x4, o4, none⟩) n1 d2) := hK5.cell 2
                have k3 : w5.cell? ⟨p2, 3, none⟩ = some (.slice (some ⟨x6, o6, none⟩) n1 d3) := hK5.cell 3
                have cla := (hd1.cell (p := ⟨x3, o3 + k, none⟩) (Nat.lt_of_lt_of_le hx3 hzr)).trans cla
                have clb := (hd1.cell (p := ⟨x4, o4 + k, none⟩) (Nat.lt_of_lt_of_le hx4 hzr)).trans clb
                have cga := (hd1.cell (p := ⟨x5, o5 + k, none⟩) (Nat.lt_of_lt_of_le hx5 hzr)).trans cga
                have cgb := (hd1.cell (p := ⟨x6, o6 + k, none⟩) (Nat.lt_of_lt_of_le hx6 hzr)).trans cgb
                clear hT hLr hKr hRr har hbr hber hd1 hb5 K HT a1 k1 ca cb hL5 hK5
                have hst : sumI [sa, sb] = sa + sb := by simp [sumI]
                rcases hs.out with ⟨hin, hz, rfl⟩ | ⟨hin, rfl, _⟩
                · rw [hst] at hin hz
                  have hy : Hid (Ps.getD k 0 = z) := Lib.hid (hP.out.1.trans hz.symm)
                  have hJ2 : Hid (∀ j, j < k + 1 → inS (Ps.getD j 0)) := Lib.hid fun j hj => by
                    by_cases h : j < k
                    · exact hJ.out j h
                    · obtain rfl : j = k := by omega
                      rw [hP.out.1]; exact hin
                  clear hst hin hz hs hR5 hbe5 hJ
                  by_cases hm : lb < la
                  · have hlo : Pm.getD k 0 = lb := by rw [hP.out.2.1]; omega
                    by_cases hg : ga < gb
                    · have hhi : Px.getD k 0 = gb := by rw [hP.out.2.2]; omega
                      have g1 : w5.cell? ⟨s, 1, none⟩ = some (.slice E1 l1 d1') := hT5.blk.cell 1
                      go_wp2_with (at_builtin; refine wpList_appI rfl _ _ rfl w3.heap.size _ _ rfl (hT5.alloc _).r1 _ rfl z (cell_lit _ _ _ _ (by simp)) (by simp; omega) (hT5.alloc _).bel.size ?_)
                      intro u1 w11 hO1 hG1
                      obtain ⟨F1, j1, t1, rfl, _⟩ := hO1.formN
                      obtain ⟨hB1, hA1⟩ := (hT5.alloc _).app1 hO1 hG1
                      have x0 := hB1.cell 1
                      have x1' := hB1.free 1
                      have x2 : (w11.setCell ⟨s, 1, none⟩ (.slice F1 j1 t1)).cell? ⟨s, 2, none⟩ = some (.slice E2 l2 d2') := hA1.blk.cell 2
                      clear hT5 g1 hO1 hG1 hB1
                      go_wp2_with (at_builtin; refine wpList_appI rfl _ _ rfl w3.heap.size _ _ rfl (hA1.alloc _).r2 _ rfl lb (cell_lit _ _ _ _ (by simp)) (by simp; omega) (hA1.alloc _).bel.size ?_)
                      intro u2 w12 hO2 hG2
                      obtain ⟨F2, j2, t2, rfl, _⟩ := hO2.formN
                      obtain ⟨hB2, hA2⟩ := (hA1.alloc _).app2 hO2 hG2
                      have y0 := hB2.cell 2
                      have y1 := hB2.free 2
                      have y2 : (w12.setCell ⟨s, 2, none⟩ (.slice F2 j2 t2)).cell? ⟨s, 3, none⟩ = some (.slice E3 l3 d3') := hA2.blk.cell 3
                      clear hA1 x0 x1' x2 hO2 hG2 hB2
                      go_wp2_with (at_builtin; refine wpList_appI rfl _ _ rfl w3.heap.size _ _ rfl (hA2.alloc _).r3 _ rfl gb (cell_lit _ _ _ _ (by simp)) (by simp; omega) (hA2.alloc _).bel.size ?_)
                      intro u3 w13 hO3 hG3
                      obtain ⟨F3, j3, t3, rfl, _⟩ := hO3.formN
                      obtain ⟨hB3, hA3⟩ := (hA2.alloc _).app3 hO3 hG3
                      have z0 := hB3.cell 3
                      have z1 := hB3.free 3
                      rw [take_snoc (by rw [lP.out.1]; exact hlt) hy.out, take_snoc (by rw [lP.out.2.1]; exact hlt) hlo, take_snoc (by rw [lP.out.2.2]; exact hlt) hhi] at hA3
                      have hA4 := Lib.hid hA3
                      clear hA2 y0 y1 y2 hO3 hG3 hB3 hA3 hlo hhi
                      go_wp2_with fail
                      go_roundw
                      case rel => exact ⟨k + 1, _, _, _, by omega, by go_num, hJ2, hA4.out⟩
                      case measure => simp [intOf]; omega
                    · have hhi : Px.getD k 0 = ga := by rw [hP.out.2.2]; omega
                      have g1 : w5.cell? ⟨s, 1, none⟩ = some (.slice E1 l1 d1') := hT5.blk.cell 1
                      go_wp2_with (at_builtin; refine wpList_appI rfl _ _ rfl w3.heap.size _ _ rfl (hT5.alloc _).r1 _ rfl z (cell_lit _ _ _ _ (by simp)) (by simp; omega) (hT5.alloc _).bel.size ?_)
                      intro u1 w11 hO1 hG1
                      obtain ⟨F1, j1, t1, rfl, _⟩ := hO1.formN
                      obtain ⟨hB1, hA1⟩ := (hT5.alloc _).app1 hO1 hG1
                      have x0 := hB1.cell 1
                      have x1' := hB1.free 1
                      have x2 : (w11.setCell ⟨s, 1, none⟩ (.slice F1 j1 t1)).cell? ⟨s, 2, none⟩ = some (.slice E2 l2 d2') := hA1.blk.cell 2
                      clear hT5 g1 hO1 hG1 hB1
                      go_wp2_with (at_builtin; refine wpList_appI rfl _ _ rfl w3.heap.size _ _ rfl (hA1.alloc _).r2 _ rfl lb (cell_lit _ _ _ _ (by simp)) (by simp; omega) (hA1.alloc _).bel.size ?_)
                      intro u2 w12 hO2 hG2
                      obtain ⟨F2, j2, t2, rfl, _⟩ := hO2.formN
                      obtain ⟨hB2, hA2⟩ := (hA1.alloc _).app2 hO2 hG2
                      have y0 := hB2.cell 2
                      have y1 := hB2.free 2
                      have y2 : (w12.setCell ⟨s, 2, none⟩ (.slice F2 j2 t2)).cell? ⟨s, 3, none⟩ = some (.slice E3 l3 d3') := hA2.blk.cell 3
                      clear hA1 x0 x1' x2 hO2 hG2 hB2
                      go_wp2_with (at_builtin; refine wpList_appI rfl _ _ rfl w3.heap.size _ _ rfl (hA2.alloc _).r3 _ rfl ga (cell_lit _ _ _ _ (by simp)) (by simp; omega) (hA2.alloc _).bel.size ?_)
                      intro u3 w13 hO3 hG3
                      obtain ⟨F3, j3, t3, rfl, _⟩ := hO3.formN
                      obtain ⟨hB3, hA3⟩ := (hA2.alloc _).app3 hO3 hG3
                      have z0 := hB3.cell 3
                      have z1 := hB3.free 3
                      rw [take_snoc (by rw [lP.out.1]; exact hlt) hy.out, take_snoc (by rw [lP.out.2.1]; exact hlt) hlo, take_snoc (by rw [lP.out.2.2]; exact hlt) hhi] at hA3
                      have hA4 := Lib.hid hA3
                      clear hA2 y0 y1 y2 hO3 hG3 hB3 hA3 hlo hhi
                      go_wp2_with fail
                      go_roundw
                      case rel => exact ⟨k + 1, _, _, _, by omega, by go_num, hJ2, hA4.out⟩
                      case measure => simp [intOf]; omega
                  · have hlo : Pm.getD k 0 = la := by rw [hP.out.2.1]; omega
                    by_cases hg : ga < gb
                    · have hhi : Px.getD k 0 = gb := by rw [hP.out.2.2]; omega
                      have g1 : w5.cell? ⟨s, 1, none⟩ = some (.slice E1 l1 d1') := hT5.blk.cell 1
                      go_wp2_with (at_builtin; refine wpList_appI rfl _ _ rfl w3.heap.size _ _ rfl (hT5.alloc _).r1 _ rfl z (cell_lit _ _ _ _ (by simp)) (by simp; omega) (hT5.alloc _).bel.size ?_)
                      intro u1 w11 hO1 hG1
                      obtain ⟨F1, j1, t1, rfl, _⟩ := hO1.formN
                      obtain ⟨hB1, hA1⟩ := (hT5.alloc _).app1 hO1 hG1
                      have x0 := hB1.cell 1
                      have x1' := hB1.free 1
                      have x2 : (w11.setCell ⟨s, 1, none⟩ (.slice F1 j1 t1)).cell? ⟨s, 2, none⟩ = some (.slice E2 l2 d2') := hA1.blk.cell 2
                      clear hT5 g1 hO1 hG1 hB1
                      go_wp2_with (at_builtin; refine wpList_appI rfl _ _ rfl w3.heap.size _ _ rfl (hA1.alloc _).r2 _ rfl la (cell_lit _ _ _ _ (by simp)) (by simp; omega) (hA1.alloc _).bel.size ?_)
                      intro u2 w12 hO2 hG2
                      obtain ⟨F2, j2, t2, rfl, _⟩ := hO2.formN
                      obtain ⟨hB2, hA2⟩ := (hA1.alloc _).app2 hO2 hG2
                      have y0 := hB2.cell 2
                      have y1 := hB2.free 2
                      have y2 : (w12.setCell ⟨s, 2, none⟩ (.slice F2 j2 t2)).cell? ⟨s, 3, none⟩ = some (.slice E3 l3 d3') := hA2.blk.cell 3
                      clear hA1 x0 x1' x2 hO2 hG2 hB2
                      go_wp2_with (at_builtin; refine wpList_appI rfl _ _ rfl w3.heap.size _ _ rfl (hA2.alloc _).r3 _ rfl gb (cell_lit _ _ _ _ (by simp)) (by simp; omega) (hA2.alloc _).bel.size ?_)
                      intro u3 w13 hO3 hG3
                      obtain ⟨F3, j3, t3, rfl, _⟩ := hO3.formN
                      obtain ⟨hB3, hA3⟩ := (hA2.alloc _).app3 hO3 hG3
                      have z0 := hB3.cell 3
                      have z1 := hB3.free 3
                      rw [take_snoc (by rw [lP.out.1]; exact hlt) hy.out, take_snoc (by rw [lP.out.2.1]; exact hlt) hlo, take_snoc (by rw [lP.out.2.2]; exact hlt) hhi] at hA3
                      have hA4 := Lib.hid hA3
                      clear hA2 y0 y1 y2 hO3 hG3 hB3 hA3 hlo hhi
                      go_wp2_with fail
                      go_roundw
                      case rel => exact ⟨k + 1, _, _, _, by omega, by go_num, hJ2, hA4.out⟩
                      case measure => simp [intOf]; omega
                    · have hhi : Px.getD k 0 = ga := by rw [hP.out.2.2]; omega
                      have g1 : w5.cell? ⟨s, 1, none⟩ = some (.slice E1 l1 d1') := hT5.blk.cell 1
                      go_wp2_with (at_builtin; refine wpList_appI rfl _ _ rfl w3.heap.size _ _ rfl (hT5.alloc _).r1 _ rfl z (cell_lit _ _ _ _ (by simp)) (by simp; omega) (hT5.alloc _).bel.size ?_)
                      intro u1 w11 hO1 hG1
                      obtain ⟨F1, j1, t1, rfl, _⟩ := hO1.formN
                      obtain ⟨hB1, hA1⟩ := (hT5.alloc _).app1 hO1 hG1
                      have x0 := hB1.cell 1
                      have x1' := hB1.free 1
                      have x2 : (w11.setCell ⟨s, 1, none⟩ (.slice F1 j1 t1)).cell? ⟨s, 2, none⟩ = some (.slice E2 l2 d2') := hA1.blk.cell 2
                      clear hT5 g1 hO1 hG1 hB1
                      go_wp2_with (at_builtin; refine wpList_appI rfl _ _ rfl w3.heap.size _ _ rfl (hA1.alloc _).r2 _ rfl la (cell_lit _ _ _ _ (by simp)) (by simp; omega) (hA1.alloc _).bel.size ?_)
                      intro u2 w12 hO2 hG2
                      obtain ⟨F2, j2, t2, rfl, _⟩ := hO2.formN
                      obtain ⟨hB2, hA2⟩ := (hA1.alloc _).app2 hO2 hG2
                      have y0 := hB2.cell 2
                      have y1 := hB2.free 2
                      have y2 : (w12.setCell ⟨s, 2, none⟩ (.slice F2 j2 t2)).cell? ⟨s, 3, none⟩ = some (.slice E3 l3 d3') := hA2.blk.cell 3
                      clear hA1 x0 x1' x2 hO2 hG2 hB2
                      go_wp2_with (at_builtin; refine wpList_appI rfl _ _ rfl w3.heap.size _ _ rfl (hA2.alloc _).r3 _ rfl ga (cell_lit _ _ _ _ (by simp)) (by simp; omega) (hA2.alloc _).bel.size ?_)
                      intro u3 w13 hO3 hG3
                      obtain ⟨F3, j3, t3, rfl, _⟩ := hO3.formN
                      obtain ⟨hB3, hA3⟩ := (hA2.alloc _).app3 hO3 hG3
                      have z0 := hB3.cell 3
                      have z1 := hB3.free 3
                      rw [take_snoc (by rw [lP.out.1]; exact hlt) hy.out, take_snoc (by rw [lP.out.2.1]; exact hlt) hlo, take_snoc (by rw [lP.out.2.2]; exact hlt) hhi] at hA3
                      have hA4 := Lib.hid hA3
                      clear hA2 y0 y1 y2 hO3 hG3 hB3 hA3 hlo hhi
                      go_wp2_with fail
                      go_roundw
                      case rel => exact ⟨k + 1, _, _, _, by omega, by go_num, hJ2, hA4.out⟩
                      case measure => simp [intOf]; omega
                · have hZ : Hid (cMerge (q, S, M, X) (q', S', M', X') = (zeroC, 14)) := Lib.hid (by
                    rw [hZp.out, if_neg]
                    intro h
                    have := h.1 k hlt
                    rw [hP.out.1] at this
                    rw [hst] at hin
                    exact hin this)
                  have hR := hR5
                  clear hst hin hs
                  have r0 : w5.cell? ⟨p3, 0, none⟩ = some (.int .i64 0) := hR.cell 0
                  have r1 : w5.cell? ⟨p3, 1, none⟩ = some (.slice none 0 0) := hR.cell 1
                  have r2 : w5.cell? ⟨p3, 2, none⟩ = some (.slice none 0 0) := hR.cell 2
                  have r3 : w5.cell? ⟨p3, 3, none⟩ = some (.slice none 0 0) := hR.cell 3
                  have f0 := hR.free 0
                  have f1 := hR.free 1
                  have f2 := hR.free 2
                  have f3 := hR.free 3
                  have hRR := Lib.hid (hR.put4_ (.int .i64 0) (.slice none 0 0) (.slice none 0 0) (.slice none 0 0))
                  have hRB := Lib.hid (below_put4 hbe5 hp3 (.int .i64 0) (.slice none 0 0) (.slice none 0 0) (.slice none 0 0))
                  go_wp2_with fail
                  refine bodyPost_ret (results_block2 rfl _ _ p3 _ _ rfl hRR.out Try.underlying26 rfl info_cell) rfl ?_
                  rw [hZ.out]
                  exact TellC.toH ⟨⟨_, _, _, rfl, zeroC_own _ _⟩, hRB.out⟩
              · obtain rfl : k = n1 := by omega
                have hS1 : Ps.take k = Ps := List.take_of_length_le (by rw [lP.out.1]; exact Nat.le_refl _)
                have hS2 : Pm.take k = Pm := List.take_of_length_le (by rw [lP.out.2.1]; exact Nat.le_refl _)
                have hS3 : Px.take k = Px := List.take_of_length_le (by rw [lP.out.2.2]; exact Nat.le_refl _)
                rw [hS1, hS2, hS3] at hT
                have s0 : wr.cell? ⟨s, 0, none⟩ = some (.int .i64 (q + q')) := hT.blk.cell 0
                have s1 : wr.cell? ⟨s, 1, none⟩ = some (.slice E1 l1 d1') := hT.blk.cell 1
                have s2 : wr.cell? ⟨s, 2, none⟩ = some (.slice E2 l2 d2') := hT.blk.cell 2
                have s3 : wr.cell? ⟨s, 3, none⟩ = some (.slice E3 l3 d3') := hT.blk.cell 3
                have hp3l : p3 < w3.heap.size := hR.lt
                have hR := hRr
                have r0 : wr.cell? ⟨p3, 0, none⟩ = some (.int .i64 0) := hR.cell 0
                have r1 : wr.cell? ⟨p3, 1, none⟩ = some (.slice none 0 0) := hR.cell 1
                have r2 : wr.cell? ⟨p3, 2, none⟩ = some (.slice none 0 0) := hR.cell 2
                have r3 : wr.cell? ⟨p3, 3, none⟩ = some (.slice none 0 0) := hR.cell 3
                have f0 := hR.free 0
                have f1 := hR.free 1
                have f2 := hR.free 2
                have f3 := hR.free 3
                by_cases hc : 1099511627776 < q + q'
                · have hZ : Hid (cMerge (q, S, M, X) (q', S', M', X') = (zeroC, 14)) := Lib.hid (by
                    rw [hZp.out, if_neg]
                    intro h
                    have := h.2
                    omega)
                  have hRR := Lib.hid (hR.put4_ (.int .i64 0) (.slice none 0 0) (.slice none 0 0) (.slice none 0 0))
                  have hRB := Lib.hid (below_put4 hber hp3 (.int .i64 0) (.slice none 0 0) (.slice none 0 0) (.slice none 0 0))
                  go_wp2_with fail
                  refine bodyPost_ret (results_block2 rfl _ _ p3 _ _ rfl hRR.out Try.underlying26 rfl info_cell) rfl ?_
                  rw [hZ.out]
                  exact TellC.toH ⟨⟨_, _, _, rfl, zeroC_own _ _⟩, hRB.out⟩
                · have hZ : Hid (cMerge (q, S, M, X) (q', S', M', X') = ((q + q', Ps, Pm, Px), 0)) := Lib.hid (by
                    rw [hZp.out, if_pos ⟨hJ.out, by omega⟩])
                  have hO := hT.own.put4_ hp3l (.int .i64 (q + q')) (.slice E1 l1 d1') (.slice E2 l2 d2') (.slice E3 l3 d3')
                  have hRR := Lib.hid (hR.put4_ (.int .i64 (q + q')) (.slice E1 l1 d1') (.slice E2 l2 d2') (.slice E3 l3 d3'))
                  have hRB := Lib.hid (below_put4 hber hp3 (.int .i64 (q + q')) (.slice E1 l1 d1') (.slice E2 l2 d2') (.slice E3 l3 d3'))
                  have hRO := Lib.hid (hO.low (base' := w.heap.size) hbe.size)
                  clear hO hT
                  go_wp2_with fail
                  refine bodyPost_ret (results_block2 rfl _ _ p3 _ _ rfl hRR.out Try.underlying26 rfl info_cell) rfl ?_
                  rw [hZ.out]
                  exact TellC.toH ⟨⟨_, _, _, rfl, hRO.out⟩, hRB.out⟩
      · have hZ : Hid (cMerge (q, S, M, X) (q', S', M', X') = (zeroC, 1)) := Lib.hid (if_pos (.inr (.inr fun h => hl (by
          have h : S.length = S'.length := h
          have h1 := lA.out.1
          have h2 := lB.out.1
          omega))))
        have kk : ((n1 : Int) != (m1 : Int)) = true := by simp; omega
        clear hl
        have hRR := Lib.hid (hR.put4_ (.int .i64 0) (.slice none 0 0) (.slice none 0 0) (.slice none 0 0))
        have hRB := Lib.hid (below_put4 hbe hp3 (.int .i64 0) (.slice none 0 0) (.slice none 0 0) (.slice none 0 0))
        go_wp2_with fail
        refine bodyPost_ret (results_block2 rfl _ _ p3 _ _ rfl hRR.out Try.underlying26 rfl info_cell) rfl ?_
        rw [hZ.out]
        exact TellC.toH ⟨⟨_, _, _, rfl, zeroC_own _ _⟩, hRB.out⟩
end Go.Proofs.Ytbgbchbnidejhaa
