/- Layer 5: Sum, Merge. -/
import Derived.Test.YtbgbchbnidejhaaCellU
namespace Go.Proofs.Ytbgbchbnidejhaa
open Go.RowKit

theorem getD_mem {L : List PC} {c : PC} (h : c ∈ L) : ∃ i, i < L.length ∧ L.getD i zeroC = c := by
  obtain ⟨k, hk, rfl⟩ := List.mem_iff_getElem.1 h
  exact ⟨k, hk, by rw [List.getD_eq_getElem?_getD, List.getElem?_eq_getElem hk]; rfl⟩
theorem headM_getD (L : List PC) : headM L = (L.getD 0 zeroC).2.1.length := by cases L <;> rfl

set_option maxRecDepth 100000 in
set_option maxHeartbeats 2000000 in
theorem sum_any {A : Option Addr} {n c : Nat} {L : List PC} {w : World} (h : HasCs w w.heap.size A n c L) (hn : n ≤ 1000000) :
    Calls Try.prog 23 #[.slice A n c] w (TellC w (cSum L)) := by
  have hll := Lib.hid h.len
  have hlm := h.lenMax
  have hcm := h.capMax
  have hcap := h.cap
  have hb0 := below_a1 w (.cells #[.int .i64 0, .slice none 0 0, .slice none 0 0, .slice none 0 0] 26)
  have hR := Block.new w 26 #[.int .i64 0, .slice none 0 0, .slice none 0 0, .slice none 0 0]
  have h1 := h.belowS hb0
  by_cases h0 : n = 0
  · subst h0
    have hZ : Hid (cSum L = (zeroC, 1)) := Lib.hid (cSum_arg (.inl (List.eq_nil_of_length_eq_zero hll.out)))
    go_enter Try.func23, Try.ntmps23
    go_wp2_with fail
    refine bodyPost_ret (results_block2 rfl _ _ w.heap.size _ _ rfl hR Try.underlying26 rfl info_cell) rfl ?_
    rw [hZ.out]
    exact ⟨⟨_, _, _, rfl, zeroC_own _ _⟩, hb0⟩
  · have i2 : (0 : Int) < (n : Int) := by omega
    have i3 : ((n : Int) == 0) = false := by simp; omega
    obtain ⟨r, hr⟩ : ∃ r : Bool, Hid (r = true ↔ ∀ i, i < n → cMay (L.getD i zeroC) ∧ (L.getD i zeroC).2.1.length = (L.getD 0 zeroC).2.1.length) := ⟨decide (∀ i, i < n → cMay (L.getD i zeroC) ∧ (L.getD i zeroC).2.1.length = (L.getD 0 zeroC).2.1.length), Lib.hid (by simp)⟩
    have hA := Lib.hid (alike_any h1 hr.out)
    go_enter Try.func23, Try.ntmps23
    go_wp2_with fail
    refine hA.out.mono ?_
    rintro e w1 ⟨rfl, hb1⟩
    have hR1 := hR.below hb1 hR.lt
    have hbe := below_then hb0 hb1
    have h2 := h1.belowS hb1
    clear hA hb1 hb0 h1 hR h
    have r0 : w1.cell? ⟨w.heap.size, 0, none⟩ = some (.int .i64 0) := hR1.cell 0
    have r1 : w1.cell? ⟨w.heap.size, 1, none⟩ = some (.slice none 0 0) := hR1.cell 1
    have r2 : w1.cell? ⟨w.heap.size, 2, none⟩ = some (.slice none 0 0) := hR1.cell 2
    have r3 : w1.cell? ⟨w.heap.size, 3, none⟩ = some (.slice none 0 0) := hR1.cell 3
    have f0 := hR1.free 0
    have f1 := hR1.free 1
    have f2 := hR1.free 2
    have f3 := hR1.free 3
    cases r
    · have hZ : Hid (cSum L = (zeroC, 1)) := Lib.hid (cSum_arg (.inr (by
        apply Decidable.byContradiction
        intro hno
        have : false = true := hr.out.2 fun i hi => by
          have hm : L.getD i zeroC ∈ L := by
            rw [List.getD_eq_getElem?_getD, List.getElem?_eq_getElem (by rw [hll.out]; exact hi)]
            exact List.getElem_mem _
          have h3 : ¬ (¬ cMay (L.getD i zeroC) ∨ (L.getD i zeroC).2.1.length ≠ headM L) := fun h => hno ⟨_, hm, h⟩
          rw [headM_getD] at h3
          exact ⟨Decidable.byContradiction fun h => h3 (.inl h), Decidable.byContradiction fun h => h3 (.inr h)⟩
        cases this)))
      have hRR := Lib.hid (hR1.put4_ (.int .i64 0) (.slice none 0 0) (.slice none 0 0) (.slice none 0 0))
      have hRB := Lib.hid (below_put4 hbe (Nat.le_refl _) (.int .i64 0) (.slice none 0 0) (.slice none 0 0) (.slice none 0 0))
      clear hr
      go_wp2_with fail
      refine bodyPost_ret (results_block2 rfl _ _ w.heap.size _ _ rfl hRR.out Try.underlying26 rfl info_cell) rfl ?_
      rw [hZ.out]
      exact ⟨⟨_, _, _, rfl, zeroC_own _ _⟩, hRB.out⟩
    · obtain ⟨m, hm⟩ : ∃ m, Hid ((L.getD 0 zeroC).2.1.length = m) := ⟨_, Lib.hid rfl⟩
      have HAll : Hid (AllC m L) := Lib.hid fun k hk => by
        have := hr.out.1 rfl k (by rw [← hll.out]; exact hk)
        exact ⟨this.1, this.2.trans hm.out⟩
      have hm2 : m ≤ 2 := by
        have := (HAll.out 0 (by rw [hll.out]; omega))
        have h3 := this.1.1
        rw [this.2] at h3
        exact h3
      have HX := Lib.hid (index_any h2)
      have hne : Hid (L ≠ []) := Lib.hid fun e => by have := hll.out; rw [e] at this; simp at this; omega
      clear hr
      go_wp2_with fail
      refine HX.out.mono ?_
      rintro e w2 ⟨⟨x, rfl, hx⟩, hb2⟩
      have hR2 := hR1.below hb2 hR1.lt
      have hbe2 := below_then hbe hb2
      have h3 := h2.belowS hb2
      clear r0 r1 r2 r3 f0 f1 f2 f3 hR1 hbe h2 hb2 HX
      rcases hx with ⟨k, hk, rfl, hf, hk0⟩ | ⟨rfl, hall⟩
      · have h4 := h3.cut (Nat.le_of_lt hk) (by omega)
        have HT := Lib.hid (together_any (m := m) h4 (by omega) (by omega) hm2 (fun j hj => by
          rw [List.length_drop, hll.out] at hj
          have := HAll.out (k + j) (by rw [hll.out]; omega)
          have e : (L.drop k).getD j zeroC = L.getD (k + j) zeroC := by simp [List.getD_eq_getElem?_getD]
          rw [e]; exact this) (by
          have e : (L.drop k).getD 0 zeroC = L.getD k zeroC := by simp [List.getD_eq_getElem?_getD]
          rw [e]; exact hf))
        have hZ : Hid (cSum L = togC m (L.drop k)) := Lib.hid (cSum_drop hm2 hne.out HAll.out.mem fun c hc => by
          obtain ⟨j, hj, rfl⟩ := getD_mem hc
          rw [List.length_take] at hj
          have e : (L.take k).getD j zeroC = L.getD j zeroC := by simp [List.getD_eq_getElem?_getD, show j < k from by omega]
          rw [e]
          have h5 := hk0 j (by omega)
          have h6 := (cMay_count (HAll.out j (by rw [hll.out]; omega)).1).1
          omega)
        have j0 : (0 : Int) ≤ (k : Int) := by omega
        have j1 : (k : Int) ≤ (n : Int) := by omega
        have j2 : (n : Int) ≤ (c : Int) := by omega
        have j3 : (k : Int) ≤ (c : Int) := by omega
        have j4 : ¬ (k : Int) < 0 := by omega
        have j5 : ¬ c = k := by omega
        clear hf hk0 h3 h4
        go_wp2_with fail
        refine HT.out.mono ?_
        rintro e w3 ⟨⟨v1, v2, v3, rfl, ho⟩, hb3⟩
        have hR3 := hR2.below hb3 hR2.lt
        have hbe3 := below_then hbe2 hb3
        have hrs : w.heap.size < w2.heap.size := hR2.lt
        have r0 : w3.cell? ⟨w.heap.size, 0, none⟩ = some (.int .i64 0) := hR3.cell 0
        have r1 : w3.cell? ⟨w.heap.size, 1, none⟩ = some (.slice none 0 0) := hR3.cell 1
        have r2 : w3.cell? ⟨w.heap.size, 2, none⟩ = some (.slice none 0 0) := hR3.cell 2
        have r3 : w3.cell? ⟨w.heap.size, 3, none⟩ = some (.slice none 0 0) := hR3.cell 3
        have f0 := hR3.free 0
        have f1 := hR3.free 1
        have f2 := hR3.free 2
        have f3 := hR3.free 3
        obtain ⟨A1, n1, c1, rfl, _⟩ := ho.s.formN
        obtain ⟨A2, n2, c2, rfl, _⟩ := ho.m.formN
        obtain ⟨A3, n3, c3, rfl, _⟩ := ho.x.formN
        obtain ⟨q, S, M, X, y, hq⟩ : ∃ q S M X y, Hid (togC m (L.drop k) = ((q, S, M, X), y)) := ⟨_, _, _, _, _, Lib.hid rfl⟩
        rw [hq.out] at ho hZ ⊢
        have hRR := Lib.hid (hR3.put4_ (.int .i64 q) (.slice A1 n1 c1) (.slice A2 n2 c2) (.slice A3 n3 c3))
        have hRB := Lib.hid (below_put4 hbe3 (Nat.le_refl _) (.int .i64 q) (.slice A1 n1 c1) (.slice A2 n2 c2) (.slice A3 n3 c3))
        have hRO := Lib.hid ((ho.put4_ hrs (.int .i64 q) (.slice A1 n1 c1) (.slice A2 n2 c2) (.slice A3 n3 c3)).low (Nat.le_of_lt hrs))
        clear ho HT hb3 hq
        go_wp2_with fail
        refine bodyPost_ret (results_block2 rfl _ _ w.heap.size _ _ rfl hRR.out Try.underlying26 rfl info_cell) rfl ?_
        rw [hZ.out]
        exact ⟨⟨_, _, _, rfl, hRO.out⟩, hRB.out⟩
      · have hZ : Hid (cSum L = (cEmpty m, 0)) := Lib.hid (cSum_none hm2 hne.out HAll.out.mem fun c hc => by
          obtain ⟨j, hj, rfl⟩ := getD_mem hc
          have h5 := hall j (by rw [← hll.out]; exact hj)
          have h6 := (cMay_count (HAll.out j hj).1).1
          omega)
        obtain ⟨b, o, q, A1, n1, c1, A2, n2, c2, A3, n3, c3, S, M, X, rfl, hb, g0, g1, g2, g3, hC, hq⟩ := h3.at_ (k := 0) (by omega)
        rw [show o + 0 * 4 + 1 = o + 1 from by omega] at g1
        obtain rfl : n1 = m := by
          have := hm.out
          rw [hq.out] at this
          rw [← hC.s.len]; exact this
        clear g0 g2 g3 hC hq h3 hall
        have HE := Lib.hid fun W => empty_any (n1 : Int) W (m := n1) (by omega)
        go_wp2_with fail
        refine (HE.out _).mono ?_
        rintro e w3 ⟨⟨e1, e2, e3, rfl, ho, _⟩, hb3⟩
        have hR3 := hR2.below hb3 hR2.lt
        have hbe3 := below_then hbe2 hb3
        have hrs : w.heap.size < w2.heap.size := hR2.lt
        have r0 : w3.cell? ⟨w.heap.size, 0, none⟩ = some (.int .i64 0) := hR3.cell 0
        have r1 : w3.cell? ⟨w.heap.size, 1, none⟩ = some (.slice none 0 0) := hR3.cell 1
        have r2 : w3.cell? ⟨w.heap.size, 2, none⟩ = some (.slice none 0 0) := hR3.cell 2
        have r3 : w3.cell? ⟨w.heap.size, 3, none⟩ = some (.slice none 0 0) := hR3.cell 3
        have f0 := hR3.free 0
        have f1 := hR3.free 1
        have f2 := hR3.free 2
        have f3 := hR3.free 3
        have hRR := Lib.hid (hR3.put4_ (.int .i64 0) (.slice (some ⟨e1, 0, none⟩) n1 n1) (.slice (some ⟨e2, 0, none⟩) n1 n1) (.slice (some ⟨e3, 0, none⟩) n1 n1))
        have hRB := Lib.hid (below_put4 hbe3 (Nat.le_refl _) (.int .i64 0) (.slice (some ⟨e1, 0, none⟩) n1 n1) (.slice (some ⟨e2, 0, none⟩) n1 n1) (.slice (some ⟨e3, 0, none⟩) n1 n1))
        have hRO := Lib.hid ((ho.put4_ hrs (.int .i64 0) (.slice (some ⟨e1, 0, none⟩) n1 n1) (.slice (some ⟨e2, 0, none⟩) n1 n1) (.slice (some ⟨e3, 0, none⟩) n1 n1)).low (Nat.le_of_lt hrs))
        clear ho HE hb3
        go_wp2_with fail
        refine bodyPost_ret (results_block2 rfl _ _ w.heap.size _ _ rfl hRR.out Try.underlying26 rfl info_cell) rfl ?_
        rw [hZ.out]
        exact ⟨⟨_, _, _, rfl, hRO.out⟩, hRB.out⟩

/-- A fresh literal of two cells. -/
theorem HasCs.lit2 {w : World} {q q' : Int} {A1 A2 A3 B1 B2 B3 : Option Addr} {n1 c1 n2 c2 n3 c3 m1 d1 m2 d2 m3 d3 : Nat} {S M X S' M' X' : List Int}
    (ha : HasC w w.heap.size A1 n1 c1 A2 n2 c2 A3 n3 c3 S M X) (hb : HasC w w.heap.size B1 m1 d1 B2 m2 d2 B3 m3 d3 S' M' X') (T : TypeId) (g : Nat) (hg : g = w.heap.size) :
    HasCs (w.alloc (.cells #[.int .i64 q, .slice A1 n1 c1, .slice A2 n2 c2, .slice A3 n3 c3, .int .i64 q', .slice B1 m1 d1, .slice B2 m2 d2, .slice B3 m3 d3] T)) (w.alloc (.cells #[.int .i64 q, .slice A1 n1 c1, .slice A2 n2 c2, .slice A3 n3 c3, .int .i64 q', .slice B1 m1 d1, .slice B2 m2 d2, .slice B3 m3 d3] T)).heap.size
      (some ⟨g, 0, none⟩) 2 2 [(q, S, M, X), (q', S', M', X')] := by
  subst hg
  refine ⟨rfl, Nat.le_refl _, by decide, (fun h => by cases h), fun i hi => ?_⟩
  match i, hi with
  | 0, _ => exact ⟨w.heap.size, 0, _, _, _, _, _, _, _, _, _, rfl, by simp, ⟨by rw [cell_new]; rfl, by rw [cell_new]; rfl, by rw [cell_new]; rfl, by rw [cell_new]; rfl⟩, ha.allocS _⟩
  | 1, _ => exact ⟨w.heap.size, 0, _, _, _, _, _, _, _, _, _, rfl, by simp, ⟨by rw [cell_new]; rfl, by rw [cell_new]; rfl, by rw [cell_new]; rfl, by rw [cell_new]; rfl⟩, hb.allocS _⟩
  | (j + 2), h => exact absurd h (by omega)
set_option maxRecDepth 100000 in
set_option maxHeartbeats 2000000 in
theorem merge_any {q q' : Int} {A1 A2 A3 B1 B2 B3 : Option Addr} {n1 c1 n2 c2 n3 c3 m1 d1 m2 d2 m3 d3 : Nat} {S M X S' M' X' : List Int} {w : World}
    (ha : HasC w w.heap.size A1 n1 c1 A2 n2 c2 A3 n3 c3 S M X) (hb : HasC w w.heap.size B1 m1 d1 B2 m2 d2 B3 m3 d3 S' M' X') :
    Calls Try.prog 15 #[cellV q A1 n1 c1 A2 n2 c2 A3 n3 c3, cellV q' B1 m1 d1 B2 m2 d2 B3 m3 d3] w (TellC w (cMerge (q, S, M, X) (q', S', M', X'))) := by
  have hb3 := below_a3 w (.cells #[.int .i64 q, .slice A1 n1 c1, .slice A2 n2 c2, .slice A3 n3 c3] 26) (.cells #[.int .i64 q', .slice B1 m1 d1, .slice B2 m2 d2, .slice B3 m3 d3] 26) (.cells #[.int .i64 0, .slice none 0 0, .slice none 0 0, .slice none 0 0] 26)
  have hR3 := Block.new ((w.alloc (.cells #[.int .i64 q, .slice A1 n1 c1, .slice A2 n2 c2, .slice A3 n3 c3] 26)).alloc (.cells #[.int .i64 q', .slice B1 m1 d1, .slice B2 m2 d2, .slice B3 m3 d3] 26)) 26 #[.int .i64 0, .slice none 0 0, .slice none 0 0, .slice none 0 0]
  simp only [World.size_alloc] at hR3
  have ha3 := ha.belowS hb3
  have hb3' := hb.belowS hb3
  go_enter Try.func15, Try.ntmps15
  go_wp2_with fail
  have h4 := HasCs.lit2 (q := q) (q' := q') ha3 hb3' 26 (w.heap.size + 1 + 1 + 1) (by simp)
  have hR4 := hR3.alloc (.cells #[.int .i64 q, .slice A1 n1 c1, .slice A2 n2 c2, .slice A3 n3 c3, .int .i64 q', .slice B1 m1 d1, .slice B2 m2 d2, .slice B3 m3 d3] 26)
  have hb4 := below_then hb3 (below_a1 (((w.alloc (.cells #[.int .i64 q, .slice A1 n1 c1, .slice A2 n2 c2, .slice A3 n3 c3] 26)).alloc (.cells #[.int .i64 q', .slice B1 m1 d1, .slice B2 m2 d2, .slice B3 m3 d3] 26)).alloc (.cells #[.int .i64 0, .slice none 0 0, .slice none 0 0, .slice none 0 0] 26)) (.cells #[.int .i64 q, .slice A1 n1 c1, .slice A2 n2 c2, .slice A3 n3 c3, .int .i64 q', .slice B1 m1 d1, .slice B2 m2 d2, .slice B3 m3 d3] 26))
  clear ha hb ha3 hb3 hb3' hR3
  generalize (((w.alloc (.cells #[.int .i64 q, .slice A1 n1 c1, .slice A2 n2 c2, .slice A3 n3 c3] 26)).alloc (.cells #[.int .i64 q', .slice B1 m1 d1, .slice B2 m2 d2, .slice B3 m3 d3] 26)).alloc (.cells #[.int .i64 0, .slice none 0 0, .slice none 0 0, .slice none 0 0] 26)).alloc (.cells #[.int .i64 q, .slice A1 n1 c1, .slice A2 n2 c2, .slice A3 n3 c3, .int .i64 q', .slice B1 m1 d1, .slice B2 m2 d2, .slice B3 m3 d3] 26) = w4 at h4 hR4 hb4 ⊢
  have hr : w.heap.size ≤ w.heap.size + 1 + 1 := by omega
  generalize w.heap.size + 1 + 1 = g at h4 hR4 hr ⊢
  refine (sum_any h4 (by decide)).mono ?_
  rintro e w5 ⟨⟨v1, v2, v3, rfl, ho⟩, hb5⟩
  have hrs : g < w4.heap.size := hR4.lt
  have hR5 := hR4.below hb5 hrs
  have hbe := below_then hb4 hb5
  clear hb5
  have r0 : w5.cell? ⟨g, 0, none⟩ = some (.int .i64 0) := hR5.cell 0
  have r1 : w5.cell? ⟨g, 1, none⟩ = some (.slice none 0 0) := hR5.cell 1
  have r2 : w5.cell? ⟨g, 2, none⟩ = some (.slice none 0 0) := hR5.cell 2
  have r3 : w5.cell? ⟨g, 3, none⟩ = some (.slice none 0 0) := hR5.cell 3
  have f0 := hR5.free 0
  have f1 := hR5.free 1
  have f2 := hR5.free 2
  have f3 := hR5.free 3
  obtain ⟨E1, l1, k1, rfl, _⟩ := ho.s.formN
  obtain ⟨E2, l2, k2, rfl, _⟩ := ho.m.formN
  obtain ⟨E3, l3, k3, rfl, _⟩ := ho.x.formN
  obtain ⟨p, P, Q, R, y, hq⟩ : ∃ p P Q R y, Hid (cSum [(q, S, M, X), (q', S', M', X')] = ((p, P, Q, R), y)) := ⟨_, _, _, _, _, Lib.hid rfl⟩
  have hZ := Lib.hid (cSum_two (q, S, M, X) (q', S', M', X'))
  rw [hq.out] at ho hZ
  have hRR := Lib.hid (hR5.put4_ (.int .i64 p) (.slice E1 l1 k1) (.slice E2 l2 k2) (.slice E3 l3 k3))
  have hRB := Lib.hid (below_put4 hbe hr (.int .i64 p) (.slice E1 l1 k1) (.slice E2 l2 k2) (.slice E3 l3 k3))
  have hRO := Lib.hid ((ho.put4_ hrs (.int .i64 p) (.slice E1 l1 k1) (.slice E2 l2 k2) (.slice E3 l3 k3)).low hb4.size)
  rw [hq.out]
  clear ho hq h4 hbe
  go_wp2_with fail
  refine bodyPost_ret (results_block2 rfl _ _ g _ _ rfl hRR.out Try.underlying26 rfl info_cell) rfl ?_
  rw [← hZ.out]
  exact ⟨⟨_, _, _, rfl, hRO.out⟩, hRB.out⟩
end Go.Proofs.Ytbgbchbnidejhaa
