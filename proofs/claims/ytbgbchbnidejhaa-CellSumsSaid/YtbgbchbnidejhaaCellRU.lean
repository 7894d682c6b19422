/- Layer 5: the reference: Sum. -/
import Derived.Test.YtbgbchbnidejhaaCellRF
namespace Go.Proofs.Ytbgbchbnidejhaa
open Go.RowKit

/-! ### What stands in the variable behind the first k cells -/
def minsK (m : Nat) (L : List PC) (k : Nat) : List Int := (List.range m).map fun j => minL ((fullC (L.take k)).map fun c => c.2.2.1.getD j 0)
def maxsK (m : Nat) (L : List PC) (k : Nat) : List Int := (List.range m).map fun j => maxL ((fullC (L.take k)).map fun c => c.2.2.2.getD j 0)
theorem minsK_len (m : Nat) (L : List PC) (k : Nat) : (minsK m L k).length = m := by simp [minsK]
theorem maxsK_len (m : Nat) (L : List PC) (k : Nat) : (maxsK m L k).length = m := by simp [maxsK]
theorem minsK_zero (m : Nat) (L : List PC) : minsK m L 0 = List.replicate m 0 := by simp [minsK, fullC, minL, List.map_const']
theorem maxsK_zero (m : Nat) (L : List PC) : maxsK m L 0 = List.replicate m 0 := by simp [maxsK, fullC, maxL, List.map_const']
theorem minsK_none {m : Nat} {L : List PC} {k : Nat} (hk : k < L.length) (h : (L.getD k zeroC).1 = 0) : minsK m L (k + 1) = minsK m L k := by
  unfold minsK; rw [fullC_take hk, if_neg (by simpa using h), List.append_nil]
theorem maxsK_none {m : Nat} {L : List PC} {k : Nat} (hk : k < L.length) (h : (L.getD k zeroC).1 = 0) : maxsK m L (k + 1) = maxsK m L k := by
  unfold maxsK; rw [fullC_take hk, if_neg (by simpa using h), List.append_nil]
theorem minsK_at {m : Nat} {L : List PC} {k j : Nat} (hj : j < m) (hk : k < L.length) (h : (L.getD k zeroC).1 ≠ 0) : (minsK m L (k + 1)).getD j 0 = if fullC (L.take k) = [] then (L.getD k zeroC).2.2.1.getD j 0 else min ((minsK m L k).getD j 0) ((L.getD k zeroC).2.2.1.getD j 0) := by
  unfold minsK
  simp only [List.getD_eq_getElem?_getD, List.getElem?_map, List.getElem?_range hj, Option.map_some, Option.getD_some]
  rw [fullC_take hk, if_pos h]
  split
  · rename_i he
    rw [he]
    simp [minL, List.getD_eq_getElem?_getD]
  · rename_i he
    rw [List.map_append]
    have := minL_snoc (l := (fullC (L.take k)).map fun c => c.2.2.1.getD j 0) (by simpa using he) ((L.getD k zeroC).2.2.1.getD j 0)
    simpa [List.getD_eq_getElem?_getD] using this
theorem maxsK_at {m : Nat} {L : List PC} {k j : Nat} (hj : j < m) (hk : k < L.length) (h : (L.getD k zeroC).1 ≠ 0) : (maxsK m L (k + 1)).getD j 0 = if fullC (L.take k) = [] then (L.getD k zeroC).2.2.2.getD j 0 else max ((maxsK m L k).getD j 0) ((L.getD k zeroC).2.2.2.getD j 0) := by
  unfold maxsK
  simp only [List.getD_eq_getElem?_getD, List.getElem?_map, List.getElem?_range hj, Option.map_some, Option.getD_some]
  rw [fullC_take hk, if_pos h]
  split
  · rename_i he
    rw [he]
    simp [maxL, List.getD_eq_getElem?_getD]
  · rename_i he
    rw [List.map_append]
    have := maxL_snoc (l := (fullC (L.take k)).map fun c => c.2.2.2.getD j 0) (by simpa using he) ((L.getD k zeroC).2.2.2.getD j 0)
    simpa [List.getD_eq_getElem?_getD] using this
theorem headM_at0 (L : List PC) : headM L = (L.getD 0 zeroC).2.1.length := by cases L <;> rfl
theorem cSum_if {m : Nat} {L : List PC} (hn : L ≠ []) (hL : AllC m L) : cSum L = if sumI (L.map fun c => c.1) ≤ 1099511627776 ∧ ∀ k, k < m → inS (sumI (sumsAt L k)) then (sumC m L, 0) else (zeroC, 14) := by
  have hh := headM_is hn fun c hc => (hL.mem c hc).2
  unfold cSum
  rw [if_neg (by rintro (h | ⟨c, hc, h | h⟩); exact hn h; exact h (hL.mem c hc).1; exact h (by rw [hh]; exact (hL.mem c hc).2)), hh]
  rfl
/-- The first p of one row, the rest of another. -/
def mixL (a b : List Int) (p : Nat) : List Int := a.take p ++ b.drop p
theorem mixL_zero (a b : List Int) : mixL a b 0 = b := by simp [mixL]
theorem mixL_all {a b : List Int} (h : b.length = a.length) : mixL a b a.length = a := by
  unfold mixL
  rw [List.take_length, List.drop_of_length_le (by omega), List.append_nil]
theorem mixL_len {a b : List Int} {m p : Nat} (ha : a.length = m) (hb : b.length = m) (hp : p ≤ m) : (mixL a b p).length = m := by simp [mixL]; omega
theorem mixL_get {a b : List Int} {m p : Nat} (ha : a.length = m) (hb : b.length = m) (hp : p < m) : (mixL a b p).getD p 0 = b.getD p 0 := by
  unfold mixL
  rw [List.getD_eq_getElem?_getD, List.getD_eq_getElem?_getD, List.getElem?_append_right (by simp; omega), List.getElem?_drop, List.length_take, show p + (p - min p a.length) = p from by omega]
theorem mixL_set {a b : List Int} {m p : Nat} (ha : a.length = m) (hb : b.length = m) (hp : p < m) {y : Int} (hy : a.getD p 0 = y) : (mixL a b p).set p y = mixL a b (p + 1) := by
  apply List.ext_getElem?
  intro j
  unfold mixL
  rw [List.getElem?_set]
  by_cases hj : p = j
  · subst hj
    rw [if_pos rfl, if_pos (by simp; omega), List.getElem?_append_left (by simp; omega), List.getElem?_take, if_pos (by omega), ← hy, List.getD_eq_getElem?_getD, List.getElem?_eq_getElem (by omega)]
    rfl
  · rw [if_neg hj]
    by_cases hjp : j < p
    · rw [List.getElem?_append_left (by simp; omega), List.getElem?_append_left (by simp; omega), List.getElem?_take, List.getElem?_take, if_pos hjp, if_pos (by omega)]
    · rw [List.getElem?_append_right (by simp; omega), List.getElem?_append_right (by simp; omega), List.getElem?_drop, List.getElem?_drop, List.length_take, List.length_take]
      congr 1
      omega
theorem mixL_same {a b : List Int} {m p : Nat} (ha : a.length = m) (hb : b.length = m) (hp : p < m) (hy : a.getD p 0 = b.getD p 0) : mixL a b (p + 1) = mixL a b p := by
  rw [← mixL_set ha hb hp hy]
  apply List.ext_getElem?
  intro j
  rw [List.getElem?_set]
  by_cases hj : p = j
  · subst hj
    rw [if_pos rfl, if_pos (by rw [mixL_len ha hb (by omega)]; exact hp), ← mixL_get ha hb hp, List.getD_eq_getElem?_getD, List.getElem?_eq_getElem (by rw [mixL_len ha hb (by omega)]; exact hp)]
    rfl
  · rw [if_neg hj]
theorem full_count {L : List PC} (h : ∀ c ∈ L, 0 ≤ c.1) : sumI (L.map fun c => c.1) = 0 ↔ fullC L = [] := by
  have e : sumI (L.map fun c => c.1) = sumI ((fullC L).map fun c => c.1) := sumI_full (f := fun c => c.1) fun c _ h0 => h0
  have hp : ((fullC L).length : Int) ≤ sumI ((fullC L).map fun c => c.1) := by
    have := sumI_pos (l := (fullC L).map fun c => c.1) fun x hx => by
      obtain ⟨c, hc, rfl⟩ := List.mem_map.1 hx
      obtain ⟨h1, h2⟩ := List.mem_filter.1 hc
      have h3 := h c h1
      have h4 : c.1 ≠ 0 := by simpa using h2
      show 1 ≤ c.1
      omega
    rwa [List.length_map] at this
  constructor
  · intro h0
    apply List.eq_nil_of_length_eq_zero
    omega
  · intro h0
    rw [e, h0]; rfl
theorem counts_snoc {L : List PC} {k : Nat} (hk : k < L.length) : sumI ((L.take (k + 1)).map fun c => c.1) = sumI ((L.take k).map fun c => c.1) + (L.getD k zeroC).1 := by
  rw [List.take_add_one, List.map_append, sumI_app, List.getD_eq_getElem?_getD, List.getElem?_eq_getElem hk]
  simp [sumI]
theorem counts_mono {L : List PC} (h : ∀ c ∈ L, 0 ≤ c.1) (k : Nat) : sumI ((L.take k).map fun c => c.1) ≤ sumI (L.map fun c => c.1) := by
  have e : sumI (L.map fun c => c.1) = sumI ((L.take k).map fun c => c.1) + sumI ((L.drop k).map fun c => c.1) := by
    rw [← sumI_app, ← List.map_append, List.take_append_drop]
  have h2 : 0 ≤ sumI ((L.drop k).map fun c => c.1) := by
    have : ∀ {l : List PC}, (∀ c ∈ l, 0 ≤ c.1) → 0 ≤ sumI (l.map fun c => c.1) := by
      intro l
      induction l with
      | nil => intro _; simp [sumI]
      | cons c l ih =>
        intro h
        have h1 := h c (by simp)
        have h2 := ih fun d hd => h d (by simp [hd])
        simp only [List.map_cons, sumI]
        omega
    exact this fun c hc => h c (List.mem_of_mem_drop hc)
  omega
theorem sumsAt_len (L : List PC) (k : Nat) : (sumsAt L k).length = L.length := by simp [sumsAt]
theorem sumsAt_at {L : List PC} {k j : Nat} (hj : j < L.length) : (sumsAt L k).getD j 0 = (L.getD j zeroC).2.1.getD k 0 := by
  simp [sumsAt, List.getD_eq_getElem?_getD, hj]
/-- A row's cell is written. -/
theorem Acc.put2 {w0 w : World} {s g n c : Nat} {q : Int} {v1 v3 : Value} {S M X : List Int} (h : Acc w0 w s q v1 (.slice (some ⟨g, 0, none⟩) n c) v3 S M X) (j : Nat) (y : Int) :
    Acc w0 (w.setCell ⟨g, j, none⟩ (.int .i64 y)) s q v1 (.slice (some ⟨g, 0, none⟩) n c) v3 S (M.set j y) X := by
  have hT : 26 ≠ 3 := by decide
  have hs : g ≠ s := fun e => h.r2.ne_blk h.blk hT (by rw [e]; rfl)
  exact ⟨h.blk.elsewhere g j _ hs, h.r1.other (fun e => h.d12 g e rfl) _, h.r2.set_ j y, h.r3.other (fun e => h.d23 g rfl e) _, h.bel.setCell (p := ⟨g, j, none⟩) (h.r2.lt g rfl).1 _, h.hs, h.d12, h.d13, h.d23⟩
theorem Acc.put3 {w0 w : World} {s g n c : Nat} {q : Int} {v1 v2 : Value} {S M X : List Int} (h : Acc w0 w s q v1 v2 (.slice (some ⟨g, 0, none⟩) n c) S M X) (j : Nat) (y : Int) :
    Acc w0 (w.setCell ⟨g, j, none⟩ (.int .i64 y)) s q v1 v2 (.slice (some ⟨g, 0, none⟩) n c) S M (X.set j y) := by
  have hT : 26 ≠ 3 := by decide
  have hs : g ≠ s := fun e => h.r3.ne_blk h.blk hT (by rw [e]; rfl)
  exact ⟨h.blk.elsewhere g j _ hs, h.r1.other (fun e => h.d13 g e rfl) _, h.r2.other (fun e => h.d23 g e rfl) _, h.r3.set_ j y, h.bel.setCell (p := ⟨g, j, none⟩) (h.r3.lt g rfl).1 _, h.hs, h.d12, h.d13, h.d23⟩
theorem Acc.put1 {w0 w : World} {s g n c : Nat} {q : Int} {v2 v3 : Value} {S M X : List Int} (h : Acc w0 w s q (.slice (some ⟨g, 0, none⟩) n c) v2 v3 S M X) (j : Nat) (y : Int) :
    Acc w0 (w.setCell ⟨g, j, none⟩ (.int .i64 y)) s q (.slice (some ⟨g, 0, none⟩) n c) v2 v3 (S.set j y) M X := by
  have hT : 26 ≠ 3 := by decide
  have hs : g ≠ s := fun e => h.r1.ne_blk h.blk hT (by rw [e]; rfl)
  exact ⟨h.blk.elsewhere g j _ hs, h.r1.set_ j y, h.r2.other (fun e => h.d12 g rfl e) _, h.r3.other (fun e => h.d13 g rfl e) _, h.bel.setCell (p := ⟨g, j, none⟩) (h.r1.lt g rfl).1 _, h.hs, h.d12, h.d13, h.d23⟩
theorem Acc.putq {w0 w : World} {s : Nat} {q : Int} {v1 v2 v3 : Value} {S M X : List Int} (h : Acc w0 w s q v1 v2 v3 S M X) (q' : Int) : Acc w0 (w.setCell ⟨s, 0, none⟩ (.int .i64 q')) s q' v1 v2 v3 S M X := by
  have hT : 26 ≠ 3 := by decide
  exact ⟨h.blk.set_ 0 _, h.r1.other (h.r1.ne_blk h.blk hT) _, h.r2.other (h.r2.ne_blk h.blk hT) _, h.r3.other (h.r3.ne_blk h.blk hT) _, h.bel.setCell (p := ⟨s, 0, none⟩) h.hs _, h.hs, h.d12, h.d13, h.d23⟩
theorem OwnI.formG {w : World} {base : Nat} {v : Value} {l : List Int} (h : OwnI w base v l) (hl : 0 < l.length) : ∃ g cap, v = .slice (some ⟨g, 0, none⟩) l.length cap := by
  rcases h.2 with ⟨rfl, h0⟩ | ⟨g, cap, cur, rfl, _⟩
  · omega
  · exact ⟨g, cap, rfl⟩
set_option maxRecDepth 100000 in
set_option maxHeartbeats 4000000 in
theorem refSum_any {A : Option Addr} {n c : Nat} {L : List PC} {w : World} (h : HasCs w w.heap.size A n c L) (hn : n ≤ 1000) :
    Calls Try.prog 24 #[.slice A n c] w (TellC w (cSum L)) := by
  have hll := Lib.hid h.len
  have hcm := h.capMax
  have hcap := h.cap
  have hb0 := below_a1 w (.cells #[.int .i64 0, .slice none 0 0, .slice none 0 0, .slice none 0 0] 26)
  have hR := Block.new w 26 #[.int .i64 0, .slice none 0 0, .slice none 0 0, .slice none 0 0]
  by_cases h0 : n = 0
  · subst h0
    have hZ : Hid (cSum L = (zeroC, 1)) := Lib.hid (cSum_arg (.inl (List.eq_nil_of_length_eq_zero hll.out)))
    go_enter Try.func24, Try.ntmps24
    go_wp2_with fail
    refine bodyPost_ret (results_block2 rfl _ _ w.heap.size _ _ rfl hR Try.underlying26 rfl info_cell) rfl ?_
    rw [hZ.out]
    exact ⟨⟨_, _, _, rfl, zeroC_own _ _⟩, hb0⟩
  · have i2 : (0 : Int) < (n : Int) := by omega
    have i3 : ((n : Int) == 0) = false := by simp; omega
    obtain ⟨bA, oA, q0, A1, n1, c1, A2, n2, c2, A3, n3, c3, S0, M0, X0, rfl, hbA, _, hs0, _, _, hC0, hq0⟩ := h.at_ (k := 0) (by omega)
    rw [show oA + 0 * 4 + 1 = oA + 1 from by omega] at hs0
    obtain ⟨m, hm⟩ : ∃ m, m = n1 := ⟨_, rfl⟩
    subst hm
    have HM : Hid ((L.getD 0 zeroC).2.1.length = m) := Lib.hid (by rw [hq0.out]; exact hC0.s.len)
    have hm9 := hC0.s.lenMax
    clear hC0 hq0
    have h1 := h.below hb0 (Nat.le_refl _)
    have hs1 := (hb0.cell (p := ⟨bA, oA + 1, none⟩) hbA).trans hs0
    go_enter Try.func24, Try.ntmps24
    go_wp2_with fail
    generalize w.alloc (.cells #[.int .i64 0, .slice none 0 0, .slice none 0 0, .slice none 0 0] 26) = w1 at hb0 hR h1 hs1 ⊢
    have hrl := hR.lt
    clear h hs0
    go_loopw [4, 5] (fun i _ wr => ∃ k : Nat, k ≤ n ∧ i = .int .i64 k ∧ Hid (∀ j, j < k → cMay (L.getD j zeroC) ∧ (L.getD j zeroC).2.1.length = m) ∧ Below w1.heap.size w1 wr) (fun i _ _ => n - (intOf i).toNat)
    case atStart => exact ⟨0, Nat.zero_le _, rfl, Lib.hid fun j hj => absurd hj (by omega), Below.refl _ _⟩
    case round =>
      obtain ⟨k, hk, rfl, hJ, hbe⟩ := hrel
      have hRr := hR.below hbe hrl
      have hbeW := below_then hb0 hbe
      have hr := (h1.more hb0.size).below hbe (Nat.le_refl _)
      have hsr := (hbe.cell (p := ⟨bA, oA + 1, none⟩) (Nat.lt_of_lt_of_le hbA hb0.size)).trans hs1
      by_cases hlt : k < n
      · obtain ⟨b, o, q, B1, d1, e1, B2, d2, e2, B3, d3, e3, S, M, X, hAe, hb, g0, g1, g2, g3, hC, hq⟩ := hr.at_ hlt
        injection hAe with hAe
        injection hAe with hAe1 hAe2
        subst hAe1 hAe2
        have j0 : (0 : Int) ≤ (k : Int) := by omega
        have j1 : (k : Int) < (n : Int) := by omega
        have hlen := Lib.hid hC.s.len
        obtain ⟨r, hrr⟩ : ∃ r : Bool, Hid (r = true ↔ cMay (q, S, M, X)) := ⟨decide (cMay (q, S, M, X)), Lib.hid (by simp)⟩
        have HY := Lib.hid (refMay_any5 (n := q) (hC.more hbe.size) (r := r) hrr.out)
        go_wp2_with fail
        refine HY.out.mono ?_
        rintro e w5 ⟨rfl, hb5⟩
        have g1' := (hb5.cell (p := ⟨bA, oA + k * 4 + 1, none⟩) (World.block_lt_of_cell? _ _ g1)).trans g1
        have hs5 := (hb5.cell (p := ⟨bA, oA + 1, none⟩) (World.block_lt_of_cell? _ _ hsr)).trans hsr
        have hR5 := hRr.below hb5 hRr.lt
        have hbe5 := hbe.trans (hb5.mono hbe.size)
        have hbeW5 := below_then hb0 hbe5
        clear g0 g1 g2 g3 hsr hC HY hb5 hr hRr hbe hbeW
        cases r
        · have hZ : Hid (cSum L = (zeroC, 1)) := Lib.hid (cSum_arg (.inr ⟨L.getD k zeroC, by
            rw [List.getD_eq_getElem?_getD, List.getElem?_eq_getElem (by rw [hll.out]; exact hlt)]
            exact List.getElem_mem _, .inl (by rw [hq.out]; intro h; cases hrr.out.2 h)⟩))
          go_wp2_with fail
          go_big_quiet (fail)
          have r0 : (w5.drewN nq).cell? ⟨w.heap.size, 0, none⟩ = some (.int .i64 0) := (hR5.drewN nq).cell 0
          have r1 : (w5.drewN nq).cell? ⟨w.heap.size, 1, none⟩ = some (.slice none 0 0) := (hR5.drewN nq).cell 1
          have r2 : (w5.drewN nq).cell? ⟨w.heap.size, 2, none⟩ = some (.slice none 0 0) := (hR5.drewN nq).cell 2
          have r3 : (w5.drewN nq).cell? ⟨w.heap.size, 3, none⟩ = some (.slice none 0 0) := (hR5.drewN nq).cell 3
          have f0 := (hR5.drewN nq).free 0
          have f1 := (hR5.drewN nq).free 1
          have f2 := (hR5.drewN nq).free 2
          have f3 := (hR5.drewN nq).free 3
          have hRR := Lib.hid ((hR5.drewN nq).put4_ (.int .i64 0) (.slice none 0 0) (.slice none 0 0) (.slice none 0 0))
          have hRB := Lib.hid (below_put4 (below_drewN hbeW5 nq) (Nat.le_refl _) (.int .i64 0) (.slice none 0 0) (.slice none 0 0) (.slice none 0 0))
          go_wp2_with fail
          refine bodyPost_ret (results_block2 rfl _ _ w.heap.size _ _ rfl hRR.out Try.underlying26 rfl info_cell) rfl ?_
          rw [hZ.out]
          exact ⟨⟨_, _, _, rfl, zeroC_own _ _⟩, hRB.out⟩
        · by_cases hd : d1 = m
          · have hJ2 : Hid (∀ j, j < k + 1 → cMay (L.getD j zeroC) ∧ (L.getD j zeroC).2.1.length = m) := Lib.hid fun j hj => by
              by_cases h : j < k
              · exact hJ.out j h
              · obtain rfl : j = k := by omega
                rw [hq.out]
                exact ⟨hrr.out.1 rfl, by have := hlen.out; show S.length = m; omega⟩
            subst hd
            have hne : ((d1 : Int) != (d1 : Int)) = false := by simp
            have hbeD : ∀ q, Below w1.heap.size w1 (w5.drewN q) := fun q => below_drewN hbe5 q
            go_wp2_with fail
            go_big_quiet (fail)
            go_wp2_with fail
            go_roundw
            case rel => exact ⟨k + 1, by omega, by go_num, hJ2, hbeD _⟩
            case measure => simp [intOf]; omega
          · have hne : ((d1 : Int) != (m : Int)) = true := by simp; omega
            have hZ : Hid (cSum L = (zeroC, 1)) := Lib.hid (cSum_arg (.inr ⟨L.getD k zeroC, by
              rw [List.getD_eq_getElem?_getD, List.getElem?_eq_getElem (by rw [hll.out]; exact hlt)]
              exact List.getElem_mem _, .inr (by
                rw [headM_at0, HM.out, hq.out]
                have := hlen.out
                show ¬ S.length = m
                omega)⟩))
            go_wp2_with fail
            go_big_quiet (fail)
            have r0 : (w5.drewN nq).cell? ⟨w.heap.size, 0, none⟩ = some (.int .i64 0) := (hR5.drewN nq).cell 0
            have r1 : (w5.drewN nq).cell? ⟨w.heap.size, 1, none⟩ = some (.slice none 0 0) := (hR5.drewN nq).cell 1
            have r2 : (w5.drewN nq).cell? ⟨w.heap.size, 2, none⟩ = some (.slice none 0 0) := (hR5.drewN nq).cell 2
            have r3 : (w5.drewN nq).cell? ⟨w.heap.size, 3, none⟩ = some (.slice none 0 0) := (hR5.drewN nq).cell 3
            have f0 := (hR5.drewN nq).free 0
            have f1 := (hR5.drewN nq).free 1
            have f2 := (hR5.drewN nq).free 2
            have f3 := (hR5.drewN nq).free 3
            have hRR := Lib.hid ((hR5.drewN nq).put4_ (.int .i64 0) (.slice none 0 0) (.slice none 0 0) (.slice none 0 0))
            have hRB := Lib.hid (below_put4 (below_drewN hbeW5 nq) (Nat.le_refl _) (.int .i64 0) (.slice none 0 0) (.slice none 0 0) (.slice none 0 0))
            go_wp2_with fail
            refine bodyPost_ret (results_block2 rfl _ _ w.heap.size _ _ rfl hRR.out Try.underlying26 rfl info_cell) rfl ?_
            rw [hZ.out]
            exact ⟨⟨_, _, _, rfl, zeroC_own _ _⟩, hRB.out⟩
      · obtain rfl : k = n := by omega
        have HAll : Hid (AllC m L) := Lib.hid fun j hj => hJ.out j (by rw [← hll.out]; exact hj)
        have hm2 : m ≤ 2 := by
          have h3 := (HAll.out 0 (by rw [hll.out]; omega))
          have h4 := h3.1.1
          rw [h3.2] at h4
          exact h4
        have hpos : Hid (∀ c ∈ L, 0 ≤ c.1) := Lib.hid fun c hc => (cMay_count (HAll.out.mem c hc).1).1
        have hLne : Hid (L ≠ []) := Lib.hid fun e => by have := hll.out; rw [e] at this; simp at this; omega
        have HE := Lib.hid (refEmpty_any (m : Int) wr (m := m) (by omega))
        clear h1 hR hs1 hJ hlt hk
        go_wp2_with fail
        refine HE.out.mono ?_
        rintro e w5 ⟨⟨v1, v2, v3, rfl, ho, d12, d13, d23⟩, hb5⟩
        obtain ⟨E1, l1, k1, rfl, _⟩ := ho.s.formN
        obtain ⟨E2, l2, k2, rfl, _⟩ := ho.m.formN
        obtain ⟨E3, l3, k3, rfl, _⟩ := ho.x.formN
        have hA : Acc wr (w5.alloc (.cells #[.int .i64 0, .slice E1 l1 k1, .slice E2 l2 k2, .slice E3 l3 k3] 26)) w5.heap.size 0 (.slice E1 l1 k1) (.slice E2 l2 k2) (.slice E3 l3 k3) (List.replicate m 0) (minsK m L 0) (maxsK m L 0) := by
          rw [minsK_zero, maxsK_zero]
          exact ⟨Block.new w5 _ _, ho.s.alloc _, ho.m.alloc _, ho.x.alloc _, below_then hb5 (below_a1 w5 _), hb5.size, d12, d13, d23⟩
        clear ho hb5 HE d12 d13 d23
        go_wp2_with fail
        generalize w5.alloc (.cells #[.int .i64 0, .slice E1 l1 k1, .slice E2 l2 k2, .slice E3 l3 k3] 26) = ws at hA ⊢
        generalize w5.heap.size = s at hA ⊢
        obtain ⟨wE, rfl⟩ : ∃ wE, wE = wr := ⟨_, rfl⟩
        have hrE : w.heap.size < wE.heap.size := hRr.lt
        go_loopw [8] (fun i wr => ∃ (k' : Nat) (q : Int), k' ≤ k ∧ i = .int .i64 k' ∧ Hid (q = sumI ((L.take k').map fun c => c.1)) ∧ 0 ≤ q ∧ q ≤ 1099511627776 ∧ Acc wE wr s q (.slice E1 l1 k1) (.slice E2 l2 k2) (.slice E3 l3 k3) (List.replicate m 0) (minsK m L k') (maxsK m L k')) (fun i _ => k - (intOf i).toNat)
        case atStart => exact ⟨0, 0, Nat.zero_le _, rfl, Lib.hid (by simp [sumI]), by decide, by decide, hA⟩
        case round =>
          obtain ⟨k', q, hk', rfl, hq, hq0, hq9, hA2⟩ := hrel
          clear hA
          have hRr2 := hRr.below hA2.bel hrE
          have hbeW2 := hbeW.trans (hA2.bel.mono hbeW.size)
          by_cases hlt : k' < k
          · obtain ⟨b, o, qk, B1, d1, e1, B2, d2, e2, B3, d3, e3, S, M, X, hAe, hb, g0, g1, g2, g3, hC, hqk⟩ := hr.at_ hlt
            injection hAe with hAe
            injection hAe with hAe1 hAe2
            subst hAe1 hAe2
            have hml := cMay_len (by have := (HAll.out k' (by rw [hll.out]; exact hlt)).1; rwa [hqk.out] at this)
            have hml2 : S.length = m := by have := (HAll.out k' (by rw [hll.out]; exact hlt)).2; rwa [hqk.out] at this
            have hd2 : m = d2 := by have := hC.m.len; omega
            have hd3 : m = d3 := by have := hC.x.len; omega
            subst hd2
            subst hd3
            have qk0 : 0 ≤ qk := hml.2.2.2.1
            have qk9 : qk ≤ 1099511627776 := hml.2.2.2.2
            have j0 : (0 : Int) ≤ (k' : Int) := by omega
            have j1 : (k' : Int) < (k : Int) := by omega
            have G0 : wr.cell? ⟨bA, oA + k' * 4, none⟩ = some (.int .i64 qk) := (hA2.bel.cell (p := ⟨bA, oA + k' * 4, none⟩) (World.block_lt_of_cell? _ _ g0)).trans g0
            have hq2 : Hid (q + qk = sumI ((L.take (k' + 1)).map fun c => c.1)) := Lib.hid (by rw [counts_snoc (by rw [hll.out]; exact hlt), ← hq.out, hqk.out])
            clear hml hml2
            by_cases hz : qk = 0
            · subst hz
              have hz0 : (L.getD k' zeroC).1 = 0 := by rw [hqk.out]
              rw [← minsK_none (m := m) (by rw [hll.out]; exact hlt) hz0, ← maxsK_none (m := m) (by rw [hll.out]; exact hlt) hz0] at hA2
              rw [Int.add_zero] at hq2
              have hA4 := Lib.hid hA2
              clear g0 g1 g2 g3 hC hA2 hz0
              go_wp2_with fail
              go_roundw
              case rel => exact ⟨k' + 1, q, by omega, by go_num, hq2, hq0, hq9, hA4.out⟩
              case measure => simp [intOf]; omega
            · have hzne : ((qk : Int) == 0) = false := by simpa using hz
              have hfl : Hid (q = 0 ↔ fullC (L.take k') = []) := Lib.hid (by rw [hq.out]; exact full_count fun c hc => hpos.out c (List.mem_of_mem_take hc))
              obtain ⟨MN, hMN⟩ : ∃ MN, Hid (minsK m L (k' + 1) = MN) := ⟨_, Lib.hid rfl⟩
              obtain ⟨XN, hXN⟩ : ∃ XN, Hid (maxsK m L (k' + 1) = XN) := ⟨_, Lib.hid rfl⟩
              obtain ⟨MO, hMO⟩ : ∃ MO, Hid (minsK m L k' = MO) := ⟨_, Lib.hid rfl⟩
              obtain ⟨XO, hXO⟩ : ∃ XO, Hid (maxsK m L k' = XO) := ⟨_, Lib.hid rfl⟩
              have lM : Hid (MN.length = m ∧ XN.length = m ∧ MO.length = m ∧ XO.length = m) := Lib.hid (by rw [← hMN.out, ← hXN.out, ← hMO.out, ← hXO.out]; exact ⟨minsK_len _ _ _, maxsK_len _ _ _, minsK_len _ _ _, maxsK_len _ _ _⟩)
              have gM : Hid (∀ j, j < m → (MN.getD j 0 = if q = 0 then M.getD j 0 else min (MO.getD j 0) (M.getD j 0)) ∧ (XN.getD j 0 = if q = 0 then X.getD j 0 else max (XO.getD j 0) (X.getD j 0))) := Lib.hid fun j hj => by
                have h1 := minsK_at (m := m) (k := k') hj (by rw [hll.out]; exact hlt) (by rw [hqk.out]; exact hz)
                have h2 := maxsK_at (m := m) (k := k') hj (by rw [hll.out]; exact hlt) (by rw [hqk.out]; exact hz)
                rw [hMN.out, hMO.out, hqk.out] at h1
                rw [hXN.out, hXO.out, hqk.out] at h2
                simp only [hfl.out]
                exact ⟨h1, h2⟩
              rw [hMO.out, hXO.out] at hA2
              have hA3 : Acc wE wr s q (.slice E1 l1 k1) (.slice E2 l2 k2) (.slice E3 l3 k3) (List.replicate m 0) (mixL MN MO 0) (mixL XN XO 0) := by rw [mixL_zero, mixL_zero]; exact hA2
              clear hA2 hRr2 hbeW2 hfl hMO hXO
              go_wp2_with fail
              clear G0
              go_loopw [9] (fun i wr => ∃ p : Nat, p ≤ m ∧ i = .int .i64 p ∧ Acc wE wr s q (.slice E1 l1 k1) (.slice E2 l2 k2) (.slice E3 l3 k3) (List.replicate m 0) (mixL MN MO p) (mixL XN XO p)) (fun i _ => m - (intOf i).toNat)
              case atStart => exact ⟨0, Nat.zero_le _, rfl, hA3⟩
              case round =>
                obtain ⟨p, hp, rfl, hA4⟩ := hrel
                clear hA3
                by_cases hlt2 : p < m
                · -- IN3
                  obtain ⟨x2, o2, la, rfl, hx2, cla, ela⟩ := hC.m.at_ hlt2
                  obtain ⟨x3, o3, ga, rfl, hx3, cga, ega⟩ := hC.x.at_ hlt2
                  have F : Hid (∀ wa, Below wE.heap.size wE wa → wa.cell? ⟨bA, oA + k' * 4 + 2, none⟩ = some (.slice (some ⟨x2, o2, none⟩) m e2) ∧ wa.cell? ⟨bA, oA + k' * 4 + 3, none⟩ = some (.slice (some ⟨x3, o3, none⟩) m e3) ∧ wa.cell? ⟨x2, o2 + p, none⟩ = some (.int .i64 la) ∧ wa.cell? ⟨x3, o3 + p, none⟩ = some (.int .i64 ga)) :=
                    Lib.hid fun wa hwa => ⟨(hwa.cell (p := ⟨bA, oA + k' * 4 + 2, none⟩) (World.block_lt_of_cell? _ _ g2)).trans g2, (hwa.cell (p := ⟨bA, oA + k' * 4 + 3, none⟩) (World.block_lt_of_cell? _ _ g3)).trans g3, (hwa.cell (p := ⟨x2, o2 + p, none⟩) (World.block_lt_of_cell? _ _ cla)).trans cla, (hwa.cell (p := ⟨x3, o3 + p, none⟩) (World.block_lt_of_cell? _ _ cga)).trans cga⟩
                  obtain ⟨r2, c2', hE2⟩ := hA4.r2.formG (by rw [mixL_len lM.out.1 lM.out.2.2.1 hp]; omega)
                  obtain ⟨r3, c3', hE3⟩ := hA4.r3.formG (by rw [mixL_len lM.out.2.1 lM.out.2.2.2 hp]; omega)
                  injection hE2 with hE2 hl2 hc2
                  injection hE3 with hE3 hl3 hc3
                  rw [mixL_len lM.out.1 lM.out.2.2.1 hp] at hl2
                  rw [mixL_len lM.out.2.1 lM.out.2.2.2 hp] at hl3
                  have hl2 := hl2.symm
                  have hl3 := hl3.symm
                  subst hE2 hE3 hl2 hl3 hc2 hc3
                  have NE : Hid (r2 ≠ bA ∧ r3 ≠ bA ∧ r2 ≠ x2 ∧ r3 ≠ x3 ∧ r2 ≠ s ∧ r3 ≠ s) := Lib.hid (by
                    have h2 := (hA4.r2.lt r2 rfl).1
                    have h3 := (hA4.r3.lt r3 rfl).1
                    have h4 := World.block_lt_of_cell? _ _ g2
                    have h5 := World.block_lt_of_cell? _ _ cla
                    have h6 := World.block_lt_of_cell? _ _ cga
                    have h4 : bA < wE.heap.size := h4
                    have h5 : x2 < wE.heap.size := h5
                    have h6 : x3 < wE.heap.size := h6
                    have hT : 26 ≠ 3 := by decide
                    refine ⟨by omega, by omega, by omega, by omega, fun e => hA4.r2.ne_blk hA4.blk hT (by rw [e]; rfl), fun e => hA4.r3.ne_blk hA4.blk hT (by rw [e]; rfl)⟩)
                  have HG := Lib.hid (gM.out p hlt2)
                  rw [← ela.out, ← ega.out] at HG
                  obtain ⟨lo, hlo⟩ : ∃ lo, Hid (MO.getD p 0 = lo) := ⟨_, Lib.hid rfl⟩
                  obtain ⟨hi, hhi⟩ : ∃ hi, Hid (XO.getD p 0 = hi) := ⟨_, Lib.hid rfl⟩
                  rw [hlo.out, hhi.out] at HG
                  have i0 : (0 : Int) ≤ (p : Int) := by omega
                  have i1 : (p : Int) < (m : Int) := by omega
                  clear cla cga ela ega
                  obtain ⟨wi, rfl⟩ : ∃ wi, wi = wr := ⟨_, rfl⟩
                  by_cases hqz : q = 0
                  · have kq : ((q : Int) == 0) = true := by simpa using hqz
                    have HV2 : MN.getD p 0 = la := by have := HG.out.1; rwa [if_pos hqz] at this
                    have HV3 : XN.getD p 0 = ga := by have := HG.out.2; rwa [if_pos hqz] at this
                    clear hqz
                    obtain ⟨x2c, x3c, x4c, x5c⟩ := F.out wi hA4.bel
                    have y0 : wi.cell? ⟨s, 0, none⟩ = some (.int .i64 q) := hA4.blk.cell 0
                    have y2 : wi.cell? ⟨s, 2, none⟩ = some (.slice (some ⟨r2, 0, none⟩) m k2) := hA4.blk.cell 2
                    have y3 : wi.cell? ⟨s, 3, none⟩ = some (.slice (some ⟨r3, 0, none⟩) m k3) := hA4.blk.cell 3
                    have zc : wi.cell? ⟨r2, p, none⟩ = some (.int .i64 lo) := by
                      have := hA4.r2.cell_ p (by rw [mixL_len lM.out.1 lM.out.2.2.1 hp]; exact hlt2)
                      rwa [mixL_get lM.out.1 lM.out.2.2.1 hlt2, hlo.out] at this
                    go_wp2_with fail
                    go_big_quiet (fail)
                    have hB1 := hA4.below (w' := wi.drewN nq) (below_drewN (Below.refl _ _) nq)
                    clear x2c x3c x4c x5c y0 y2 y3
                    clear zc hA4
                    generalize wi.drewN nq = w1a at hB1 ⊢
                    obtain ⟨x2c, x3c, x4c, x5c⟩ := F.out w1a hB1.bel
                    have y0 : w1a.cell? ⟨s, 0, none⟩ = some (.int .i64 q) := hB1.blk.cell 0
                    have y2 : w1a.cell? ⟨s, 2, none⟩ = some (.slice (some ⟨r2, 0, none⟩) m k2) := hB1.blk.cell 2
                    have y3 : w1a.cell? ⟨s, 3, none⟩ = some (.slice (some ⟨r3, 0, none⟩) m k3) := hB1.blk.cell 3
                    have zc : w1a.cell? ⟨r2, p, none⟩ = some (.int .i64 lo) := by
                      have := hB1.r2.cell_ p (by rw [mixL_len lM.out.1 lM.out.2.2.1 hp]; exact hlt2)
                      rwa [mixL_get lM.out.1 lM.out.2.2.1 hlt2, hlo.out] at this
                    have zf := hB1.r2.free p
                    obtain ⟨ne1, ne2, ne3, ne4, ne5, ne6⟩ := NE.out
                    have ne1' := Ne.symm ne1
                    have ne2' := Ne.symm ne2
                    have ne3' := Ne.symm ne3
                    have ne4' := Ne.symm ne4
                    have ne5' := Ne.symm ne5
                    have ne6' := Ne.symm ne6
                    go_wp2_with fail
                    go_region_held3 (fun w' => w'.cell? ⟨s, 2, none⟩ = some (.slice (some ⟨r2, 0, none⟩) m k2) ∧ w'.cell? ⟨bA, oA + k' * 4 + 2, none⟩ = some (.slice (some ⟨x2, o2, none⟩) m e2) ∧ w'.cell? ⟨x2, o2 + p, none⟩ = some (.int .i64 la))
                      (first
                        | (refine ⟨?_, ?_, ?_⟩ <;> (go_keep; done))
                        | (go_keep; done))
                      (fail)
                    clear zc zf ne1 ne2 ne3 ne4 ne5 ne6 ne1' ne2' ne3' ne4' ne5' ne6'
                    clear x2c x3c x4c x5c y0 y2 y3
                    have hC1 := (hB1.put2 p la).below (w' := (w1a.setCell ⟨r2, p, none⟩ (.int .i64 la)).drew) (Below.drew (Below.refl _ _))
                    rw [mixL_set lM.out.1 lM.out.2.2.1 hlt2 HV2] at hC1
                    clear hB1
                    generalize (w1a.setCell ⟨r2, p, none⟩ (.int .i64 la)).drew = w1b at hC1 ⊢
                    obtain ⟨x2c, x3c, x4c, x5c⟩ := F.out w1b hC1.bel
                    have y0 : w1b.cell? ⟨s, 0, none⟩ = some (.int .i64 q) := hC1.blk.cell 0
                    have y2 : w1b.cell? ⟨s, 2, none⟩ = some (.slice (some ⟨r2, 0, none⟩) m k2) := hC1.blk.cell 2
                    have y3 : w1b.cell? ⟨s, 3, none⟩ = some (.slice (some ⟨r3, 0, none⟩) m k3) := hC1.blk.cell 3
                    have zc : w1b.cell? ⟨r3, p, none⟩ = some (.int .i64 hi) := by
                      have := hC1.r3.cell_ p (by rw [mixL_len lM.out.2.1 lM.out.2.2.2 hp]; exact hlt2)
                      rwa [mixL_get lM.out.2.1 lM.out.2.2.2 hlt2, hhi.out] at this
                    go_wp2_with fail
                    go_big_quiet (fail)
                    have hB2 := hC1.below (w' := w1b.drewN nq) (below_drewN (Below.refl _ _) nq)
                    clear x2c x3c x4c x5c y0 y2 y3
                    clear zc hC1
                    generalize w1b.drewN nq = w2a at hB2 ⊢
                    obtain ⟨x2c, x3c, x4c, x5c⟩ := F.out w2a hB2.bel
                    have y0 : w2a.cell? ⟨s, 0, none⟩ = some (.int .i64 q) := hB2.blk.cell 0
                    have y2 : w2a.cell? ⟨s, 2, none⟩ = some (.slice (some ⟨r2, 0, none⟩) m k2) := hB2.blk.cell 2
                    have y3 : w2a.cell? ⟨s, 3, none⟩ = some (.slice (some ⟨r3, 0, none⟩) m k3) := hB2.blk.cell 3
                    have zc : w2a.cell? ⟨r3, p, none⟩ = some (.int .i64 hi) := by
                      have := hB2.r3.cell_ p (by rw [mixL_len lM.out.2.1 lM.out.2.2.2 hp]; exact hlt2)
                      rwa [mixL_get lM.out.2.1 lM.out.2.2.2 hlt2, hhi.out] at this
                    have zf := hB2.r3.free p
                    obtain ⟨ne1, ne2, ne3, ne4, ne5, ne6⟩ := NE.out
                    have ne1' := Ne.symm ne1
                    have ne2' := Ne.symm ne2
                    have ne3' := Ne.symm ne3
                    have ne4' := Ne.symm ne4
                    have ne5' := Ne.symm ne5
                    have ne6' := Ne.symm ne6
                    go_wp2_with fail
                    go_region_held3 (fun w' => w'.cell? ⟨s, 3, none⟩ = some (.slice (some ⟨r3, 0, none⟩) m k3) ∧ w'.cell? ⟨bA, oA + k' * 4 + 3, none⟩ = some (.slice (some ⟨x3, o3, none⟩) m e3) ∧ w'.cell? ⟨x3, o3 + p, none⟩ = some (.int .i64 ga))
                      (first
                        | (refine ⟨?_, ?_, ?_⟩ <;> (go_keep; done))
                        | (go_keep; done))
                      (fail)
                    clear zc zf ne1 ne2 ne3 ne4 ne5 ne6 ne1' ne2' ne3' ne4' ne5' ne6'
                    clear x2c x3c x4c x5c y0 y2 y3
                    have hC2 := (hB2.put3 p ga).below (w' := (w2a.setCell ⟨r3, p, none⟩ (.int .i64 ga)).drew) (Below.drew (Below.refl _ _))
                    rw [mixL_set lM.out.2.1 lM.out.2.2.2 hlt2 HV3] at hC2
                    clear hB2
                    generalize (w2a.setCell ⟨r3, p, none⟩ (.int .i64 ga)).drew = w2b at hC2 ⊢
                    have hZ9 := Lib.hid hC2
                    clear hC2
                    go_wp2_with fail
                    go_roundw
                    case rel => exact ⟨p + 1, by omega, by go_num, hZ9.out⟩
                    case measure => simp [intOf]; omega
                  · have kq : ((q : Int) == 0) = false := by simpa using hqz
                    have HV2' : MN.getD p 0 = min lo la := by have := HG.out.1; rwa [if_neg hqz] at this
                    have HV3' : XN.getD p 0 = max hi ga := by have := HG.out.2; rwa [if_neg hqz] at this
                    clear hqz
                    by_cases hm1 : la < lo
                    · have kd : decide (la < lo) = true := by simpa using hm1
                      have HV2 : MN.getD p 0 = la := by rw [HV2']; omega
                      by_cases hm3 : hi < ga
                      · have ke : decide (hi < ga) = true := by simpa using hm3
                        have HV3 : XN.getD p 0 = ga := by rw [HV3']; omega
                        clear HV2' HV3'
                        obtain ⟨x2c, x3c, x4c, x5c⟩ := F.out wi hA4.bel
                        have y0 : wi.cell? ⟨s, 0, none⟩ = some (.int .i64 q) := hA4.blk.cell 0
                        have y2 : wi.cell? ⟨s, 2, none⟩ = some (.slice (some ⟨r2, 0, none⟩) m k2) := hA4.blk.cell 2
                        have y3 : wi.cell? ⟨s, 3, none⟩ = some (.slice (some ⟨r3, 0, none⟩) m k3) := hA4.blk.cell 3
                        have zc : wi.cell? ⟨r2, p, none⟩ = some (.int .i64 lo) := by
                          have := hA4.r2.cell_ p (by rw [mixL_len lM.out.1 lM.out.2.2.1 hp]; exact hlt2)
                          rwa [mixL_get lM.out.1 lM.out.2.2.1 hlt2, hlo.out] at this
                        go_wp2_with fail
                        go_big_quiet (fail)
                        have hB1 := hA4.below (w' := wi.drewN nq) (below_drewN (Below.refl _ _) nq)
                        clear x2c x3c x4c x5c y0 y2 y3
                        clear zc hA4
                        generalize wi.drewN nq = w1a at hB1 ⊢
                        obtain ⟨x2c, x3c, x4c, x5c⟩ := F.out w1a hB1.bel
                        have y0 : w1a.cell? ⟨s, 0, none⟩ = some (.int .i64 q) := hB1.blk.cell 0
                        have y2 : w1a.cell? ⟨s, 2, none⟩ = some (.slice (some ⟨r2, 0, none⟩) m k2) := hB1.blk.cell 2
                        have y3 : w1a.cell? ⟨s, 3, none⟩ = some (.slice (some ⟨r3, 0, none⟩) m k3) := hB1.blk.cell 3
                        have zc : w1a.cell? ⟨r2, p, none⟩ = some (.int .i64 lo) := by
                          have := hB1.r2.cell_ p (by rw [mixL_len lM.out.1 lM.out.2.2.1 hp]; exact hlt2)
                          rwa [mixL_get lM.out.1 lM.out.2.2.1 hlt2, hlo.out] at this
                        have zf := hB1.r2.free p
                        obtain ⟨ne1, ne2, ne3, ne4, ne5, ne6⟩ := NE.out
                        have ne1' := Ne.symm ne1
                        have ne2' := Ne.symm ne2
                        have ne3' := Ne.symm ne3
                        have ne4' := Ne.symm ne4
                        have ne5' := Ne.symm ne5
                        have ne6' := Ne.symm ne6
                        go_wp2_with fail
                        go_region_held3 (fun w' => w'.cell? ⟨s, 2, none⟩ = some (.slice (some ⟨r2, 0, none⟩) m k2) ∧ w'.cell? ⟨bA, oA + k' * 4 + 2, none⟩ = some (.slice (some ⟨x2, o2, none⟩) m e2) ∧ w'.cell? ⟨x2, o2 + p, none⟩ = some (.int .i64 la))
                          (first
                            | (refine ⟨?_, ?_, ?_⟩ <;> (go_keep; done))
                            | (go_keep; done))
                          (fail)
                        clear zc zf ne1 ne2 ne3 ne4 ne5 ne6 ne1' ne2' ne3' ne4' ne5' ne6'
                        clear x2c x3c x4c x5c y0 y2 y3
                        have hC1 := (hB1.put2 p la).below (w' := (w1a.setCell ⟨r2, p, none⟩ (.int .i64 la)).drew) (Below.drew (Below.refl _ _))
                        rw [mixL_set lM.out.1 lM.out.2.2.1 hlt2 HV2] at hC1
                        clear hB1
                        generalize (w1a.setCell ⟨r2, p, none⟩ (.int .i64 la)).drew = w1b at hC1 ⊢
                        obtain ⟨x2c, x3c, x4c, x5c⟩ := F.out w1b hC1.bel
                        have y0 : w1b.cell? ⟨s, 0, none⟩ = some (.int .i64 q) := hC1.blk.cell 0
                        have y2 : w1b.cell? ⟨s, 2, none⟩ = some (.slice (some ⟨r2, 0, none⟩) m k2) := hC1.blk.cell 2
                        have y3 : w1b.cell? ⟨s, 3, none⟩ = some (.slice (some ⟨r3, 0, none⟩) m k3) := hC1.blk.cell 3
                        have zc : w1b.cell? ⟨r3, p, none⟩ = some (.int .i64 hi) := by
                          have := hC1.r3.cell_ p (by rw [mixL_len lM.out.2.1 lM.out.2.2.2 hp]; exact hlt2)
                          rwa [mixL_get lM.out.2.1 lM.out.2.2.2 hlt2, hhi.out] at this
                        go_wp2_with fail
                        go_big_quiet (fail)
                        have hB2 := hC1.below (w' := w1b.drewN nq) (below_drewN (Below.refl _ _) nq)
                        clear x2c x3c x4c x5c y0 y2 y3
                        clear zc hC1
                        generalize w1b.drewN nq = w2a at hB2 ⊢
                        obtain ⟨x2c, x3c, x4c, x5c⟩ := F.out w2a hB2.bel
                        have y0 : w2a.cell? ⟨s, 0, none⟩ = some (.int .i64 q) := hB2.blk.cell 0
                        have y2 : w2a.cell? ⟨s, 2, none⟩ = some (.slice (some ⟨r2, 0, none⟩) m k2) := hB2.blk.cell 2
                        have y3 : w2a.cell? ⟨s, 3, none⟩ = some (.slice (some ⟨r3, 0, none⟩) m k3) := hB2.blk.cell 3
                        have zc : w2a.cell? ⟨r3, p, none⟩ = some (.int .i64 hi) := by
                          have := hB2.r3.cell_ p (by rw [mixL_len lM.out.2.1 lM.out.2.2.2 hp]; exact hlt2)
                          rwa [mixL_get lM.out.2.1 lM.out.2.2.2 hlt2, hhi.out] at this
                        have zf := hB2.r3.free p
                        obtain ⟨ne1, ne2, ne3, ne4, ne5, ne6⟩ := NE.out
                        have ne1' := Ne.symm ne1
                        have ne2' := Ne.symm ne2
                        have ne3' := Ne.symm ne3
                        have ne4' := Ne.symm ne4
                        have ne5' := Ne.symm ne5
                        have ne6' := Ne.symm ne6
                        go_wp2_with fail
                        go_region_held3 (fun w' => w'.cell? ⟨s, 3, none⟩ = some (.slice (some ⟨r3, 0, none⟩) m k3) ∧ w'.cell? ⟨bA, oA + k' * 4 + 3, none⟩ = some (.slice (some ⟨x3, o3, none⟩) m e3) ∧ w'.cell? ⟨x3, o3 + p, none⟩ = some (.int .i64 ga))
                          (first
                            | (refine ⟨?_, ?_, ?_⟩ <;> (go_keep; done))
                            | (go_keep; done))
                          (fail)
                        clear zc zf ne1 ne2 ne3 ne4 ne5 ne6 ne1' ne2' ne3' ne4' ne5' ne6'
                        clear x2c x3c x4c x5c y0 y2 y3
                        have hC2 := (hB2.put3 p ga).below (w' := (w2a.setCell ⟨r3, p, none⟩ (.int .i64 ga)).drew) (Below.drew (Below.refl _ _))
                        rw [mixL_set lM.out.2.1 lM.out.2.2.2 hlt2 HV3] at hC2
                        clear hB2
                        generalize (w2a.setCell ⟨r3, p, none⟩ (.int .i64 ga)).drew = w2b at hC2 ⊢
                        have hZ9 := Lib.hid hC2
                        clear hC2
                        go_wp2_with fail
                        go_roundw
                        case rel => exact ⟨p + 1, by omega, by go_num, hZ9.out⟩
                        case measure => simp [intOf]; omega
                      · have ke : decide (hi < ga) = false := by simpa using hm3
                        have HV3 : XN.getD p 0 = hi := by rw [HV3']; omega
                        clear HV2' HV3'
                        obtain ⟨x2c, x3c, x4c, x5c⟩ := F.out wi hA4.bel
                        have y0 : wi.cell? ⟨s, 0, none⟩ = some (.int .i64 q) := hA4.blk.cell 0
                        have y2 : wi.cell? ⟨s, 2, none⟩ = some (.slice (some ⟨r2, 0, none⟩) m k2) := hA4.blk.cell 2
                        have y3 : wi.cell? ⟨s, 3, none⟩ = some (.slice (some ⟨r3, 0, none⟩) m k3) := hA4.blk.cell 3
                        have zc : wi.cell? ⟨r2, p, none⟩ = some (.int .i64 lo) := by
                          have := hA4.r2.cell_ p (by rw [mixL_len lM.out.1 lM.out.2.2.1 hp]; exact hlt2)
                          rwa [mixL_get lM.out.1 lM.out.2.2.1 hlt2, hlo.out] at this
                        go_wp2_with fail
                        go_big_quiet (fail)
                        have hB1 := hA4.below (w' := wi.drewN nq) (below_drewN (Below.refl _ _) nq)
                        clear x2c x3c x4c x5c y0 y2 y3
                        clear zc hA4
                        generalize wi.drewN nq = w1a at hB1 ⊢
                        obtain ⟨x2c, x3c, x4c, x5c⟩ := F.out w1a hB1.bel
                        have y0 : w1a.cell? ⟨s, 0, none⟩ = some (.int .i64 q) := hB1.blk.cell 0
                        have y2 : w1a.cell? ⟨s, 2, none⟩ = some (.slice (some ⟨r2, 0, none⟩) m k2) := hB1.blk.cell 2
                        have y3 : w1a.cell? ⟨s, 3, none⟩ = some (.slice (some ⟨r3, 0, none⟩) m k3) := hB1.blk.cell 3
                        have zc : w1a.cell? ⟨r2, p, none⟩ = some (.int .i64 lo) := by
                          have := hB1.r2.cell_ p (by rw [mixL_len lM.out.1 lM.out.2.2.1 hp]; exact hlt2)
                          rwa [mixL_get lM.out.1 lM.out.2.2.1 hlt2, hlo.out] at this
                        have zf := hB1.r2.free p
                        obtain ⟨ne1, ne2, ne3, ne4, ne5, ne6⟩ := NE.out
                        have ne1' := Ne.symm ne1
                        have ne2' := Ne.symm ne2
                        have ne3' := Ne.symm ne3
                        have ne4' := Ne.symm ne4
                        have ne5' := Ne.symm ne5
                        have ne6' := Ne.symm ne6
                        go_wp2_with fail
                        go_region_held3 (fun w' => w'.cell? ⟨s, 2, none⟩ = some (.slice (some ⟨r2, 0, none⟩) m k2) ∧ w'.cell? ⟨bA, oA + k' * 4 + 2, none⟩ = some (.slice (some ⟨x2, o2, none⟩) m e2) ∧ w'.cell? ⟨x2, o2 + p, none⟩ = some (.int .i64 la))
                          (first
                            | (refine ⟨?_, ?_, ?_⟩ <;> (go_keep; done))
                            | (go_keep; done))
                          (fail)
                        clear zc zf ne1 ne2 ne3 ne4 ne5 ne6 ne1' ne2' ne3' ne4' ne5' ne6'
                        clear x2c x3c x4c x5c y0 y2 y3
                        have hC1 := (hB1.put2 p la).below (w' := (w1a.setCell ⟨r2, p, none⟩ (.int .i64 la)).drew) (Below.drew (Below.refl _ _))
                        rw [mixL_set lM.out.1 lM.out.2.2.1 hlt2 HV2] at hC1
                        clear hB1
                        generalize (w1a.setCell ⟨r2, p, none⟩ (.int .i64 la)).drew = w1b at hC1 ⊢
                        obtain ⟨x2c, x3c, x4c, x5c⟩ := F.out w1b hC1.bel
                        have y0 : w1b.cell? ⟨s, 0, none⟩ = some (.int .i64 q) := hC1.blk.cell 0
                        have y2 : w1b.cell? ⟨s, 2, none⟩ = some (.slice (some ⟨r2, 0, none⟩) m k2) := hC1.blk.cell 2
                        have y3 : w1b.cell? ⟨s, 3, none⟩ = some (.slice (some ⟨r3, 0, none⟩) m k3) := hC1.blk.cell 3
                        have zc : w1b.cell? ⟨r3, p, none⟩ = some (.int .i64 hi) := by
                          have := hC1.r3.cell_ p (by rw [mixL_len lM.out.2.1 lM.out.2.2.2 hp]; exact hlt2)
                          rwa [mixL_get lM.out.2.1 lM.out.2.2.2 hlt2, hhi.out] at this
                        go_wp2_with fail
                        go_big_quiet (fail)
                        have hB2 := hC1.below (w' := w1b.drewN nq) (below_drewN (Below.refl _ _) nq)
                        clear x2c x3c x4c x5c y0 y2 y3
                        clear zc hC1
                        generalize w1b.drewN nq = w2a at hB2 ⊢
                        rw [← mixL_same lM.out.2.1 lM.out.2.2.2 hlt2 (HV3.trans hhi.out.symm)] at hB2
                        have hZ9 := Lib.hid hB2
                        clear hB2
                        go_wp2_with fail
                        go_roundw
                        case rel => exact ⟨p + 1, by omega, by go_num, hZ9.out⟩
                        case measure => simp [intOf]; omega
                    · have kd : decide (la < lo) = false := by simpa using hm1
                      have HV2 : MN.getD p 0 = lo := by rw [HV2']; omega
                      by_cases hm3 : hi < ga
                      · have ke : decide (hi < ga) = true := by simpa using hm3
                        have HV3 : XN.getD p 0 = ga := by rw [HV3']; omega
                        clear HV2' HV3'
                        obtain ⟨x2c, x3c, x4c, x5c⟩ := F.out wi hA4.bel
                        have y0 : wi.cell? ⟨s, 0, none⟩ = some (.int .i64 q) := hA4.blk.cell 0
                        have y2 : wi.cell? ⟨s, 2, none⟩ = some (.slice (some ⟨r2, 0, none⟩) m k2) := hA4.blk.cell 2
                        have y3 : wi.cell? ⟨s, 3, none⟩ = some (.slice (some ⟨r3, 0, none⟩) m k3) := hA4.blk.cell 3
                        have zc : wi.cell? ⟨r2, p, none⟩ = some (.int .i64 lo) := by
                          have := hA4.r2.cell_ p (by rw [mixL_len lM.out.1 lM.out.2.2.1 hp]; exact hlt2)
                          rwa [mixL_get lM.out.1 lM.out.2.2.1 hlt2, hlo.out] at this
                        go_wp2_with fail
                        go_big_quiet (fail)
                        have hB1 := hA4.below (w' := wi.drewN nq) (below_drewN (Below.refl _ _) nq)
                        clear x2c x3c x4c x5c y0 y2 y3
                        clear zc hA4
                        generalize wi.drewN nq = w1a at hB1 ⊢
                        rw [← mixL_same lM.out.1 lM.out.2.2.1 hlt2 (HV2.trans hlo.out.symm)] at hB1
                        obtain ⟨x2c, x3c, x4c, x5c⟩ := F.out w1a hB1.bel
                        have y0 : w1a.cell? ⟨s, 0, none⟩ = some (.int .i64 q) := hB1.blk.cell 0
                        have y2 : w1a.cell? ⟨s, 2, none⟩ = some (.slice (some ⟨r2, 0, none⟩) m k2) := hB1.blk.cell 2
                        have y3 : w1a.cell? ⟨s, 3, none⟩ = some (.slice (some ⟨r3, 0, none⟩) m k3) := hB1.blk.cell 3
                        have zc : w1a.cell? ⟨r3, p, none⟩ = some (.int .i64 hi) := by
                          have := hB1.r3.cell_ p (by rw [mixL_len lM.out.2.1 lM.out.2.2.2 hp]; exact hlt2)
                          rwa [mixL_get lM.out.2.1 lM.out.2.2.2 hlt2, hhi.out] at this
                        go_wp2_with fail
                        go_big_quiet (fail)
                        have hB2 := hB1.below (w' := w1a.drewN nq) (below_drewN (Below.refl _ _) nq)
                        clear x2c x3c x4c x5c y0 y2 y3
                        clear zc hB1
                        generalize w1a.drewN nq = w2a at hB2 ⊢
                        obtain ⟨x2c, x3c, x4c, x5c⟩ := F.out w2a hB2.bel
                        have y0 : w2a.cell? ⟨s, 0, none⟩ = some (.int .i64 q) := hB2.blk.cell 0
                        have y2 : w2a.cell? ⟨s, 2, none⟩ = some (.slice (some ⟨r2, 0, none⟩) m k2) := hB2.blk.cell 2
                        have y3 : w2a.cell? ⟨s, 3, none⟩ = some (.slice (some ⟨r3, 0, none⟩) m k3) := hB2.blk.cell 3
                        have zc : w2a.cell? ⟨r3, p, none⟩ = some (.int .i64 hi) := by
                          have := hB2.r3.cell_ p (by rw [mixL_len lM.out.2.1 lM.out.2.2.2 hp]; exact hlt2)
                          rwa [mixL_get lM.out.2.1 lM.out.2.2.2 hlt2, hhi.out] at this
                        have zf := hB2.r3.free p
                        obtain ⟨ne1, ne2, ne3, ne4, ne5, ne6⟩ := NE.out
                        have ne1' := Ne.symm ne1
                        have ne2' := Ne.symm ne2
                        have ne3' := Ne.symm ne3
                        have ne4' := Ne.symm ne4
                        have ne5' := Ne.symm ne5
                        have ne6' := Ne.symm ne6
                        go_wp2_with fail
                        go_region_held3 (fun w' => w'.cell? ⟨s, 3, none⟩ = some (.slice (some ⟨r3, 0, none⟩) m k3) ∧ w'.cell? ⟨bA, oA + k' * 4 + 3, none⟩ = some (.slice (some ⟨x3, o3, none⟩) m e3) ∧ w'.cell? ⟨x3, o3 + p, none⟩ = some (.int .i64 ga))
                          (first
                            | (refine ⟨?_, ?_, ?_⟩ <;> (go_keep; done))
                            | (go_keep; done))
                          (fail)
                        clear zc zf ne1 ne2 ne3 ne4 ne5 ne6 ne1' ne2' ne3' ne4' ne5' ne6'
                        clear x2c x3c x4c x5c y0 y2 y3
                        have hC2 := (hB2.put3 p ga).below (w' := (w2a.setCell ⟨r3, p, none⟩ (.int .i64 ga)).drew) (Below.drew (Below.refl _ _))
                        rw [mixL_set lM.out.2.1 lM.out.2.2.2 hlt2 HV3] at hC2
                        clear hB2
                        generalize (w2a.setCell ⟨r3, p, none⟩ (.int .i64 ga)).drew = w2b at hC2 ⊢
                        have hZ9 := Lib.hid hC2
                        clear hC2
                        go_wp2_with fail
                        go_roundw
                        case rel => exact ⟨p + 1, by omega, by go_num, hZ9.out⟩
                        case measure => simp [intOf]; omega
                      · have ke : decide (hi < ga) = false := by simpa using hm3
                        have HV3 : XN.getD p 0 = hi := by rw [HV3']; omega
                        clear HV2' HV3'
                        obtain ⟨x2c, x3c, x4c, x5c⟩ := F.out wi hA4.bel
                        have y0 : wi.cell? ⟨s, 0, none⟩ = some (.int .i64 q) := hA4.blk.cell 0
                        have y2 : wi.cell? ⟨s, 2, none⟩ = some (.slice (some ⟨r2, 0, none⟩) m k2) := hA4.blk.cell 2
                        have y3 : wi.cell? ⟨s, 3, none⟩ = some (.slice (some ⟨r3, 0, none⟩) m k3) := hA4.blk.cell 3
                        have zc : wi.cell? ⟨r2, p, none⟩ = some (.int .i64 lo) := by
                          have := hA4.r2.cell_ p (by rw [mixL_len lM.out.1 lM.out.2.2.1 hp]; exact hlt2)
                          rwa [mixL_get lM.out.1 lM.out.2.2.1 hlt2, hlo.out] at this
                        go_wp2_with fail
                        go_big_quiet (fail)
                        have hB1 := hA4.below (w' := wi.drewN nq) (below_drewN (Below.refl _ _) nq)
                        clear x2c x3c x4c x5c y0 y2 y3
                        clear zc hA4
                        generalize wi.drewN nq = w1a at hB1 ⊢
                        rw [← mixL_same lM.out.1 lM.out.2.2.1 hlt2 (HV2.trans hlo.out.symm)] at hB1
                        obtain ⟨x2c, x3c, x4c, x5c⟩ := F.out w1a hB1.bel
                        have y0 : w1a.cell? ⟨s, 0, none⟩ = some (.int .i64 q) := hB1.blk.cell 0
                        have y2 : w1a.cell? ⟨s, 2, none⟩ = some (.slice (some ⟨r2, 0, none⟩) m k2) := hB1.blk.cell 2
                        have y3 : w1a.cell? ⟨s, 3, none⟩ = some (.slice (some ⟨r3, 0, none⟩) m k3) := hB1.blk.cell 3
                        have zc : w1a.cell? ⟨r3, p, none⟩ = some (.int .i64 hi) := by
                          have := hB1.r3.cell_ p (by rw [mixL_len lM.out.2.1 lM.out.2.2.2 hp]; exact hlt2)
                          rwa [mixL_get lM.out.2.1 lM.out.2.2.2 hlt2, hhi.out] at this
                        go_wp2_with fail
                        go_big_quiet (fail)
                        have hB2 := hB1.below (w' := w1a.drewN nq) (below_drewN (Below.refl _ _) nq)
                        clear x2c x3c x4c x5c y0 y2 y3
                        clear zc hB1
                        generalize w1a.drewN nq = w2a at hB2 ⊢
                        rw [← mixL_same lM.out.2.1 lM.out.2.2.2 hlt2 (HV3.trans hhi.out.symm)] at hB2
                        have hZ9 := Lib.hid hB2
                        clear hB2
                        go_wp2_with fail
                        go_roundw
                        case rel => exact ⟨p + 1, by omega, by go_num, hZ9.out⟩
                        case measure => simp [intOf]; omega
                · obtain rfl : p = m := by omega
                  have hA5 : Acc wE wr s q (.slice E1 l1 k1) (.slice E2 l2 k2) (.slice E3 l3 k3) (List.replicate p 0) MN XN := by
                    have h1 := mixL_all (a := MN) (b := MO) (by rw [lM.out.1, lM.out.2.2.1])
                    have h2 := mixL_all (a := XN) (b := XO) (by rw [lM.out.2.1, lM.out.2.2.2])
                    rw [lM.out.1] at h1
                    rw [lM.out.2.1] at h2
                    rwa [h1, h2] at hA4
                  have G0 : wr.cell? ⟨bA, oA + k' * 4, none⟩ = some (.int .i64 qk) := (hA5.bel.cell (p := ⟨bA, oA + k' * 4, none⟩) (World.block_lt_of_cell? _ _ g0)).trans g0
                  have y0 : wr.cell? ⟨s, 0, none⟩ = some (.int .i64 q) := hA5.blk.cell 0
                  have y1 := hA5.blk.free 0
                  have hsum : IntKind.i64.wrap (q + qk) = q + qk := IntWalk.i64_in _ (by omega)
                  clear hA4 g0 g1 g2 g3 hC
                  go_wp2_with fail
                  go_region_with (fail)
                  all_goals
                    have hA6 := (hA5.putq (q + qk)).below (w' := (wr.setCell ⟨s, 0, none⟩ (.int .i64 (q + qk))).drew) (Below.drew (Below.refl _ _))
                    clear hsum
                    generalize (wr.setCell ⟨s, 0, none⟩ (.int .i64 (q + qk))).drew = wb at hA6 ⊢
                    clear hA5 G0 y0 y1
                    have y0 : wb.cell? ⟨s, 0, none⟩ = some (.int .i64 (q + qk)) := hA6.blk.cell 0
                    by_cases hbig : 1099511627776 < q + qk
                    · have hZ : Hid (cSum L = (zeroC, 14)) := Lib.hid (by
                        rw [cSum_if hLne.out HAll.out, if_neg]
                        intro hcc
                        have h1 := counts_mono hpos.out (k' + 1)
                        rw [← hq2.out] at h1
                        have := hcc.1
                        omega)
                      have hRb := hRr.below hA6.bel hrE
                      have hbeb := hbeW.trans (hA6.bel.mono hbeW.size)
                      have r0 : wb.cell? ⟨w.heap.size, 0, none⟩ = some (.int .i64 0) := hRb.cell 0
                      have r1 : wb.cell? ⟨w.heap.size, 1, none⟩ = some (.slice none 0 0) := hRb.cell 1
                      have r2 : wb.cell? ⟨w.heap.size, 2, none⟩ = some (.slice none 0 0) := hRb.cell 2
                      have r3 : wb.cell? ⟨w.heap.size, 3, none⟩ = some (.slice none 0 0) := hRb.cell 3
                      have f0 := hRb.free 0
                      have f1 := hRb.free 1
                      have f2 := hRb.free 2
                      have f3 := hRb.free 3
                      have hRR := Lib.hid (hRb.put4_ (.int .i64 0) (.slice none 0 0) (.slice none 0 0) (.slice none 0 0))
                      have hRB := Lib.hid (below_put4 hbeb (Nat.le_refl _) (.int .i64 0) (.slice none 0 0) (.slice none 0 0) (.slice none 0 0))
                      go_wp2_with fail
                      refine bodyPost_ret (results_block2 rfl _ _ w.heap.size _ _ rfl hRR.out Try.underlying26 rfl info_cell) rfl ?_
                      rw [hZ.out]
                      exact ⟨⟨_, _, _, rfl, zeroC_own _ _⟩, hRB.out⟩
                    · have hA7 := Lib.hid hA6
                      have hq3 : 0 ≤ q + qk := by omega
                      have hq4 : q + qk ≤ 1099511627776 := by omega
                      rw [← hMN.out, ← hXN.out] at hA7
                      clear hA6
                      go_wp2_with fail
                      go_roundw
                      case rel => exact ⟨k' + 1, q + qk, by omega, by go_num, hq2, hq3, hq4, hA7.out⟩
                      case measure => simp [intOf]; omega
          · obtain rfl : k' = k := by omega
            have hLk : L.take k' = L := List.take_of_length_le (by rw [hll.out]; exact Nat.le_refl _)
            obtain ⟨Q, Fs, Fm, Fx, hF⟩ : ∃ Q Fs Fm Fx, Hid (sumC m L = (Q, Fs, Fm, Fx)) := ⟨_, _, _, _, Lib.hid rfl⟩
            have hqQ : q = Q := by
              rw [hq.out, hLk]
              exact congrArg (·.1) hF.out
            subst hqQ
            have hmF : minsK m L k' = Fm := by
              unfold minsK
              rw [hLk]
              exact congrArg (·.2.2.1) hF.out
            have hxF : maxsK m L k' = Fx := by
              unfold maxsK
              rw [hLk]
              exact congrArg (·.2.2.2) hF.out
            have lF : Hid (Fs.length = m) := Lib.hid (by have := (sumC_length m L).1; rwa [hF.out] at this)
            have gF : Hid (∀ j, j < m → Fs.getD j 0 = sumI (sumsAt L j)) := Lib.hid fun j hj => by have := (sumC_get L hj).1; rwa [hF.out] at this
            have hQs : Hid (sumI (L.map fun c => c.1) ≤ 1099511627776) := Lib.hid (by rw [← hLk, ← hq.out]; exact hq9)
            rw [hmF, hxF] at hA2
            have hA3 : Acc wE wr s q (.slice E1 l1 k1) (.slice E2 l2 k2) (.slice E3 l3 k3) (nums Fs 0) Fm Fx := by rw [nums_zero, lF.out]; exact hA2
            clear hA2 hmF hxF hLk hq hRr2 hbeW2 hlt hk'
            go_wp2_with fail
            go_loopw [10] (fun i wr => ∃ p : Nat, p ≤ m ∧ i = .int .i64 p ∧ Hid (∀ j, j < p → inS (sumI (sumsAt L j))) ∧ Acc wE wr s q (.slice E1 l1 k1) (.slice E2 l2 k2) (.slice E3 l3 k3) (nums Fs p) Fm Fx) (fun i _ => m - (intOf i).toNat)
            case atStart => exact ⟨0, Nat.zero_le _, rfl, Lib.hid fun j hj => absurd hj (by omega), hA3⟩
            case round =>
              obtain ⟨p, hp, rfl, hQ, hA4⟩ := hrel
              clear hA3
              by_cases hlt : p < m
              · go_wp2_with fail
                obtain ⟨wo, rfl⟩ : ∃ wo, wo = wr := ⟨_, rfl⟩
                go_loopw [11, 12] (fun v i wr => ∃ (j : Nat) (v' : Value), j ≤ k' ∧ v = v' ∧ i = .int .i64 j ∧ OwnI wr wo.heap.size v' ((sumsAt L p).take j) ∧ Below wo.heap.size wo wr) (fun _ i _ => k' - (intOf i).toNat)
                case atStart => exact ⟨0, _, Nat.zero_le _, rfl, rfl, OwnI.nil_ _ _, Below.refl _ _⟩
                case round =>
                  obtain ⟨j, v', hj, rfl, rfl, hO, hbi⟩ := hrel
                  by_cases hjk : j < k'
                  · obtain ⟨b, o, qk, B1, d1, e1, B2, d2, e2, B3, d3, e3, S, M, X, hAe, hb, g0, g1, g2, g3, hC, hqk⟩ := (hr.below (hA4.bel.trans (hbi.mono hA4.bel.size)) hbe.size).at_ hjk
                    injection hAe with hAe
                    injection hAe with hAe1 hAe2
                    subst hAe1 hAe2
                    have hd1 : d1 = m := by
                      have h1 := (HAll.out j (by rw [hll.out]; exact hjk)).2
                      rw [hqk.out] at h1
                      rw [← hC.s.len]; exact h1
                    subst hd1
                    obtain ⟨x1, o1, y, rfl, _, cy, ey⟩ := hC.s.at_ hlt
                    have hyc : Hid ((sumsAt L p).getD j 0 = y) := Lib.hid (by rw [sumsAt_at (by rw [hll.out]; exact hjk), hqk.out, ← ey.out])
                    have hjl : Hid (j < (sumsAt L p).length) := Lib.hid (by rw [sumsAt_len, hll.out]; exact hjk)
                    have i0 : (0 : Int) ≤ (p : Int) := by omega
                    have i1 : (p : Int) < (d1 : Int) := by omega
                    have j0 : (0 : Int) ≤ (j : Int) := by omega
                    have j1 : (j : Int) < (k' : Int) := by omega
                    obtain ⟨E, le, de, rfl, _⟩ := hO.formN
                    have hzi := hbi.size
                    clear g0 g2 g3 hC ey hqk
                    go_wp2_with (at_builtin; refine wpList_appI rfl _ _ rfl wo.heap.size _ _ rfl (hO.alloc _) _ rfl y (cell_lit _ _ _ _ (by simp)) (Nat.le_trans (List.length_take_le j _) (by omega)) (by rw [World.size_alloc]; omega) ?_)
                    intro u wj hO2 hG2
                    obtain ⟨E', le', de', rfl, _⟩ := hO2.formN
                    rw [take_snoc hjl.out hyc.out] at hO2
                    have hbj := Lib.hid ((hbi.alloc hzi _).trans (hG2.below_ (by rw [World.size_alloc]; omega) fun q e => (hO.lt q e).1))
                    have hOj := Lib.hid hO2
                    clear hO2 hG2 hO hbi g1 cy
                    go_wp2_with fail
                    go_roundw
                    case rel => exact ⟨j + 1, _, by omega, rfl, by go_num, hOj.out, hbj.out⟩
                    case measure => simp [intOf]; omega
                  · obtain rfl : j = k' := by omega
                    have hA5 := hA4.below hbi
                    have hcl : (sumsAt L p).take j = sumsAt L p := List.take_of_length_le (by rw [sumsAt_len, hll.out]; exact Nat.le_refl _)
                    rw [hcl] at hO
                    obtain ⟨E, le, de, rfl, hE, _⟩ := hO.formN
                    obtain ⟨z, bz, hs⟩ : ∃ z b, Hid (TotIs (sumI (sumsAt L p)) z b) := by
                      obtain ⟨z, b, h⟩ := totIs_any (sumI (sumsAt L p))
                      exact ⟨z, b, Lib.hid h⟩
                    have HT := Lib.hid (refTot_any hE (by have := hE.len; rw [sumsAt_len, hll.out] at this; omega) (HAll.out.i64s hlt) hs.out)
                    clear hcl hE hO hA4 hbi
                    go_wp2_with fail
                    refine HT.out.mono ?_
                    rintro e w6 ⟨rfl, hb6⟩
                    have hA6 := hA5.below hb6
                    clear hA5 hb6 HT
                    rcases hs.out with ⟨hin, hz, rfl⟩ | ⟨hin, rfl, _⟩
                    · have hQ2 : Hid (∀ j, j < p + 1 → inS (sumI (sumsAt L j))) := Lib.hid fun j hj => by
                        by_cases h : j < p
                        · exact hQ.out j h
                        · obtain rfl : j = p := by omega
                          exact hin
                      have hzp : Fs.getD p 0 = z := (gF.out p hlt).trans hz.symm
                      have hnl : (nums Fs p).length = m := by rw [nums_length _ _ (by rw [lF.out]; omega), lF.out]
                      obtain ⟨r1, c1', hE1⟩ := hA6.r1.formG (by rw [hnl]; omega)
                      injection hE1 with hE1 hl1 hc1
                      rw [hnl] at hl1
                      subst hE1 hl1 hc1
                      have y1 : w6.cell? ⟨s, 1, none⟩ = some (.slice (some ⟨r1, 0, none⟩) l1 k1) := hA6.blk.cell 1
                      have y2 := hA6.r1.cell_ p (by rw [hnl]; exact hlt)
                      have y3 := hA6.r1.free p
                      have hA7 := hA6.put1 p z
                      rw [← hzp, nums_set (by rw [lF.out]; exact hlt), hzp] at hA7
                      have hA8 := Lib.hid hA7
                      have i0 : (0 : Int) ≤ (p : Int) := by omega
                      have i1 : (p : Int) < (l1 : Int) := by omega
                      clear hA6 hA7 hzp hnl hs hin hz
                      go_wp2_with fail
                      go_roundw
                      case rel => exact ⟨p + 1, by omega, by go_num, hQ2, hA8.out⟩
                      case measure => simp [intOf]; omega
                    · have hZ : Hid (cSum L = (zeroC, 14)) := Lib.hid (by
                        rw [cSum_if hLne.out HAll.out, if_neg]
                        intro hcc
                        exact hin (hcc.2 p hlt))
                      have hRb := hRr.below hA6.bel hrE
                      have hbeb := hbeW.trans (hA6.bel.mono hbeW.size)
                      clear hA6 hin hs
                      have r0 : w6.cell? ⟨w.heap.size, 0, none⟩ = some (.int .i64 0) := hRb.cell 0
                      have r1 : w6.cell? ⟨w.heap.size, 1, none⟩ = some (.slice none 0 0) := hRb.cell 1
                      have r2 : w6.cell? ⟨w.heap.size, 2, none⟩ = some (.slice none 0 0) := hRb.cell 2
                      have r3 : w6.cell? ⟨w.heap.size, 3, none⟩ = some (.slice none 0 0) := hRb.cell 3
                      have f0 := hRb.free 0
                      have f1 := hRb.free 1
                      have f2 := hRb.free 2
                      have f3 := hRb.free 3
                      have hRR := Lib.hid (hRb.put4_ (.int .i64 0) (.slice none 0 0) (.slice none 0 0) (.slice none 0 0))
                      have hRB := Lib.hid (below_put4 hbeb (Nat.le_refl _) (.int .i64 0) (.slice none 0 0) (.slice none 0 0) (.slice none 0 0))
                      go_wp2_with fail
                      refine bodyPost_ret (results_block2 rfl _ _ w.heap.size _ _ rfl hRR.out Try.underlying26 rfl info_cell) rfl ?_
                      rw [hZ.out]
                      exact ⟨⟨_, _, _, rfl, zeroC_own _ _⟩, hRB.out⟩
              · obtain rfl : p = m := by omega
                have hnF : nums Fs p = Fs := by have := nums_all Fs; rwa [lF.out] at this
                rw [hnF] at hA4
                have s0 : wr.cell? ⟨s, 0, none⟩ = some (.int .i64 q) := hA4.blk.cell 0
                have s1 : wr.cell? ⟨s, 1, none⟩ = some (.slice E1 l1 k1) := hA4.blk.cell 1
                have s2 : wr.cell? ⟨s, 2, none⟩ = some (.slice E2 l2 k2) := hA4.blk.cell 2
                have s3 : wr.cell? ⟨s, 3, none⟩ = some (.slice E3 l3 k3) := hA4.blk.cell 3
                have hRb := hRr.below hA4.bel hrE
                have hbeb := hbeW.trans (hA4.bel.mono hbeW.size)
                have hZ : Hid (cSum L = ((q, Fs, Fm, Fx), 0)) := Lib.hid (by rw [cSum_if hLne.out HAll.out, if_pos ⟨hQs.out, hQ.out⟩, hF.out])
                have r0 : wr.cell? ⟨w.heap.size, 0, none⟩ = some (.int .i64 0) := hRb.cell 0
                have r1 : wr.cell? ⟨w.heap.size, 1, none⟩ = some (.slice none 0 0) := hRb.cell 1
                have r2 : wr.cell? ⟨w.heap.size, 2, none⟩ = some (.slice none 0 0) := hRb.cell 2
                have r3 : wr.cell? ⟨w.heap.size, 3, none⟩ = some (.slice none 0 0) := hRb.cell 3
                have f0 := hRb.free 0
                have f1 := hRb.free 1
                have f2 := hRb.free 2
                have f3 := hRb.free 3
                have hO := hA4.own.put4_ hrE (.int .i64 q) (.slice E1 l1 k1) (.slice E2 l2 k2) (.slice E3 l3 k3)
                have hRR := Lib.hid (hRb.put4_ (.int .i64 q) (.slice E1 l1 k1) (.slice E2 l2 k2) (.slice E3 l3 k3))
                have hRB := Lib.hid (below_put4 hbeb (Nat.le_refl _) (.int .i64 q) (.slice E1 l1 k1) (.slice E2 l2 k2) (.slice E3 l3 k3))
                have hRO := Lib.hid (hO.low (Nat.le_of_lt hrE))
                clear hO hA4 hnF
                go_wp2_with fail
                refine bodyPost_ret (results_block2 rfl _ _ w.heap.size _ _ rfl hRR.out Try.underlying26 rfl info_cell) rfl ?_
                rw [hZ.out]
                exact ⟨⟨_, _, _, rfl, hRO.out⟩, hRB.out⟩
end Go.Proofs.Ytbgbchbnidejhaa
