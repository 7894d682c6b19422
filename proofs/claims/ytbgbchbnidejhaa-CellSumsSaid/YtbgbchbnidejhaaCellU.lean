/- Layer 5: together. -/
import Derived.Test.YtbgbchbnidejhaaCellP
namespace Go.Proofs.Ytbgbchbnidejhaa
open Go.RowKit

/-- The sum's variable s and its rows, the first k1, k2, k3 measures told. -/
structure TogAt (w0 w : World) (s : Nat) (q : Int) (g1 g2 g3 m k1 k2 k3 : Nat) (S M X : List Int) : Prop where
  blk : Block w s 26 #[.int .i64 q, .slice (some ⟨g1, 0, none⟩) m m, .slice (some ⟨g2, 0, none⟩) m m, .slice (some ⟨g3, 0, none⟩) m m]
  rs : OwnI w w0.heap.size (.slice (some ⟨g1, 0, none⟩) m m) (nums S k1)
  rm : OwnI w w0.heap.size (.slice (some ⟨g2, 0, none⟩) m m) (nums M k2)
  rx : OwnI w w0.heap.size (.slice (some ⟨g3, 0, none⟩) m m) (nums X k3)
  bel : Below w0.heap.size w0 w
  n1 : g1 ≠ s
  n2 : g2 ≠ s
  n3 : g3 ≠ s
  hs : w0.heap.size ≤ s
section
variable {w0 w w' : World} {s g1 g2 g3 m k1 k2 k3 : Nat} {q : Int} {S M X : List Int}
theorem TogAt.below (h : TogAt w0 w s q g1 g2 g3 m k1 k2 k3 S M X) (hb : Below w.heap.size w w') : TogAt w0 w' s q g1 g2 g3 m k1 k2 k3 S M X :=
  ⟨h.blk.below hb h.blk.lt, h.rs.below hb (Nat.le_refl _), h.rm.below hb (Nat.le_refl _), h.rx.below hb (Nat.le_refl _), h.bel.trans (hb.mono h.bel.size), h.n1, h.n2, h.n3, h.hs⟩
theorem TogAt.own_ne {g : Nat} (h : g ≠ s) : (Value.slice (some ⟨g, 0, none⟩) m m).ownBlock ≠ some s := by
  intro e
  injection e with e
  exact h e
theorem TogAt.setq (h : TogAt w0 w s q g1 g2 g3 m k1 k2 k3 S M X) (q' : Int) : TogAt w0 (w.setCell ⟨s, 0, none⟩ (.int .i64 q')) s q' g1 g2 g3 m k1 k2 k3 S M X :=
  ⟨h.blk.set_ 0 _, h.rs.other (own_ne h.n1) _, h.rm.other (own_ne h.n2) _, h.rx.other (own_ne h.n3) _, h.bel.setCell (p := ⟨s, 0, none⟩) h.hs _, h.n1, h.n2, h.n3, h.hs⟩
theorem TogAt.set1 (h : TogAt w0 w s q g1 g2 g3 m k1 k2 k3 S M X) (h12 : g1 ≠ g2) (h13 : g1 ≠ g3) (hl : S.length = m) (hk : k1 < m) (y : Int) (hy : S.getD k1 0 = y) :
    TogAt w0 (w.setCell ⟨g1, k1, none⟩ (.int .i64 y)) s q g1 g2 g3 m (k1 + 1) k2 k3 S M X := by
  subst hy
  exact ⟨h.blk.elsewhere g1 k1 _ h.n1, by rw [← nums_set (by omega)]; exact h.rs.set_ k1 _, h.rm.other (own_ne (Ne.symm h12)) _, h.rx.other (own_ne (Ne.symm h13)) _, h.bel.setCell (p := ⟨g1, k1, none⟩) (h.rs.lt g1 rfl).1 _, h.n1, h.n2, h.n3, h.hs⟩
theorem TogAt.set2 (h : TogAt w0 w s q g1 g2 g3 m k1 k2 k3 S M X) (h12 : g1 ≠ g2) (h23 : g2 ≠ g3) (hl : M.length = m) (hk : k2 < m) (y : Int) (hy : M.getD k2 0 = y) :
    TogAt w0 (w.setCell ⟨g2, k2, none⟩ (.int .i64 y)) s q g1 g2 g3 m k1 (k2 + 1) k3 S M X := by
  subst hy
  exact ⟨h.blk.elsewhere g2 k2 _ h.n2, h.rs.other (own_ne h12) _, by rw [← nums_set (by omega)]; exact h.rm.set_ k2 _, h.rx.other (own_ne (Ne.symm h23)) _, h.bel.setCell (p := ⟨g2, k2, none⟩) (h.rm.lt g2 rfl).1 _, h.n1, h.n2, h.n3, h.hs⟩
theorem TogAt.set3 (h : TogAt w0 w s q g1 g2 g3 m k1 k2 k3 S M X) (h13 : g1 ≠ g3) (h23 : g2 ≠ g3) (hl : X.length = m) (hk : k3 < m) (y : Int) (hy : X.getD k3 0 = y) :
    TogAt w0 (w.setCell ⟨g3, k3, none⟩ (.int .i64 y)) s q g1 g2 g3 m k1 k2 (k3 + 1) S M X := by
  subst hy
  exact ⟨h.blk.elsewhere g3 k3 _ h.n3, h.rs.other (own_ne h13) _, h.rm.other (own_ne h23) _, by rw [← nums_set (by omega)]; exact h.rx.set_ k3 _, h.bel.setCell (p := ⟨g3, k3, none⟩) (h.rx.lt g3 rfl).1 _, h.n1, h.n2, h.n3, h.hs⟩
end
/-- A cell of four written whole. -/
abbrev put4 (w : World) (r : Nat) (a b c d : Value) : World := (((w.setCell ⟨r, 0, none⟩ a).setCell ⟨r, 1, none⟩ b).setCell ⟨r, 2, none⟩ c).setCell ⟨r, 3, none⟩ d
section
variable {w w' : World} {r base : Nat} {a b c d a' b' c' d' v1 v2 v3 : Value} {T : TypeId} {S M X : List Int}
theorem Block.put4_ (h : Block w r T #[a, b, c, d]) (a' b' c' d' : Value) : Block (put4 w r a' b' c' d') r T #[a', b', c', d'] := (((h.set_ 0 a').set_ 1 b').set_ 2 c').set_ 3 d'
theorem OwnC.put4_ (h : OwnC w base v1 v2 v3 S M X) (hr : r < base) (a' b' c' d' : Value) : OwnC (put4 w r a' b' c' d') base v1 v2 v3 S M X := by
  have key : ∀ {v : Value} {l : List Int} {w : World}, OwnI w base v l → ∀ (j : Nat) (u : Value), OwnI (w.setCell ⟨r, j, none⟩ u) base v l := fun h j u => h.other (fun e => by have := (h.lt r e).1; omega) u
  exact ⟨key (key (key (key h.s 0 a') 1 b') 2 c') 3 d', key (key (key (key h.m 0 a') 1 b') 2 c') 3 d', key (key (key (key h.x 0 a') 1 b') 2 c') 3 d'⟩
theorem below_put4 {B : Nat} (h : Below B w w') (hr : B ≤ r) (a' b' c' d' : Value) : Below B w (put4 w' r a' b' c' d') :=
  (((h.setCell (p := ⟨r, 0, none⟩) hr _).setCell (p := ⟨r, 1, none⟩) hr _).setCell (p := ⟨r, 2, none⟩) hr _).setCell (p := ⟨r, 3, none⟩) hr _
end

set_option maxRecDepth 100000 in
set_option maxHeartbeats 2000000 in
theorem together_any {A : Option Addr} {n c m : Nat} {L : List PC} {w : World} (h : HasCs w w.heap.size A n c L) (h0 : 0 < n) (hn : n ≤ 1000000) (hm : m ≤ 2) (HL : AllC m L) (hf : 0 < (L.getD 0 zeroC).1) :
    Calls Try.prog 35 #[.slice A n c] w (TellC w (togC m L)) := by
  have hlm := h.lenMax
  have hll := Lib.hid h.len
  have HLL := Lib.hid HL
  have Hf := Lib.hid hf
  obtain ⟨b, o, q, A1, n1, c1, A2, n2, c2, A3, n3, c3, S, M, X, rfl, hb, g0, g1, g2, g3, hC, hq⟩ := h.at_ h0
  rw [show o + 0 * 4 + 1 = o + 1 from by omega] at g1
  obtain rfl : n1 = m := by
    have := (HL 0 (by rw [hll.out]; exact h0)).2
    rw [hq.out] at this
    rw [← hC.s.len]; exact this
  clear HL hf g0 g2 g3 hC hq
  have i2 : (0 : Int) < (n : Int) := by omega
  have hs1 : ((w.alloc (.cells #[.int .i64 0, .slice none 0 0, .slice none 0 0, .slice none 0 0] 26))).cell? ⟨b, o + 1, none⟩ = some (.slice A1 n1 c1) := ((below_a1 w _).cell (p := ⟨b, o + 1, none⟩) hb).trans g1
  clear g1
  go_enter Try.func35, Try.ntmps35
  go_wp2_with fail
  refine (empty_any (n1 : Int) _ (m := n1) (by omega)).mono ?_
  rintro e w1 ⟨⟨e1, e2, e3, rfl, ho, d12, d13, d23⟩, hb1⟩
  have hR := Block.new w 26 #[.int .i64 0, .slice none 0 0, .slice none 0 0, .slice none 0 0]
  have hbw := below_a1 w (.cells #[.int .i64 0, .slice none 0 0, .slice none 0 0, .slice none 0 0] 26)
  have hrs : w.heap.size < (w.alloc (.cells #[.int .i64 0, .slice none 0 0, .slice none 0 0, .slice none 0 0] 26)).heap.size := by simp
  clear hs1
  generalize w.alloc (.cells #[.int .i64 0, .slice none 0 0, .slice none 0 0, .slice none 0 0] 26) = w0 at ho hb1 hR hbw hrs ⊢
  obtain ⟨Q, Ss, Ms, Xs, hs⟩ : ∃ Q Ss Ms Xs, sumC n1 L = (Q, Ss, Ms, Xs) := ⟨_, _, _, _, rfl⟩
  have HSC := Lib.hid hs
  have hQ : Hid (sumI (L.map fun c => c.1) = Q) := Lib.hid (congrArg (·.1) hs)
  obtain ⟨l1, l2, l3⟩ : Ss.length = n1 ∧ Ms.length = n1 ∧ Xs.length = n1 := by
    have := sumC_length n1 L
    rw [hs] at this
    exact this
  clear hs
  have T1 : TogAt w0 (w1.alloc (.cells #[.int .i64 0, .slice (some ⟨e1, 0, none⟩) n1 n1, .slice (some ⟨e2, 0, none⟩) n1 n1, .slice (some ⟨e3, 0, none⟩) n1 n1] 26)) w1.heap.size 0 e1 e2 e3 n1 0 0 0 Ss Ms Xs :=
    ⟨Block.new w1 _ _, by rw [nums_zero, l1]; exact ho.s.alloc _, by rw [nums_zero, l2]; exact ho.m.alloc _, by rw [nums_zero, l3]; exact ho.x.alloc _, below_then hb1 (below_a1 w1 _),
      Nat.ne_of_lt (ho.s.lt e1 rfl).2, Nat.ne_of_lt (ho.m.lt e2 rfl).2, Nat.ne_of_lt (ho.x.lt e3 rfl).2, hb1.size⟩
  clear ho hb1
  go_wp2_with fail
  generalize w1.alloc (.cells #[.int .i64 0, .slice (some ⟨e1, 0, none⟩) n1 n1, .slice (some ⟨e2, 0, none⟩) n1 n1, .slice (some ⟨e3, 0, none⟩) n1 n1] 26) = w2 at T1 ⊢
  generalize w1.heap.size = s at T1 ⊢
  have hbw2 := hbw.trans (T1.bel.mono hbw.size)
  refine (ctotal_any (h.belowS hbw2) hn 41 #[] (fun c => c.1) (fun _ _ => rfl) (fun k hk q A1 n1 c1 A2 n2 c2 A3 n3 c3 S M X W hW hC hq => number_count q A1 n1 c1 A2 n2 c2 A3 n3 c3 W) HLL.out.i64c (z := Q) (x := 0) (.inl ⟨(HLL.out.count (by rw [hll.out]; exact hn)).2, hQ.out.symm, rfl⟩)).mono ?_
  rintro e w3 ⟨rfl, hb3⟩
  have T2 := T1.below hb3
  have s0 := T2.blk.cell 0
  have s1 := T2.blk.free 0
  have T3 := T2.setq Q
  clear T1 T2 hb3 hbw2
  have s2 := T3.blk.cell 1
  go_wp2_with fail
  generalize w3.setCell ⟨s, 0, none⟩ (.int .i64 Q) = w4 at T3 s2 ⊢
  clear s0 s1
  go_loopw [26] (fun i wr => ∃ k : Nat, k ≤ n1 ∧ i = .int .i64 k ∧ TogAt w0 wr s Q e1 e2 e3 n1 k k k Ss Ms Xs) (fun i _ => n1 - (intOf i).toNat)
  case atStart => exact ⟨0, Nat.zero_le _, rfl, T3⟩
  case round =>
    obtain ⟨k, hk, rfl, T4⟩ := hrel
    clear T3 s2
    by_cases hlt : k < n1
    · have T5 := T4.below (below_a1 wr (.cells #[.int .i64 (k : Int)] 3))
      have hB := Block.new wr 3 #[.int .i64 (k : Int)]
      have hkn : Hid (Ss.getD k 0 = sumI (sumsAt L k) ∧ Ms.getD k 0 = minL (loL L k) ∧ Xs.getD k 0 = maxL (hiL L k)) := Lib.hid (by
        have := sumC_get (m := n1) L hlt
        rw [HSC.out] at this
        rw [loL_is (by rw [hll.out]; exact h0) Hf.out, hiL_is (by rw [hll.out]; exact h0) Hf.out]
        exact this)
      have hbW := hbw.trans (T5.bel.mono hbw.size)
      have hsz := Lib.hid (World.block_lt_of_cell? _ _ (hB.cell 0 : _ = some (.int .i64 (k : Int))))
      go_wp2_with fail
      generalize wr.alloc (.cells #[.int .i64 (k : Int)] 3) = W at T5 hB hbW hsz ⊢
      have hIB : ¬ wr.heap.size = s := fun e => by
        have := T4.blk.lt
        omega
      have hi1 : ¬ e1 = wr.heap.size := fun e => by
        have := (T4.rs.lt e1 rfl).2
        omega
      have hi2 : ¬ e2 = wr.heap.size := fun e => by
        have := (T4.rm.lt e2 rfl).2
        omega
      have hi3 : ¬ e3 = wr.heap.size := fun e => by
        have := (T4.rx.lt e3 rfl).2
        omega
      generalize wr.heap.size = iB at hB hIB hi1 hi2 hi3 hsz ⊢
      have b0 : W.cell? ⟨iB, 0, none⟩ = some (.int .i64 (k : Int)) := hB.cell 0
      have s1 : W.cell? ⟨s, 1, none⟩ = some (.slice (some ⟨e1, 0, none⟩) n1 n1) := T5.blk.cell 1
      have i0 : (0 : Int) ≤ (k : Int) := by omega
      have i1 : (k : Int) < (n1 : Int) := by omega
      have q1 : ¬ e1 = s := T5.n1
      have q2 : ¬ s = e1 := fun e => q1 e.symm
      have q3 : ¬ iB = e1 := fun e => hi1 e.symm
      obtain ⟨z, x, hzx⟩ : ∃ z x : Int, Hid ((is64 (sumI (sumsAt L k)) ∧ z = sumI (sumsAt L k) ∧ x = 0) ∨ (¬ is64 (sumI (sumsAt L k)) ∧ z = 0 ∧ x = 14)) := by
        by_cases hi : is64 (sumI (sumsAt L k))
        · exact ⟨_, _, Lib.hid (.inl ⟨hi, rfl, rfl⟩)⟩
        · exact ⟨_, _, Lib.hid (.inr ⟨hi, rfl, rfl⟩)⟩
      have HT := Lib.hid (ctotal_any (w := W.drew) ((h.belowS hbW).drewN 1) hn 42 #[.pointer (some ⟨iB, 0, none⟩)] (fun c => c.2.1.getD k 0) (fun _ _ => rfl) (fun j hj q A1 m1 c1 A2 n2 c2 A3 n3 c3 S M X V hV hC hq => by
        have hm1 : k < m1 := by
          have := (HLL.out j (by rw [hll.out]; exact hj)).2
          rw [hq] at this
          rw [← hC.s.len]
          show k < S.length
          have : S.length = n1 := this
          omega
        exact number_sum hC hm1 ((hV.cell (p := ⟨iB, 0, none⟩) hsz.out).trans b0)) (HLL.out.i64s hlt) (z := z) (x := x) hzx.out)
      clear T4
      go_region_held3 (fun w' => w'.cell? ⟨s, 1, none⟩ = some (.slice (some ⟨e1, 0, none⟩) n1 n1) ∧ w'.cell? ⟨iB, 0, none⟩ = some (.int .i64 (k : Int)))
        (first
          | (refine ⟨?_, ?_⟩ <;> (go_keep; done))
          | (go_keep; done))
        (first
          | (go_at_call 40; refine HT.out.mono ?_; rintro e w5 ⟨rfl, hb5⟩; have hb6 := (show Below W.heap.size W W.drew from Below.drew (Below.refl _ _)).trans hb5; have T6 := T5.below hb6; have hB6 := hB.below hb6 hsz.out; have p1 := T6.blk.cell 1; have p2 := hB6.cell 0; have p3 := T6.rs.cell_ k (by rw [nums_length _ _ (by omega)]; omega); have p4 := T6.rs.free k))
      have hR6 := hR.below T6.bel hrs
      have hRe : ¬ e1 = w.heap.size := fun e => by
        have := (T6.rs.lt e1 rfl).1
        omega
      have hR7 := hR6.elsewhere e1 k (.int .i64 z) hRe
      rcases hzx.out with ⟨hs1, hs2, rfl⟩ | ⟨hs1, rfl, rfl⟩
      · have T7 := T6.set1 d12 d13 l1 hlt z (hkn.out.1.trans hs2.symm)
        have hB7 := hB6.elsewhere e1 k (.int .i64 z) hi1
        clear T5 T6 hB hB6 hbW HT p1 p2 p3 p4 hb5 hb6 s1 b0 hR6 hs2 hs1
        generalize w5.setCell ⟨e1, k, none⟩ (.int .i64 z) = w7 at T7 hB7 hR7 ⊢
        go_wp2_with fail
        obtain ⟨la, hla⟩ : ∃ la, Hid (Ms.getD k 0 = la) := ⟨_, Lib.hid rfl⟩
        obtain ⟨hb, hhb⟩ : ∃ hb, Hid (Xs.getD k 0 = hb) := ⟨_, Lib.hid rfl⟩
        have HE := Lib.hid (ends_any (w := w7.drew) ((h.belowS (hbw.trans (T7.bel.mono hbw.size))).drewN 1) k n1 hlt hm h0 (fun j hj => by
          have h1 := HLL.out j (by rw [hll.out]; exact hj)
          obtain ⟨h2, h3⟩ := h1
          exact ⟨(cMay_count h2).1, h2.2.1.trans h3, h2.2.2.1.trans h3⟩) (a := la) (b := hb) (hla.out.symm.trans hkn.out.2.1) (hhb.out.symm.trans hkn.out.2.2))
        have q4 : ¬ e2 = s := T7.n2
        have q5 : ¬ e3 = s := T7.n3
        have q6 : ¬ s = e2 := fun e => q4 e.symm
        have q7 : ¬ s = e3 := fun e => q5 e.symm
        have q8 : ¬ iB = e2 := fun e => hi2 e.symm
        have q9 : ¬ iB = e3 := fun e => hi3 e.symm
        have qa : ¬ e2 = e3 := d23
        have qb : ¬ e3 = e2 := fun e => d23 e.symm
        have s2 : w7.cell? ⟨s, 2, none⟩ = some (.slice (some ⟨e2, 0, none⟩) n1 n1) := T7.blk.cell 2
        have s3 : w7.cell? ⟨s, 3, none⟩ = some (.slice (some ⟨e3, 0, none⟩) n1 n1) := T7.blk.cell 3
        have b0 : w7.cell? ⟨iB, 0, none⟩ = some (.int .i64 (k : Int)) := hB7.cell 0
        have hsz7 := hB7.lt
        go_region_held3 (fun w' => w'.cell? ⟨s, 2, none⟩ = some (.slice (some ⟨e2, 0, none⟩) n1 n1) ∧ w'.cell? ⟨s, 3, none⟩ = some (.slice (some ⟨e3, 0, none⟩) n1 n1) ∧ w'.cell? ⟨iB, 0, none⟩ = some (.int .i64 (k : Int)))
          (first
            | (refine ⟨?_, ?_, ?_⟩ <;> (go_keep; done))
            | (go_keep; done))
          (first
            | (go_at_call 43; refine HE.out.mono ?_; rintro e w8 ⟨rfl, hb8⟩; have hb9 := (show Below w7.heap.size w7 w7.drew from Below.drew (Below.refl _ _)).trans hb8; have T8 := T7.below hb9; have hB8 := hB7.below hb9 hsz7; have p1 := T8.blk.cell 2; have p2 := T8.blk.cell 3; have p3 := hB8.cell 0; have p4 := T8.rm.cell_ k (by rw [nums_length _ _ (by omega)]; omega); have p5 := T8.rm.free k; have p6 := T8.rx.cell_ k (by rw [nums_length _ _ (by omega)]; omega); have p7 := T8.rx.free k))
        have T9 := (T8.set2 d12 d23 l2 hlt la hla.out).set3 d13 d23 l3 hlt hb hhb.out
        clear T7 T8 hB7 hB8 hb8 hb9 p1 p2 p3 p4 p5 p6 p7 s2 s3 b0 HE hR7
        generalize (w8.setCell ⟨e2, k, none⟩ (.int .i64 la)).setCell ⟨e3, k, none⟩ (.int .i64 hb) = w10 at T9 ⊢
        go_wp2_with fail
        go_roundw
        case rel => exact ⟨k + 1, by omega, by go_num, T9⟩
        case measure => simp [intOf]; omega
      · have hZ := Lib.hid (togC_far hlt hs1)
        have hbe := hbw.trans ((T6.bel.setCell (p := ⟨e1, k, none⟩) (T6.rs.lt e1 rfl).1 (.int .i64 0)).mono hbw.size)
        clear T5 T6 hB hB6 hbW HT p1 p2 p3 p4 hb5 hb6 s1 b0 hR6
        generalize w5.setCell ⟨e1, k, none⟩ (.int .i64 0) = w7 at hR7 hbe ⊢
        have r0 : w7.cell? ⟨w.heap.size, 0, none⟩ = some (.int .i64 0) := hR7.cell 0
        have r1 : w7.cell? ⟨w.heap.size, 1, none⟩ = some (.slice none 0 0) := hR7.cell 1
        have r2 : w7.cell? ⟨w.heap.size, 2, none⟩ = some (.slice none 0 0) := hR7.cell 2
        have r3 : w7.cell? ⟨w.heap.size, 3, none⟩ = some (.slice none 0 0) := hR7.cell 3
        have f0 := hR7.free 0
        have f1 := hR7.free 1
        have f2 := hR7.free 2
        have f3 := hR7.free 3
        have hRR := Lib.hid (hR7.put4_ (.int .i64 0) (.slice none 0 0) (.slice none 0 0) (.slice none 0 0))
        have hRB := Lib.hid (below_put4 hbe (Nat.le_refl _) (.int .i64 0) (.slice none 0 0) (.slice none 0 0) (.slice none 0 0))
        go_wp2_with fail
        refine bodyPost_ret (results_block2 rfl _ _ w.heap.size _ _ rfl hRR.out Try.underlying26 rfl info_cell) rfl ?_
        rw [hZ.out]
        exact ⟨⟨_, _, _, rfl, zeroC_own _ _⟩, hRB.out⟩
    · obtain rfl : k = n1 := by omega
      have hN1 : nums Ss k = Ss := by rw [← l1]; exact nums_all Ss
      have hN2 : nums Ms k = Ms := by rw [← l2]; exact nums_all Ms
      have hN3 : nums Xs k = Xs := by rw [← l3]; exact nums_all Xs
      have hO : OwnC wr w0.heap.size (.slice (some ⟨e1, 0, none⟩) k k) (.slice (some ⟨e2, 0, none⟩) k k) (.slice (some ⟨e3, 0, none⟩) k k) Ss Ms Xs :=
        ⟨by have := T4.rs; rwa [hN1] at this, by have := T4.rm; rwa [hN2] at this, by have := T4.rx; rwa [hN3] at this⟩
      have hC : HasC wr wr.heap.size _ _ _ _ _ _ _ _ _ Ss Ms Xs := ⟨hO.s.has, hO.m.has, hO.x.has⟩
      obtain ⟨r, hr⟩ : ∃ r : Bool, Hid (r = true ↔ cMay (Q, Ss, Ms, Xs)) := ⟨decide (cMay (Q, Ss, Ms, Xs)), Lib.hid (by simp)⟩
      have s0 : wr.cell? ⟨s, 0, none⟩ = some (.int .i64 Q) := T4.blk.cell 0
      have s1 : wr.cell? ⟨s, 1, none⟩ = some (.slice (some ⟨e1, 0, none⟩) k k) := T4.blk.cell 1
      have s2 : wr.cell? ⟨s, 2, none⟩ = some (.slice (some ⟨e2, 0, none⟩) k k) := T4.blk.cell 2
      have s3 : wr.cell? ⟨s, 3, none⟩ = some (.slice (some ⟨e3, 0, none⟩) k k) := T4.blk.cell 3
      have hM := Lib.hid (may_any hC hr.out)
      have hR6 := hR.below T4.bel hrs
      have hbe := hbw.trans (T4.bel.mono hbw.size)
      have hbl := T4.blk
      have hrl := hR6.lt
      clear hN1 hN2 hN3 hC T4 hk hlt
      go_wp2_with fail
      refine hM.out.mono ?_
      rintro e w5 ⟨rfl, hb5⟩
      have hbe5 := hbe.trans (hb5.mono hbe.size)
      have hbl5 := hbl.below hb5 hbl.lt
      have hR5 := hR6.below hb5 hrl
      have hO5 := (hO.below hb5 (Nat.le_refl _)).low (Nat.le_of_lt hrs)
      have hO6 := hO.below hb5 (Nat.le_refl _)
      clear hM hbe hbl hR6 hO hb5 s0 s1 s2 s3
      have s0 : w5.cell? ⟨s, 0, none⟩ = some (.int .i64 Q) := hbl5.cell 0
      have s1 : w5.cell? ⟨s, 1, none⟩ = some (.slice (some ⟨e1, 0, none⟩) k k) := hbl5.cell 1
      have s2 : w5.cell? ⟨s, 2, none⟩ = some (.slice (some ⟨e2, 0, none⟩) k k) := hbl5.cell 2
      have s3 : w5.cell? ⟨s, 3, none⟩ = some (.slice (some ⟨e3, 0, none⟩) k k) := hbl5.cell 3
      have r0 : w5.cell? ⟨w.heap.size, 0, none⟩ = some (.int .i64 0) := hR5.cell 0
      have r1 : w5.cell? ⟨w.heap.size, 1, none⟩ = some (.slice none 0 0) := hR5.cell 1
      have r2 : w5.cell? ⟨w.heap.size, 2, none⟩ = some (.slice none 0 0) := hR5.cell 2
      have r3 : w5.cell? ⟨w.heap.size, 3, none⟩ = some (.slice none 0 0) := hR5.cell 3
      have f0 := hR5.free 0
      have f1 := hR5.free 1
      have f2 := hR5.free 2
      have f3 := hR5.free 3
      cases r
      · have hZ : Hid (togC k L = (zeroC, 14)) := Lib.hid (if_neg (by rw [HSC.out]; intro h; cases hr.out.2 h))
        have hRR := Lib.hid (hR5.put4_ (.int .i64 0) (.slice none 0 0) (.slice none 0 0) (.slice none 0 0))
        have hRB := Lib.hid (below_put4 hbe5 (Nat.le_refl _) (.int .i64 0) (.slice none 0 0) (.slice none 0 0) (.slice none 0 0))
        clear hO5 hO6
        go_wp2_with fail
        refine bodyPost_ret (results_block2 rfl _ _ w.heap.size _ _ rfl hRR.out Try.underlying26 rfl info_cell) rfl ?_
        rw [hZ.out]
        exact ⟨⟨_, _, _, rfl, zeroC_own _ _⟩, hRB.out⟩
      · have hZ : Hid (togC k L = ((Q, Ss, Ms, Xs), 0)) := Lib.hid (by
          unfold togC
          rw [HSC.out, if_pos (hr.out.1 rfl)])
        have hRR := Lib.hid (hR5.put4_ (.int .i64 Q) (.slice (some ⟨e1, 0, none⟩) k k) (.slice (some ⟨e2, 0, none⟩) k k) (.slice (some ⟨e3, 0, none⟩) k k))
        have hRB := Lib.hid (below_put4 hbe5 (Nat.le_refl _) (.int .i64 Q) (.slice (some ⟨e1, 0, none⟩) k k) (.slice (some ⟨e2, 0, none⟩) k k) (.slice (some ⟨e3, 0, none⟩) k k))
        have hRO := Lib.hid ((hO6.put4_ hrs (.int .i64 Q) (.slice (some ⟨e1, 0, none⟩) k k) (.slice (some ⟨e2, 0, none⟩) k k) (.slice (some ⟨e3, 0, none⟩) k k)).low (Nat.le_of_lt hrs))
        clear hO5 hO6
        go_wp2_with fail
        refine bodyPost_ret (results_block2 rfl _ _ w.heap.size _ _ rfl hRR.out Try.underlying26 rfl info_cell) rfl ?_
        rw [hZ.out]
        exact ⟨⟨_, _, _, rfl, hRO.out⟩, hRB.out⟩
end Go.Proofs.Ytbgbchbnidejhaa
