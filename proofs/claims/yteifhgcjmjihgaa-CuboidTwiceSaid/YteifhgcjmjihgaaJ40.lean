/- CubQ, CubL1 -/
import Derived.Test.YteifhgcjmjihgaaJ2
import Derived.Test.YteifhgcjmjihgaaJ19
import Derived.Test.YteifhgcjmjihgaaJ32
import Derived.Test.YteifhgcjmjihgaaJ39
import Derived.Deep.DeepCutAuto
namespace Go.Proofs.Yteifhgcjmjihgaa
set_option maxRecDepth 100000
open Go.RowKit Go.Maps

/-! ### what it comes to -/
theorem empty_may (m : Nat) (hm : m ≤ 2) : cMay (cEmpty m) := ⟨by simpa [cEmpty] using hm, by simp [cEmpty], by simp [cEmpty], .inl (by simp [cEmpty])⟩
theorem addK_zero {W m : Nat} {C : Cub} {k : List Int} {x : PC} (h : x.1 = 0) : addK W m C k x = (C, 1) := addK_no fun h' => h'.2.2.1 h
theorem addK_nokey {W m : Nat} {C : Cub} {k : List Int} {x : PC} (h : ¬ isKey W k) : addK W m C k x = (C, 1) := addK_no fun h' => h h'.1
/-- Add by the merge with what is there, or with the empty cell. -/
theorem addK_is {W m : Nat} {C : Cub} {k : List Int} {x : PC} (hC : Cuboid W m C) (hm : m ≤ 2) (hk : isKey W k) (hx : x.1 ≠ 0) : addK W m C k x = if (cMerge ((getK C k).getD (cEmpty m)) x).2 = 0 then (setK C k (cMerge ((getK C k).getD (cEmpty m)) x).1, 0) else (C, (cMerge ((getK C k).getD (cEmpty m)) x).2) := by
  by_cases hi : isCell m x
  · rcases hg : getK C k with _ | y
    · have e : cMerge (cEmpty m) x = (x, 0) := by
        unfold cMerge
        rw [if_neg (by
          rintro (h | h | h)
          · exact h (empty_may m hm)
          · exact h hi.1
          · exact h (by rw [hi.2.2]; simp [cEmpty])), if_pos (show (cEmpty m).1 = 0 from rfl)]
      rw [addK_new ⟨hk, hi⟩ hg, Option.getD_none, e]
      simp
    · rw [Option.getD_some]
      by_cases h0 : (cMerge y x).2 = 0
      · rw [addK_more ⟨hk, hi⟩ hg h0, if_pos h0]
      · rw [addK_far ⟨hk, hi⟩ hg h0, if_neg h0]
  · have hl : ((getK C k).getD (cEmpty m)).2.1.length = m := by
      rcases hg : getK C k with _ | y
      · simp [cEmpty]
      · exact (hC.cell _ (getK_mem hg)).2.2
    have e : cMerge ((getK C k).getD (cEmpty m)) x = (zeroC, 1) := by
      unfold cMerge
      rw [if_pos]
      by_cases h : cMay x
      · refine .inr (.inr fun e => hi ⟨h, hx, ?_⟩)
        rw [← e, hl]
      · exact .inr (.inl h)
    rw [addK_no (fun h => hi h.2), e, if_neg (by decide)]
set_option maxRecDepth 100000 in
set_option maxHeartbeats 4000000 in
theorem cubAdd_any {w : World} {g b W m n c : Nat} {C : Cub} {A : Option Addr} {L : List Int} {q : Int} {A1 A2 A3 : Option Addr} {n1 c1 n2 c2 n3 c3 : Nat} {S M X : List Int} (h : Cb w g b W m C) (hL : HasI w w.heap.size A n c L) (hx : HasC w w.heap.size A1 n1 c1 A2 n2 c2 A3 n3 c3 S M X) :
    Calls Try.prog 12 #[.pointer (some ⟨g, 0, none⟩), .slice A n c, .agg #[.int .i64 q, .slice A1 n1 c1, .slice A2 n2 c2, .slice A3 n3 c3]] w fun e w' => e = .returned (.int .i64 (addK W m C L (q, S, M, X)).2) ∧ Cb w' g b W m (addK W m C L (q, S, M, X)).1 ∧ w.grownBy w' (some b) := by
  have hb1 := below_a1 w (.cells #[.int .i64 q, .slice A1 n1 c1, .slice A2 n2 c2, .slice A3 n3 c3] 42)
  have hX := Block.new w 42 #[.int .i64 q, .slice A1 n1 c1, .slice A2 n2 c2, .slice A3 n3 c3]
  have h1 := h.belowS hb1
  have hL1 := hL.belowS hb1
  have hx1 := hx.belowS hb1
  have hgl := h.blk.lt
  have hbl := h.map.lt
  have hw3 := h.w3
  have hm1 := h.m1
  have hm2 := h.m2
  have H0 := Lib.hid (And.intro h hx)
  clear hL h hx
  by_cases hk : isKey W L
  · have hcon := Lib.hid (keyOf_yes h1.c0 hL1 hk)
    obtain ⟨x, y', z, hxyz⟩ := kv3_letters L
    go_enter Try.func12, Try.ntmps12
    go_wp2_with fail
    generalize w.alloc (.cells #[.int .i64 q, .slice A1 n1 c1, .slice A2 n2 c2, .slice A3 n3 c3] 42) = w1 at hb1 h1 hL1 hx1 hcon hX ⊢
    refine hcon.out.mono ?_
    rintro e w2 ⟨rfl, hb2⟩
    have hbx := below_then hb2 (below_a1 w2 (.cells #[.int .i64 x, .int .i64 y', .int .i64 z] 57))
    have hb3 := below_then hb1 hbx
    have h3 := h1.belowS hbx
    have hX3 := hX.below hbx hX.lt
    have hx3 := hx1.belowS hbx
    have hK3 := Block.new w2 57 #[.int .i64 x, .int .i64 y', .int .i64 z]
    have hz2 : w.heap.size < w2.heap.size := Nat.lt_of_lt_of_le hX.lt hb2.size
    rw [hxyz.out]
    clear hL1 h1 hb1 hbx hb2 hcon hX hx1
    by_cases hq : q = 0
    · have HV := Lib.hid (addK_zero (W := W) (m := m) (C := C) (k := L) (x := (q, S, M, X)) hq)
      have HF := Lib.hid (And.intro h3 (grown_of hb3 (some b)))
      have hqe : ((q : Int) == 0) = true := by simp [hq]
      have p0 : (w2.alloc (.cells #[.int .i64 x, .int .i64 y', .int .i64 z] 57)).cell? ⟨w.heap.size, 0, none⟩ = some (.int .i64 q) := hX3.cell 0
      clear hX3 hx3 hK3 h3 hb3 hq
      go_wp2_with fail
      go_ret
      rw [HV.out]
      exact ⟨rfl, HF.out.1, HF.out.2⟩
    · have hqe : ((q : Int) == 0) = false := by simpa using hq
      have p0 : (w2.alloc (.cells #[.int .i64 x, .int .i64 y', .int .i64 z] 57)).cell? ⟨w.heap.size, 0, none⟩ = some (.int .i64 q) := hX3.cell 0
      have HA := Lib.hid (addK_is (k := L) (x := (q, S, M, X)) h3.ok hm2 hk hq)
      clear hq
      go_wp2_with fail
      clear p0 hqe
      generalize w2.alloc (.cells #[.int .i64 x, .int .i64 y', .int .i64 z] 57) = w3 at h3 hX3 hx3 hK3 hb3 ⊢
      obtain ⟨kb, hkb⟩ : ∃ kb, w2.heap.size = kb := ⟨_, rfl⟩
      rw [hkb] at hz2 hK3 ⊢
      clear hkb
      rcases hu : getK C L with _ | u
      · rw [hu] at HA
        have hat := at_no h3 hk hu
        rw [hxyz.out] at hat
        refine hat.mono ?_
        rintro e w4 ⟨rfl, hb4⟩
        have hbx := below_then hb4 (below_a1 w4 (.cells #[.int .i64 0, .slice none 0 0, .slice none 0 0, .slice none 0 0] 42))
        have h5 := h3.belowS hbx
        have hX5 := hX3.below hbx hX3.lt
        have hK5 := hK3.below hbx hK3.lt
        have hx5 := hx3.belowS hbx
        have hT5 := Block.new w4 42 #[.int .i64 0, .slice none 0 0, .slice none 0 0, .slice none 0 0]
        have hb5 := below_then hb3 hbx
        have hkz : kb < w4.heap.size := Nat.lt_of_lt_of_le hK3.lt hb4.size
        have c15 := h5.c1
        clear h3 hX3 hx3 hK3 hb3 hbx hb4 hat hu
        go_wp2_with fail
        generalize w4.alloc (.cells #[.int .i64 0, .slice none 0 0, .slice none 0 0, .slice none 0 0] 42) = w5 at h5 hX5 hx5 hK5 hT5 hb5 c15 ⊢
        obtain ⟨tb, htb⟩ : ∃ tb, w4.heap.size = tb := ⟨_, rfl⟩
        rw [htb] at hkz hT5 ⊢
        clear htb
        refine (empty_any (m : Int) w5 (m := m) (by omega)).mono ?_
        rintro e w6 ⟨⟨g1, g2, g3, rfl, hO6, _⟩, hb6⟩
        have hT6 := hT5.below hb6 hT5.lt
        have r0 : w6.cell? ⟨tb, 0, none⟩ = some (.int .i64 0) := hT6.cell 0
        have r1 : w6.cell? ⟨tb, 1, none⟩ = some (.slice none 0 0) := hT6.cell 1
        have r2 : w6.cell? ⟨tb, 2, none⟩ = some (.slice none 0 0) := hT6.cell 2
        have r3 : w6.cell? ⟨tb, 3, none⟩ = some (.slice none 0 0) := hT6.cell 3
        have f0 := hT6.free 0
        have f1 := hT6.free 1
        have f2 := hT6.free 2
        have f3 := hT6.free 3
        have hz6 : w.heap.size ≤ tb := by omega
        have hT7 := hT6.put4_ (.int .i64 0) (.slice (some ⟨g1, 0, none⟩) m m) (.slice (some ⟨g2, 0, none⟩) m m) (.slice (some ⟨g3, 0, none⟩) m m)
        have hb7 := below_put4 (r := tb) (below_then hb5 hb6) hz6 (.int .i64 0) (.slice (some ⟨g1, 0, none⟩) m m) (.slice (some ⟨g2, 0, none⟩) m m) (.slice (some ⟨g3, 0, none⟩) m m)
        have hO7 := OwnC.put4_ (r := tb) hO6 hT5.lt (.int .i64 0) (.slice (some ⟨g1, 0, none⟩) m m) (.slice (some ⟨g2, 0, none⟩) m m) (.slice (some ⟨g3, 0, none⟩) m m)
        have hP : Below tb w6 (put4 w6 tb (.int .i64 0) (.slice (some ⟨g1, 0, none⟩) m m) (.slice (some ⟨g2, 0, none⟩) m m) (.slice (some ⟨g3, 0, none⟩) m m)) := below_put4 (Below.refl _ _) (Nat.le_refl _) _ _ _ _
        have hX7 := (hX5.below hb6 hX5.lt).below hP (by omega)
        have hK7 := (hK5.below hb6 hK5.lt).below hP hkz
        have hy7 : HasC (put4 w6 tb (.int .i64 0) (.slice (some ⟨g1, 0, none⟩) m m) (.slice (some ⟨g2, 0, none⟩) m m) (.slice (some ⟨g3, 0, none⟩) m m)) _ (some ⟨g1, 0, none⟩) m m (some ⟨g2, 0, none⟩) m m (some ⟨g3, 0, none⟩) m m (List.replicate m 0) (List.replicate m 0) (List.replicate m 0) := ⟨hO7.s.has, hO7.m.has, hO7.x.has⟩
        have HY : Hid ((Option.none : Option PC).getD (cEmpty m) = (0, List.replicate m 0, List.replicate m 0, List.replicate m 0)) := Lib.hid rfl
        have HZ := Lib.hid (And.intro hT7 (And.intro hb7 (And.intro hX7 (And.intro hK7 hy7))))
        clear h5 hX5 hx5 hK5 hT5 hb5 hO6 hb6 hT6 hO7 hP hT7 hb7 hX7 hK7 hy7
        go_upto_region 7 with fail
        clear r0 r1 r2 r3 f0 f1 f2 f3 c15
        obtain ⟨hT7, hb7, hX7, hK7, hy7⟩ := HZ.out
        clear HZ
        unfold put4 at hT7 hb7 hX7 hK7 hy7
        generalize (((w6.setCell ⟨tb, 0, none⟩ (.int .i64 0)).setCell ⟨tb, 1, none⟩ (.slice (some ⟨g1, 0, none⟩) m m)).setCell ⟨tb, 2, none⟩ (.slice (some ⟨g2, 0, none⟩) m m)).setCell ⟨tb, 3, none⟩ (.slice (some ⟨g3, 0, none⟩) m m) = w7 at hT7 hb7 hX7 hK7 hy7 ⊢
        have h7 := H0.out.1.belowS hb7
        have hx7 := H0.out.2.belowS hb7
        have hmrg := Lib.hid (merge_any (q := 0) (q' := q) hy7 hx7)
        obtain ⟨p, P, Q, R, er, HR⟩ : ∃ p P Q R er, Hid (cMerge (0, List.replicate m 0, List.replicate m 0, List.replicate m 0) (q, S, M, X) = ((p, P, Q, R), er)) := ⟨_, _, _, _, _, Lib.hid rfl⟩
        rw [HY.out, HR.out] at HA
        have t0 : w7.cell? ⟨tb, 0, none⟩ = some (.int .i64 (0)) := hT7.cell 0
        have t1 : w7.cell? ⟨tb, 1, none⟩ = some (.slice (some ⟨g1, 0, none⟩) m m) := hT7.cell 1
        have t2 : w7.cell? ⟨tb, 2, none⟩ = some (.slice (some ⟨g2, 0, none⟩) m m) := hT7.cell 2
        have t3 : w7.cell? ⟨tb, 3, none⟩ = some (.slice (some ⟨g3, 0, none⟩) m m) := hT7.cell 3
        have x0 : w7.cell? ⟨w.heap.size, 0, none⟩ = some (.int .i64 q) := hX7.cell 0
        have x1 : w7.cell? ⟨w.heap.size, 1, none⟩ = some (.slice A1 n1 c1) := hX7.cell 1
        have x2 : w7.cell? ⟨w.heap.size, 2, none⟩ = some (.slice A2 n2 c2) := hX7.cell 2
        have x3 : w7.cell? ⟨w.heap.size, 3, none⟩ = some (.slice A3 n3 c3) := hX7.cell 3
        clear hy7 hx7
        go_wp2_with fail
        refine hmrg.out.mono ?_
        rw [HR.out]
        rintro e w8 ⟨⟨v1, v2, v3, rfl, hO8⟩, hb8⟩
        obtain ⟨E1, m1, e1, E2, m2', e2, E3, m3, e3, rfl, rfl, rfl, hc8⟩ := hO8.form
        have hbx := below_then hb8 (below_a1 w8 (.cells #[.int .i64 p, .slice E1 m1 e1, .slice E2 m2' e2, .slice E3 m3 e3] 42))
        have h9 := h7.belowS hbx
        have hK9 := hK7.below hbx hK7.lt
        have hS9 := Block.new w8 42 #[.int .i64 p, .slice E1 m1 e1, .slice E2 m2' e2, .slice E3 m3 e3]
        have hc9 := hc8.allocS (.cells #[.int .i64 p, .slice E1 m1 e1, .slice E2 m2' e2, .slice E3 m3 e3] 42)
        have hb9 := below_then hb7 hbx
        have hkz8 : kb < w8.heap.size := Nat.lt_of_lt_of_le hK7.lt hb8.size
        clear h7 hX7 hK7 hT7 hb7 hbx hb8 hO8 hc8 hmrg t0 t1 t2 t3 x0 x1 x2 x3
        by_cases he : er = 0
        · have hee : ((er : Int) != 0) = false := by simp [he]
          rw [if_pos he] at HA
          have hisc : Hid (isCell m (p, P, Q, R)) := Lib.hid (by
            have h1 := addK_cuboid H0.out.1.ok L (q, S, M, X)
            rw [HA.out] at h1
            exact h1.cell (L, (p, P, Q, R)) (getK_mem (by rw [getK_setK, if_pos rfl])))
          clear he
          go_wp2_with fail
          generalize w8.alloc (.cells #[.int .i64 p, .slice E1 m1 e1, .slice E2 m2' e2, .slice E3 m3 e3] 42) = w9 at h9 hK9 hS9 hc9 hb9 ⊢
          obtain ⟨sb, hsb⟩ : ∃ sb, w8.heap.size = sb := ⟨_, rfl⟩
          rw [hsb] at hkz8 hS9 ⊢
          clear hsb
          obtain ⟨l0, l1, l2, l3, l4, l5, l6, hV, _, _⟩ := kept_letters (p, P, Q, R)
          have hkp := Lib.hid (keep_any (n := p) (w := w9.drew) hc9.drew)
          rw [hV.out] at hkp
          have KK : Hid (∀ y : World, Below w9.heap.size w9 y → y.cell? ⟨g, 2, none⟩ = some (.map (some b)) ∧ y.cell? ⟨kb, 0, none⟩ = some (.int .i64 x) ∧ y.cell? ⟨kb, 1, none⟩ = some (.int .i64 y') ∧ y.cell? ⟨kb, 2, none⟩ = some (.int .i64 z) ∧ y.cell? ⟨sb, 0, none⟩ = some (.int .i64 p) ∧ y.cell? ⟨sb, 1, none⟩ = some (.slice E1 m1 e1) ∧ y.cell? ⟨sb, 2, none⟩ = some (.slice E2 m2' e2) ∧ y.cell? ⟨sb, 3, none⟩ = some (.slice E3 m3 e3)) := Lib.hid fun y hy => by
            have a1 := hK9.below hy hK9.lt
            have a2 := hS9.below hy hS9.lt
            exact ⟨(h9.belowS hy).c2, a1.cell 0, a1.cell 1, a1.cell 2, a2.cell 0, a2.cell 1, a2.cell 2, a2.cell 3⟩
          have KS : Hid (∀ y : World, Below w9.heap.size w9 y → ∃ w', (Instr.mapUpdate 53 (.map (some b)) (.agg #[.int .i64 x, .int .i64 y', .int .i64 z]) (.agg #[.int .i64 l0, .int .i64 l1, .int .i64 l2, .int .i64 l3, .int .i64 l4, .int .i64 l5, .int .i64 l6])).run Try.prog y = .ok () w' ∧ Cb w' g b W m (setK C L (p, P, Q, R)) ∧ y.grownBy w' (some b) ∧ w'.cell? ⟨g, 2, none⟩ = some (.map (some b)) ∧ w'.cell? ⟨kb, 0, none⟩ = some (.int .i64 x) ∧ w'.cell? ⟨kb, 1, none⟩ = some (.int .i64 y') ∧ w'.cell? ⟨kb, 2, none⟩ = some (.int .i64 z) ∧ w'.cell? ⟨sb, 0, none⟩ = some (.int .i64 p) ∧ w'.cell? ⟨sb, 1, none⟩ = some (.slice E1 m1 e1) ∧ w'.cell? ⟨sb, 2, none⟩ = some (.slice E2 m2' e2) ∧ w'.cell? ⟨sb, 3, none⟩ = some (.slice E3 m3 e3)) := Lib.hid fun y hy => by
            have hy9 := h9.belowS hy
            obtain ⟨w', r1, r2, r3⟩ := hy9.map.store hw3 (t := 53) (x := (p, P, Q, R)) Try.underlying53 hy9.ok.ris (by have := hy9.len; omega) hk
            rw [hxyz.out, hV.out] at r1
            have a1 := (hK9.below hy hK9.lt).grown r3 (fun e => by injection e with e; omega)
            have a2 := (hS9.below hy hS9.lt).grown r3 (fun e => by injection e with e; omega)
            have a3 := hy9.put r3 r2 hk hisc.out
            exact ⟨w', r1, a3, r3, a3.c2, a1.cell 0, a1.cell 1, a1.cell 2, a2.cell 0, a2.cell 1, a2.cell 2, a2.cell 3⟩
          have k := KK.out _ (Below.refl _ w9)
          obtain ⟨k0, k1, k2, k3, k4, k5, k6, k7⟩ := k
          have HB9 := Lib.hid hb9
          clear h9 hK9 hS9 hc9 hb9
          go_region_held3 (fun w' => w'.cell? ⟨g, 2, none⟩ = some (.map (some b)) ∧ w'.cell? ⟨kb, 0, none⟩ = some (.int .i64 x) ∧ w'.cell? ⟨kb, 1, none⟩ = some (.int .i64 y') ∧ w'.cell? ⟨kb, 2, none⟩ = some (.int .i64 z) ∧ w'.cell? ⟨sb, 0, none⟩ = some (.int .i64 p) ∧ w'.cell? ⟨sb, 1, none⟩ = some (.slice E1 m1 e1) ∧ w'.cell? ⟨sb, 2, none⟩ = some (.slice E2 m2' e2) ∧ w'.cell? ⟨sb, 3, none⟩ = some (.slice E3 m3 e3))
            (first
              | go_keep
              | exact K11
              | exact KK.out _ hBB1)
            (first
              | (go_at_call 18; refine hkp.out.mono ?_; rintro e w10 ⟨rfl, hb10⟩; have hBB1 : Below w9.heap.size w9 w10 := ((below_drewN (Below.refl _ w9) 1).trans hb10); obtain ⟨w11, hrun, h11, hg11, K11⟩ := KS.out _ hBB1))
          have HF := Lib.hid (And.intro h11 (below_grown (below_then HB9.out hBB1) hg11))
          clear h11 hg11 hBB1 hb10 hrun K11 KK KS k0 k1 k2 k3 k4 k5 k6 k7
          go_wp2_with fail
          go_ret
          rw [HA.out]
          exact ⟨rfl, HF.out.1, HF.out.2⟩
        · have hee : ((er : Int) != 0) = true := by simpa using he
          rw [if_neg he] at HA
          have HF := Lib.hid (And.intro h9 (grown_of hb9 (some b)))
          clear he h9 hK9 hS9 hc9 hb9
          go_wp2_with fail
          go_ret
          rw [HA.out]
          exact ⟨rfl, HF.out.1, HF.out.2⟩
      · rw [hu] at HA
        have hat := at_yes h3 hk hu
        rw [hxyz.out] at hat
        refine hat.mono ?_
        rintro e w4 ⟨⟨v1, v2, v3, rfl, hO4⟩, hb4⟩
        obtain ⟨B1, k1, d1, B2, k2, d2, B3, k3, d3, rfl, rfl, rfl, hy4⟩ := hO4.form
        obtain ⟨u0, uS, uM, uX⟩ := u
        have hbx := below_then hb4 (below_a1 w4 (.cells #[.int .i64 u0, .slice B1 k1 d1, .slice B2 k2 d2, .slice B3 k3 d3] 42))
        have hX7 := hX3.below hbx hX3.lt
        have hK7 := hK3.below hbx hK3.lt
        have hT7 := Block.new w4 42 #[.int .i64 u0, .slice B1 k1 d1, .slice B2 k2 d2, .slice B3 k3 d3]
        have hy7 := hy4.allocS (.cells #[.int .i64 u0, .slice B1 k1 d1, .slice B2 k2 d2, .slice B3 k3 d3] 42)
        have hb7 := below_then hb3 hbx
        have hkz : kb < w4.heap.size := Nat.lt_of_lt_of_le hK3.lt hb4.size
        have HY : Hid ((some (u0, uS, uM, uX) : Option PC).getD (cEmpty m) = (u0, uS, uM, uX)) := Lib.hid rfl
        clear h3 hX3 hx3 hK3 hb3 hbx hb4 hat hu hO4 hy4
        go_upto_region 7 with fail
        generalize w4.alloc (.cells #[.int .i64 u0, .slice B1 k1 d1, .slice B2 k2 d2, .slice B3 k3 d3] 42) = w7 at hT7 hb7 hX7 hK7 hy7 ⊢
        obtain ⟨tb, htb⟩ : ∃ tb, w4.heap.size = tb := ⟨_, rfl⟩
        rw [htb] at hkz hT7 ⊢
        clear htb
        have hz6 : w.heap.size ≤ tb := by omega
        have h7 := H0.out.1.belowS hb7
        have hx7 := H0.out.2.belowS hb7
        have hmrg := Lib.hid (merge_any (q := u0) (q' := q) hy7 hx7)
        obtain ⟨p, P, Q, R, er, HR⟩ : ∃ p P Q R er, Hid (cMerge (u0, uS, uM, uX) (q, S, M, X) = ((p, P, Q, R), er)) := ⟨_, _, _, _, _, Lib.hid rfl⟩
        rw [HY.out, HR.out] at HA
        have t0 : w7.cell? ⟨tb, 0, none⟩ = some (.int .i64 (u0)) := hT7.cell 0
        have t1 : w7.cell? ⟨tb, 1, none⟩ = some (.slice B1 k1 d1) := hT7.cell 1
        have t2 : w7.cell? ⟨tb, 2, none⟩ = some (.slice B2 k2 d2) := hT7.cell 2
        have t3 : w7.cell? ⟨tb, 3, none⟩ = some (.slice B3 k3 d3) := hT7.cell 3
        have x0 : w7.cell? ⟨w.heap.size, 0, none⟩ = some (.int .i64 q) := hX7.cell 0
        have x1 : w7.cell? ⟨w.heap.size, 1, none⟩ = some (.slice A1 n1 c1) := hX7.cell 1
        have x2 : w7.cell? ⟨w.heap.size, 2, none⟩ = some (.slice A2 n2 c2) := hX7.cell 2
        have x3 : w7.cell? ⟨w.heap.size, 3, none⟩ = some (.slice A3 n3 c3) := hX7.cell 3
        clear hy7 hx7
        go_wp2_with fail
        refine hmrg.out.mono ?_
        rw [HR.out]
        rintro e w8 ⟨⟨v1, v2, v3, rfl, hO8⟩, hb8⟩
        obtain ⟨E1, m1, e1, E2, m2', e2, E3, m3, e3, rfl, rfl, rfl, hc8⟩ := hO8.form
        have hbx := below_then hb8 (below_a1 w8 (.cells #[.int .i64 p, .slice E1 m1 e1, .slice E2 m2' e2, .slice E3 m3 e3] 42))
        have h9 := h7.belowS hbx
        have hK9 := hK7.below hbx hK7.lt
        have hS9 := Block.new w8 42 #[.int .i64 p, .slice E1 m1 e1, .slice E2 m2' e2, .slice E3 m3 e3]
        have hc9 := hc8.allocS (.cells #[.int .i64 p, .slice E1 m1 e1, .slice E2 m2' e2, .slice E3 m3 e3] 42)
        have hb9 := below_then hb7 hbx
        have hkz8 : kb < w8.heap.size := Nat.lt_of_lt_of_le hK7.lt hb8.size
        clear h7 hX7 hK7 hT7 hb7 hbx hb8 hO8 hc8 hmrg t0 t1 t2 t3 x0 x1 x2 x3
        by_cases he : er = 0
        · have hee : ((er : Int) != 0) = false := by simp [he]
          rw [if_pos he] at HA
          have hisc : Hid (isCell m (p, P, Q, R)) := Lib.hid (by
            have h1 := addK_cuboid H0.out.1.ok L (q, S, M, X)
            rw [HA.out] at h1
            exact h1.cell (L, (p, P, Q, R)) (getK_mem (by rw [getK_setK, if_pos rfl])))
          clear he
          go_wp2_with fail
          generalize w8.alloc (.cells #[.int .i64 p, .slice E1 m1 e1, .slice E2 m2' e2, .slice E3 m3 e3] 42) = w9 at h9 hK9 hS9 hc9 hb9 ⊢
          obtain ⟨sb, hsb⟩ : ∃ sb, w8.heap.size = sb := ⟨_, rfl⟩
          rw [hsb] at hkz8 hS9 ⊢
          clear hsb
          obtain ⟨l0, l1, l2, l3, l4, l5, l6, hV, _, _⟩ := kept_letters (p, P, Q, R)
          have hkp := Lib.hid (keep_any (n := p) (w := w9.drew) hc9.drew)
          rw [hV.out] at hkp
          have KK : Hid (∀ y : World, Below w9.heap.size w9 y → y.cell? ⟨g, 2, none⟩ = some (.map (some b)) ∧ y.cell? ⟨kb, 0, none⟩ = some (.int .i64 x) ∧ y.cell? ⟨kb, 1, none⟩ = some (.int .i64 y') ∧ y.cell? ⟨kb, 2, none⟩ = some (.int .i64 z) ∧ y.cell? ⟨sb, 0, none⟩ = some (.int .i64 p) ∧ y.cell? ⟨sb, 1, none⟩ = some (.slice E1 m1 e1) ∧ y.cell? ⟨sb, 2, none⟩ = some (.slice E2 m2' e2) ∧ y.cell? ⟨sb, 3, none⟩ = some (.slice E3 m3 e3)) := Lib.hid fun y hy => by
            have a1 := hK9.below hy hK9.lt
            have a2 := hS9.below hy hS9.lt
            exact ⟨(h9.belowS hy).c2, a1.cell 0, a1.cell 1, a1.cell 2, a2.cell 0, a2.cell 1, a2.cell 2, a2.cell 3⟩
          have KS : Hid (∀ y : World, Below w9.heap.size w9 y → ∃ w', (Instr.mapUpdate 53 (.map (some b)) (.agg #[.int .i64 x, .int .i64 y', .int .i64 z]) (.agg #[.int .i64 l0, .int .i64 l1, .int .i64 l2, .int .i64 l3, .int .i64 l4, .int .i64 l5, .int .i64 l6])).run Try.prog y = .ok () w' ∧ Cb w' g b W m (setK C L (p, P, Q, R)) ∧ y.grownBy w' (some b) ∧ w'.cell? ⟨g, 2, none⟩ = some (.map (some b)) ∧ w'.cell? ⟨kb, 0, none⟩ = some (.int .i64 x) ∧ w'.cell? ⟨kb, 1, none⟩ = some (.int .i64 y') ∧ w'.cell? ⟨kb, 2, none⟩ = some (.int .i64 z) ∧ w'.cell? ⟨sb, 0, none⟩ = some (.int .i64 p) ∧ w'.cell? ⟨sb, 1, none⟩ = some (.slice E1 m1 e1) ∧ w'.cell? ⟨sb, 2, none⟩ = some (.slice E2 m2' e2) ∧ w'.cell? ⟨sb, 3, none⟩ = some (.slice E3 m3 e3)) := Lib.hid fun y hy => by
            have hy9 := h9.belowS hy
            obtain ⟨w', r1, r2, r3⟩ := hy9.map.store hw3 (t := 53) (x := (p, P, Q, R)) Try.underlying53 hy9.ok.ris (by have := hy9.len; omega) hk
            rw [hxyz.out, hV.out] at r1
            have a1 := (hK9.below hy hK9.lt).grown r3 (fun e => by injection e with e; omega)
            have a2 := (hS9.below hy hS9.lt).grown r3 (fun e => by injection e with e; omega)
            have a3 := hy9.put r3 r2 hk hisc.out
            exact ⟨w', r1, a3, r3, a3.c2, a1.cell 0, a1.cell 1, a1.cell 2, a2.cell 0, a2.cell 1, a2.cell 2, a2.cell 3⟩
          have k := KK.out _ (Below.refl _ w9)
          obtain ⟨k0, k1, k2, k3, k4, k5, k6, k7⟩ := k
          have HB9 := Lib.hid hb9
          clear h9 hK9 hS9 hc9 hb9
          go_region_held3 (fun w' => w'.cell? ⟨g, 2, none⟩ = some (.map (some b)) ∧ w'.cell? ⟨kb, 0, none⟩ = some (.int .i64 x) ∧ w'.cell? ⟨kb, 1, none⟩ = some (.int .i64 y') ∧ w'.cell? ⟨kb, 2, none⟩ = some (.int .i64 z) ∧ w'.cell? ⟨sb, 0, none⟩ = some (.int .i64 p) ∧ w'.cell? ⟨sb, 1, none⟩ = some (.slice E1 m1 e1) ∧ w'.cell? ⟨sb, 2, none⟩ = some (.slice E2 m2' e2) ∧ w'.cell? ⟨sb, 3, none⟩ = some (.slice E3 m3 e3))
            (first
              | go_keep
              | exact K11
              | exact KK.out _ hBB1)
            (first
              | (go_at_call 18; refine hkp.out.mono ?_; rintro e w10 ⟨rfl, hb10⟩; have hBB1 : Below w9.heap.size w9 w10 := ((below_drewN (Below.refl _ w9) 1).trans hb10); obtain ⟨w11, hrun, h11, hg11, K11⟩ := KS.out _ hBB1))
          have HF := Lib.hid (And.intro h11 (below_grown (below_then HB9.out hBB1) hg11))
          clear h11 hg11 hBB1 hb10 hrun K11 KK KS k0 k1 k2 k3 k4 k5 k6 k7
          go_wp2_with fail
          go_ret
          rw [HA.out]
          exact ⟨rfl, HF.out.1, HF.out.2⟩
        · have hee : ((er : Int) != 0) = true := by simpa using he
          rw [if_neg he] at HA
          have HF := Lib.hid (And.intro h9 (grown_of hb9 (some b)))
          clear he h9 hK9 hS9 hc9 hb9
          go_wp2_with fail
          go_ret
          rw [HA.out]
          exact ⟨rfl, HF.out.1, HF.out.2⟩
  · have hcon := Lib.hid (keyOf_no h1.c0 hL1 hk)
    have HV := Lib.hid (addK_nokey (m := m) (C := C) (x := (q, S, M, X)) hk)
    go_enter Try.func12, Try.ntmps12
    go_wp2_with fail
    generalize w.alloc (.cells #[.int .i64 q, .slice A1 n1 c1, .slice A2 n2 c2, .slice A3 n3 c3] 42) = w1 at hb1 h1 hL1 hx1 hcon hX ⊢
    refine hcon.out.mono ?_
    rintro e w2 ⟨rfl, hb2⟩
    have hbx := below_then hb2 (below_a1 w2 (.cells #[.int .i64 0, .int .i64 0, .int .i64 0] 57))
    have HF := Lib.hid (And.intro (h1.belowS hbx) (grown_of (below_then hb1 hbx) (some b)))
    clear hL1 h1 hb1 hbx hb2 hcon hX hx1 hk
    go_wp2_with fail
    go_ret
    rw [HV.out]
    exact ⟨rfl, HF.out.1, HF.out.2⟩
end Go.Proofs.Yteifhgcjmjihgaa
namespace Go.Proofs.Yteifhgcjmjihgaa
set_option maxRecDepth 100000
open Go.RowKit

/-- One of n. -/
def pickN (c : Int) (n : Nat) : Nat := (if c < 0 then -(c + 1) else c).toNat % n
theorem pickN_lt (c : Int) {n : Nat} (h : 1 ≤ n) : pickN c n < n := Nat.mod_lt _ (by omega)
set_option maxRecDepth 100000 in
theorem pick_any (c : Int) (n : Nat) (h : -9223372036854775808 ≤ c) (h' : c ≤ 9223372036854775807) (hn : 1 ≤ n) (hn' : n ≤ 4611686018427387904) (w : World) :
    Calls Try.prog 13 #[.int .i64 c, .int .i64 (n : Int)] w fun e w' => e = .returned (.int .i64 (pickN c n : Int)) ∧ w = w' := by
  have n0 : ¬ (n : Int) = 0 := by omega
  have n1 : ¬ n = 0 := by omega
  by_cases hc : c < 0
  · obtain ⟨q, hq⟩ : ∃ q : Nat, -(c + 1) = (q : Int) := ⟨(-(c + 1)).toNat, by omega⟩
    have h0 : (0 : Int) ≤ (q : Int) := by omega
    have hqb : (q : Int) ≤ 9223372036854775807 := by omega
    have he : Hid (pickN c n = q % n) := Lib.hid (by unfold pickN; rw [if_pos hc, hq, Int.toNat_natCast])
    have hm : Hid (q % n < n) := Lib.hid (Nat.mod_lt _ (by omega))
    have hw1 : Hid (Int.tmod (q : Int) (n : Int) = ((q % n : Nat) : Int)) := Lib.hid (by rw [Int.tmod_eq_emod_of_nonneg h0]; rfl)
    rw [he.out]
    go_enter Try.func13, Try.ntmps13
    go_wp2
    go_ret
    exact ⟨by first | rfl | (simp only [hw1.out]; congr 1; go_num), rfl⟩
  · obtain ⟨q, rfl⟩ : ∃ q : Nat, c = (q : Int) := ⟨c.toNat, by omega⟩
    have h0 : (0 : Int) ≤ (q : Int) := by omega
    have he : Hid (pickN (q : Int) n = q % n) := Lib.hid (by unfold pickN; rw [if_neg hc, Int.toNat_natCast])
    have hm : Hid (q % n < n) := Lib.hid (Nat.mod_lt _ (by omega))
    rw [he.out]
    go_enter Try.func13, Try.ntmps13
    go_wp2
    go_ret
    exact ⟨by first | rfl | (congr 1; go_num), rfl⟩
theorem pick5_any (c : Int) (h : -9223372036854775808 ≤ c ∧ c ≤ 9223372036854775807) (w : World) : Calls Try.prog 13 #[.int .i64 c, .int .i64 5] w fun e w' => e = .returned (.int .i64 (pickN c 5 : Int)) ∧ w = w' := pick_any c 5 h.1 h.2 (by decide) (by decide) w
theorem pick50_any (c : Int) (h : -9223372036854775808 ≤ c ∧ c ≤ 9223372036854775807) (w : World) : Calls Try.prog 13 #[.int .i64 c, .int .i64 1125899906842624] w fun e w' => e = .returned (.int .i64 (pickN c 1125899906842624 : Int)) ∧ w = w' := pick_any c 1125899906842624 h.1 h.2 (by decide) (by decide) w
theorem own_one {w : World} {g base : Nat} {n : Int} (hb : Block w g 3 #[.int .i64 n]) (h : base ≤ g) : OwnI w base (.slice (some ⟨g, 0, none⟩) 1 1) [n] :=
  ⟨rfl, .inr ⟨g, 1, #[.int .i64 n], rfl, h, hb, by simp, by unfold maxLen; omega, by simp, by simp [i64v]⟩⟩
set_option maxRecDepth 100000 in
set_option maxHeartbeats 1000000 in
theorem lawOne_any (n : Int) (w : World) :
    Calls Try.prog 14 #[.int .i64 n] w fun e w' => ∃ A1 n1 c1 A2 n2 c2 A3 n3 c3, e = .returned (.agg #[.int .i64 1, .slice A1 n1 c1, .slice A2 n2 c2, .slice A3 n3 c3]) ∧ HasC w' w'.heap.size A1 n1 c1 A2 n2 c2 A3 n3 c3 [n] [n] [n] ∧ Below w.heap.size w w' := by
  go_enter Try.func14, Try.ntmps14
  go_wp2_with fail
  have hb0 := below_a4 w (.cells #[.int .i64 1, .slice (some ⟨w.heap.size + 1, 0, none⟩) 1 1, .slice (some ⟨w.heap.size + 1 + 1, 0, none⟩) 1 1, .slice (some ⟨w.heap.size + 1 + 1 + 1, 0, none⟩) 1 1] 42) (.cells #[.int .i64 n] 3) (.cells #[.int .i64 n] 3) (.cells #[.int .i64 n] 3)
  have h3 := blocks3 w (.cells #[.int .i64 1, .slice (some ⟨w.heap.size + 1, 0, none⟩) 1 1, .slice (some ⟨w.heap.size + 1 + 1, 0, none⟩) 1 1, .slice (some ⟨w.heap.size + 1 + 1 + 1, 0, none⟩) 1 1] 42) 3 #[.int .i64 n]
  refine bodyPost_ret (results_block1 rfl _ _ w.heap.size _ _ rfl ((((Block.new w 42 _).alloc _).alloc _).alloc _) Try.underlying42 rfl info_cell) rfl ?_
  exact ⟨_, _, _, _, _, _, _, _, _, rfl, ⟨(own_one (base := 0) h3.1 (Nat.zero_le _)).has, (own_one (base := 0) h3.2.1 (Nat.zero_le _)).has, (own_one (base := 0) h3.2.2 (Nat.zero_le _)).has⟩, hb0⟩
end Go.Proofs.Yteifhgcjmjihgaa
