/- Layer 5: the reference: May. -/
import Derived.Test.YtbgbchbnidejhaaCellRE
import Derived.Test.YtbgbchbnidejhaaCellRT
namespace Go.Proofs.Ytbgbchbnidejhaa
open Go.RowKit

theorem cEmpty_len (m : Nat) : (cEmpty m).2.1.length = m := by simp [cEmpty]
set_option maxRecDepth 100000 in
set_option maxHeartbeats 4000000 in
theorem refMay_any5 {n : Int} {A1 A2 A3 : Option Addr} {n1 c1 n2 c2 n3 c3 : Nat} {S M X : List Int} {w : World} (h : HasC w w.heap.size A1 n1 c1 A2 n2 c2 A3 n3 c3 S M X) {r : Bool} (hr : r = true ↔ cMay (n, S, M, X)) :
    Calls Try.prog 20 #[cellV n A1 n1 c1 A2 n2 c2 A3 n3 c3] w fun e w' => e = .returned (.bool r) ∧ Below w.heap.size w w' := by
  have l1 := h.s.len
  have l2 := h.m.len
  have l3 := h.x.len
  have m1 := h.s.lenMax
  have m2 := h.m.lenMax
  have m3 := h.x.lenMax
  have R : Hid (r = true ↔ S.length ≤ 2 ∧ M.length = S.length ∧ X.length = S.length ∧ ((n, S, M, X) = cEmpty S.length ∨ fullMay (n, S, M, X))) := Lib.hid hr
  have LL := Lib.hid (And.intro l1 (And.intro l2 l3))
  have hbx := Lib.hid (below_a1 w (.cells #[.int .i64 n, .slice A1 n1 c1, .slice A2 n2 c2, .slice A3 n3 c3] 26))
  clear hr
  by_cases h1 : n1 ≤ 2
  · by_cases h2 : n2 = n1
    · by_cases h3 : n3 = n1
      · subst h2 h3
        clear l1 l2 l3
        obtain ⟨re, hre⟩ : ∃ re : Bool, Hid (re = true ↔ (n, S, M, X) = cEmpty n3) := ⟨decide ((n, S, M, X) = cEmpty n3), Lib.hid (by simp)⟩
        have R2 : Hid (r = true ↔ re = true ∨ fullMay (n, S, M, X)) := Lib.hid (by
          rw [R.out, LL.out.1, hre.out, LL.out.2.1, LL.out.2.2]
          exact ⟨fun h => h.2.2.2, fun h => ⟨h1, rfl, rfl, h⟩⟩)
        clear R
        have k2 : ((n3 : Int) != (n3 : Int)) = false := by simp
        go_enter Try.func20, Try.ntmps20
        go_wp2_with fail
        have hB := Block.new w 26 #[.int .i64 n, .slice A1 n3 c1, .slice A2 n3 c2, .slice A3 n3 c3]
        have hC := h.allocS (.cells #[.int .i64 n, .slice A1 n3 c1, .slice A2 n3 c2, .slice A3 n3 c3] 26)
        generalize w.alloc (.cells #[.int .i64 n, .slice A1 n3 c1, .slice A2 n3 c2, .slice A3 n3 c3] 26) = w1 at hbx hB hC ⊢
        have g0 : w1.cell? ⟨w.heap.size, 0, none⟩ = some (.int .i64 n) := hB.cell 0
        have g1 : w1.cell? ⟨w.heap.size, 1, none⟩ = some (.slice A1 n3 c1) := hB.cell 1
        have g2 : w1.cell? ⟨w.heap.size, 2, none⟩ = some (.slice A2 n3 c2) := hB.cell 2
        have g3 : w1.cell? ⟨w.heap.size, 3, none⟩ = some (.slice A3 n3 c3) := hB.cell 3
        clear h
        have HE := Lib.hid (refEmpty_any (n3 : Int) w1.drew (m := n3) (by omega))
        have K : Hid (∀ y, Below w1.heap.size w1 y → y.cell? ⟨w.heap.size, 0, none⟩ = some (.int .i64 n) ∧ y.cell? ⟨w.heap.size, 1, none⟩ = some (.slice A1 n3 c1) ∧ y.cell? ⟨w.heap.size, 2, none⟩ = some (.slice A2 n3 c2) ∧ y.cell? ⟨w.heap.size, 3, none⟩ = some (.slice A3 n3 c3)) :=
          Lib.hid fun y hy => ⟨(hB.below hy hB.lt).cell 0, (hB.below hy hB.lt).cell 1, (hB.below hy hB.lt).cell 2, (hB.below hy hB.lt).cell 3⟩
        go_region_held3 (fun w' => w'.cell? ⟨w.heap.size, 0, none⟩ = some (.int .i64 n) ∧ w'.cell? ⟨w.heap.size, 1, none⟩ = some (.slice A1 n3 c1) ∧ w'.cell? ⟨w.heap.size, 2, none⟩ = some (.slice A2 n3 c2) ∧ w'.cell? ⟨w.heap.size, 3, none⟩ = some (.slice A3 n3 c3))
          (first
            | exact K.out _ hd2
            | exact K.out _ hd1
            | exact K.out _ (Below.drew (Below.refl _ _)))
          (first
            | (go_at_call 18; refine HE.out.mono ?_; rintro e y1 ⟨⟨v1, v2, v3, rfl, ho, _⟩, hb1⟩; obtain ⟨B1, m1, d1, B2, m2, d2, B3, m3, d3, rfl, rfl, rfl, hF⟩ := ho.form; have hd1 := (show Below w1.heap.size w1 w1.drew from Below.drew (Below.refl _ _)).trans hb1)
            | (go_at_call 13; refine (refSame_any (hC.belowS hd1) hF (r := re) hre.out).mono ?_; rintro e y2 ⟨rfl, hb2⟩; have hd2 := below_then hd1 hb2))
        have hbz := hbx.out.trans (hd2.mono hbx.out.size)
        have hBz := hB.below hd2 hB.lt
        have hCz := hC.belowS hd2
        clear hd1 hd2 hb1 hb2 K HE hB hC hF ho g0 g1 g2 g3
        have g0 : y2.cell? ⟨w.heap.size, 0, none⟩ = some (.int .i64 n) := hBz.cell 0
        have g1 : y2.cell? ⟨w.heap.size, 1, none⟩ = some (.slice A1 n3 c1) := hBz.cell 1
        have g2 : y2.cell? ⟨w.heap.size, 2, none⟩ = some (.slice A2 n3 c2) := hBz.cell 2
        have g3 : y2.cell? ⟨w.heap.size, 3, none⟩ = some (.slice A3 n3 c3) := hBz.cell 3
        clear hBz hbx
        have HB := Lib.hid hbz
        clear hbz
        -- GEN
        cases re
        · by_cases c1 : n < 1
          · have Z : Hid (r = false) := Lib.hid (by
              rw [Bool.eq_false_iff]; intro h
              rcases R2.out.1 h with h1 | h1
              · cases h1
              · have h2 : 1 ≤ n := h1.1
                omega)
            go_wp2_with fail
            go_ret
            exact ⟨bool_of Z.out.symm, HB.out⟩
          · by_cases c2 : 1099511627776 < n
            · have Z : Hid (r = false) := Lib.hid (by
                rw [Bool.eq_false_iff]; intro h
                rcases R2.out.1 h with h1 | h1
                · cases h1
                · have h2 : n ≤ 1099511627776 := h1.2.1
                  omega)
              go_wp2_with fail
              go_ret
              exact ⟨bool_of Z.out.symm, HB.out⟩
            · go_wp2_with fail
              go_loopw [5] (fun i wr => ∃ k q : Nat, k ≤ n3 ∧ i = .int .i64 k ∧ wr = y2.drewN q ∧ Hid (∀ j, j < k → mMay n (S.getD j 0) (M.getD j 0) (X.getD j 0))) (fun i _ => n3 - (intOf i).toNat)
              case atStart => exact ⟨0, 0, Nat.zero_le _, rfl, rfl, Lib.hid fun j hj => absurd hj (by omega)⟩
              case round =>
                obtain ⟨k, q, hk, rfl, rfl, hJ⟩ := hrel
                by_cases hlt : k < n3
                · obtain ⟨b1, o1, s, rfl, _, cs, es⟩ := hCz.s.at_ hlt
                  obtain ⟨b2, o2, lo, rfl, _, cm, em⟩ := hCz.m.at_ hlt
                  obtain ⟨b3, o3, hi, rfl, _, cx, ex⟩ := hCz.x.at_ hlt
                  have i0 : (0 : Int) ≤ (k : Int) := by omega
                  have i1 : (k : Int) < (n3 : Int) := by omega
                  obtain ⟨b2, hb2⟩ : ∃ b, inB lo 2305843009213693952 = b := ⟨_, rfl⟩
                  obtain ⟨b3, hb3⟩ : ∃ b, inB hi 2305843009213693952 = b := ⟨_, rfl⟩
                  obtain ⟨b4, hb4⟩ : ∃ b, inB s 4611686018427387904 = b := ⟨_, rfl⟩
                  have K2 : Hid ((b2 = true ↔ inV lo) ∧ (b3 = true ↔ inV hi) ∧ (b4 = true ↔ inS s)) := Lib.hid ⟨by rw [← hb2, inB_V]; simp, by rw [← hb3, inB_V]; simp, by rw [← hb4, inB_S]; simp⟩
                  have I2 : Hid (∀ w, Calls Try.prog 31 #[.int .i64 lo, .int .i64 2305843009213693952] w fun e w' => e = .returned (.bool b2) ∧ w = w') := Lib.hid fun w => by have := refIn_any lo 2305843009213693952 w (by decide) (by decide); rwa [hb2] at this
                  have I3 : Hid (∀ w, Calls Try.prog 31 #[.int .i64 hi, .int .i64 2305843009213693952] w fun e w' => e = .returned (.bool b3) ∧ w = w') := Lib.hid fun w => by have := refIn_any hi 2305843009213693952 w (by decide) (by decide); rwa [hb3] at this
                  have I4 : Hid (∀ w, Calls Try.prog 31 #[.int .i64 s, .int .i64 4611686018427387904] w fun e w' => e = .returned (.bool b4) ∧ w = w') := Lib.hid fun w => by have := refIn_any s 4611686018427387904 w (by decide) (by decide); rwa [hb4] at this
                  clear hb2 hb3 hb4
                  by_cases e2 : lo ≤ hi
                  · have hd : decide (hi < lo) = false := by simpa using e2
                    cases b2
                    · have Z : Hid (r = false) := Lib.hid (by
                        rw [Bool.eq_false_iff]; intro h
                        rcases R2.out.1 h with h1 | h1
                        · cases h1
                        · have h2 := h1.2.2 k (by rw [LL.out.1]; exact hlt)
                          have h2 : mMay n (S.getD k 0) (M.getD k 0) (X.getD k 0) := h2
                          rw [← es.out, ← em.out, ← ex.out] at h2
                          have h3 := K2.out
                          revert h2
                          unfold mMay
                          exact fun h => by cases h3.1.2 h.2.1)
                      go_wp2_with fail
                      go_big_quiet ((first | (go_at_call 31; with_reducible exact quietQ I2.out _) | (go_at_call 31; with_reducible exact quietQ I3.out _) | (go_at_call 31; with_reducible exact quietQ I4.out _)))
                      go_wp2_with fail
                      go_ret
                      exact ⟨bool_of Z.out.symm, below_drewN (below_drewN HB.out _) _⟩
                    · cases b3
                      · have Z : Hid (r = false) := Lib.hid (by
                          rw [Bool.eq_false_iff]; intro h
                          rcases R2.out.1 h with h1 | h1
                          · cases h1
                          · have h2 := h1.2.2 k (by rw [LL.out.1]; exact hlt)
                            have h2 : mMay n (S.getD k 0) (M.getD k 0) (X.getD k 0) := h2
                            rw [← es.out, ← em.out, ← ex.out] at h2
                            have h3 := K2.out
                            revert h2
                            unfold mMay
                            exact fun h => by cases h3.2.1.2 h.2.2.1)
                        go_wp2_with fail
                        go_big_quiet ((first | (go_at_call 31; with_reducible exact quietQ I2.out _) | (go_at_call 31; with_reducible exact quietQ I3.out _) | (go_at_call 31; with_reducible exact quietQ I4.out _)))
                        go_wp2_with fail
                        go_ret
                        exact ⟨bool_of Z.out.symm, below_drewN (below_drewN HB.out _) _⟩
                      · cases b4
                        · have Z : Hid (r = false) := Lib.hid (by
                            rw [Bool.eq_false_iff]; intro h
                            rcases R2.out.1 h with h1 | h1
                            · cases h1
                            · have h2 := h1.2.2 k (by rw [LL.out.1]; exact hlt)
                              have h2 : mMay n (S.getD k 0) (M.getD k 0) (X.getD k 0) := h2
                              rw [← es.out, ← em.out, ← ex.out] at h2
                              have h3 := K2.out
                              revert h2
                              unfold mMay
                              exact fun h => by cases h3.2.2.2 h.2.2.2.1)
                          go_wp2_with fail
                          go_big_quiet ((first | (go_at_call 31; with_reducible exact quietQ I2.out _) | (go_at_call 31; with_reducible exact quietQ I3.out _) | (go_at_call 31; with_reducible exact quietQ I4.out _)))
                          go_wp2_with fail
                          go_ret
                          exact ⟨bool_of Z.out.symm, below_drewN (below_drewN HB.out _) _⟩
                        · by_cases e5 : n = 1
                          · have k5 : ((n : Int) == 1) = true := by simpa using e5
                            by_cases e6 : s = lo
                            · have k6 : ((s : Int) != lo) = false := by simpa using e6
                              by_cases e7 : s = hi
                              · have k7 : ((s : Int) != hi) = false := by simpa using e7
                                have hJ2 : Hid (∀ j, j < k + 1 → mMay n (S.getD j 0) (M.getD j 0) (X.getD j 0)) := Lib.hid fun j hj => by
                                  by_cases h : j < k
                                  · exact hJ.out j h
                                  · obtain rfl : j = k := by omega
                                    rw [← es.out, ← em.out, ← ex.out]
                                    obtain ⟨a2, a3, a4⟩ := K2.out
                                    exact ⟨e2, a2.1 rfl, a3.1 rfl, a4.1 rfl, fun _ => ⟨e6, e7⟩⟩
                                clear e5 e6 e7
                                go_wp2_with fail
                                go_big_quiet ((first | (go_at_call 31; with_reducible exact quietQ I2.out _) | (go_at_call 31; with_reducible exact quietQ I3.out _) | (go_at_call 31; with_reducible exact quietQ I4.out _)))
                                go_wp2_with fail
                                go_big_quiet (fail)
                                go_wp2_with fail
                                go_roundw
                                case rel => exact ⟨k + 1, _, by omega, by go_num, by first | rfl | simp only [World.drewN_drewN], hJ2⟩
                                case measure => simp [intOf]; omega
                              · have k7 : ((s : Int) != hi) = true := by simpa using e7
                                have Z : Hid (r = false) := Lib.hid (by
                                  rw [Bool.eq_false_iff]; intro h
                                  rcases R2.out.1 h with h1 | h1
                                  · cases h1
                                  · have h2 := h1.2.2 k (by rw [LL.out.1]; exact hlt)
                                    have h2 : mMay n (S.getD k 0) (M.getD k 0) (X.getD k 0) := h2
                                    rw [← es.out, ← em.out, ← ex.out] at h2
                                    have h3 := K2.out
                                    revert h2
                                    unfold mMay
                                    exact fun h => e7 (h.2.2.2.2 e5).2)
                                clear e5 e6 e7
                                go_wp2_with fail
                                go_big_quiet ((first | (go_at_call 31; with_reducible exact quietQ I2.out _) | (go_at_call 31; with_reducible exact quietQ I3.out _) | (go_at_call 31; with_reducible exact quietQ I4.out _)))
                                go_wp2_with fail
                                go_big_quiet (fail)
                                go_wp2_with fail
                                go_ret
                                exact ⟨bool_of Z.out.symm, below_drewN (below_drewN (below_drewN HB.out _) _) _⟩
                            · have k6 : ((s : Int) != lo) = true := by simpa using e6
                              have Z : Hid (r = false) := Lib.hid (by
                                rw [Bool.eq_false_iff]; intro h
                                rcases R2.out.1 h with h1 | h1
                                · cases h1
                                · have h2 := h1.2.2 k (by rw [LL.out.1]; exact hlt)
                                  have h2 : mMay n (S.getD k 0) (M.getD k 0) (X.getD k 0) := h2
                                  rw [← es.out, ← em.out, ← ex.out] at h2
                                  have h3 := K2.out
                                  revert h2
                                  unfold mMay
                                  exact fun h => e6 (h.2.2.2.2 e5).1)
                              clear e5 e6
                              go_wp2_with fail
                              go_big_quiet ((first | (go_at_call 31; with_reducible exact quietQ I2.out _) | (go_at_call 31; with_reducible exact quietQ I3.out _) | (go_at_call 31; with_reducible exact quietQ I4.out _)))
                              go_wp2_with fail
                              go_big_quiet (fail)
                              go_wp2_with fail
                              go_ret
                              exact ⟨bool_of Z.out.symm, below_drewN (below_drewN (below_drewN HB.out _) _) _⟩
                          · have k5 : ((n : Int) == 1) = false := by simpa using e5
                            have hJ2 : Hid (∀ j, j < k + 1 → mMay n (S.getD j 0) (M.getD j 0) (X.getD j 0)) := Lib.hid fun j hj => by
                              by_cases h : j < k
                              · exact hJ.out j h
                              · obtain rfl : j = k := by omega
                                rw [← es.out, ← em.out, ← ex.out]
                                obtain ⟨a2, a3, a4⟩ := K2.out
                                exact ⟨e2, a2.1 rfl, a3.1 rfl, a4.1 rfl, fun h => absurd h e5⟩
                            clear e5
                            go_wp2_with fail
                            go_big_quiet ((first | (go_at_call 31; with_reducible exact quietQ I2.out _) | (go_at_call 31; with_reducible exact quietQ I3.out _) | (go_at_call 31; with_reducible exact quietQ I4.out _)))
                            go_wp2_with fail
                            go_big_quiet (fail)
                            go_wp2_with fail
                            go_roundw
                            case rel => exact ⟨k + 1, _, by omega, by go_num, by first | rfl | simp only [World.drewN_drewN], hJ2⟩
                            case measure => simp [intOf]; omega
                  · have Z : Hid (r = false) := Lib.hid (by
                      rw [Bool.eq_false_iff]; intro h
                      rcases R2.out.1 h with h1 | h1
                      · cases h1
                      · have h2 := h1.2.2 k (by rw [LL.out.1]; exact hlt)
                        have h2 : mMay n (S.getD k 0) (M.getD k 0) (X.getD k 0) := h2
                        rw [← es.out, ← em.out, ← ex.out] at h2
                        have h3 := K2.out
                        revert h2
                        unfold mMay
                        exact fun h => e2 h.1)
                    have hd : decide (hi < lo) = true := by simpa using e2
                    go_wp2_with fail
                    go_big_quiet ((first | (go_at_call 31; with_reducible exact quietQ I2.out _) | (go_at_call 31; with_reducible exact quietQ I3.out _) | (go_at_call 31; with_reducible exact quietQ I4.out _)))
                    go_wp2_with fail
                    go_ret
                    exact ⟨bool_of Z.out.symm, below_drewN (below_drewN HB.out _) _⟩
                · obtain rfl : k = n3 := by omega
                  have Z : Hid (r = true) := Lib.hid (R2.out.2 (.inr ⟨by show 1 ≤ n; omega, by show n ≤ _; omega, fun i hi => hJ.out i (by have h5 : i < S.length := hi; rw [LL.out.1] at h5; exact h5)⟩))
                  go_wp2_with fail
                  go_ret
                  exact ⟨bool_of Z.out.symm, below_drewN HB.out _⟩
        · have Z : Hid (r = true) := Lib.hid (R2.out.2 (.inl rfl))
          go_wp2_with fail
          go_ret
          exact ⟨bool_of Z.out.symm, HB.out⟩
      · have Z : Hid (r = false) := Lib.hid (by rw [Bool.eq_false_iff]; intro h; have := (R.out.1 h).2.2.1; have := LL.out; omega)
        have e3 : ((n3 : Int) != (n1 : Int)) = true := by simp; omega
        subst h2
        have k2 : ((n2 : Int) != (n2 : Int)) = false := by simp
        clear l1 l2 l3 h3
        go_enter Try.func20, Try.ntmps20
        go_wp2_with fail
        go_ret
        exact ⟨bool_of Z.out.symm, hbx.out⟩
    · have Z : Hid (r = false) := Lib.hid (by rw [Bool.eq_false_iff]; intro h; have := (R.out.1 h).2.1; have := LL.out; omega)
      have e3 : ((n2 : Int) != (n1 : Int)) = true := by simp; omega
      clear l1 l2 l3 h2
      go_enter Try.func20, Try.ntmps20
      go_wp2_with fail
      go_ret
      exact ⟨bool_of Z.out.symm, hbx.out⟩
  · have Z : Hid (r = false) := Lib.hid (by rw [Bool.eq_false_iff]; intro h; have := (R.out.1 h).1; have := LL.out; omega)
    have e3 : (2 : Int) < (n1 : Int) := by omega
    clear l1 l2 l3 h1
    go_enter Try.func20, Try.ntmps20
    go_wp2_with fail
    go_ret
    exact ⟨bool_of Z.out.symm, hbx.out⟩
end Go.Proofs.Ytbgbchbnidejhaa
