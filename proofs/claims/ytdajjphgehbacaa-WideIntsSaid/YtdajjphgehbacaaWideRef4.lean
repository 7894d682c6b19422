/- Layer 4: the document's answers: order, totals. -/
import Derived.Test.YtdajjphgehbacaaWideRef3
namespace Go.Proofs.Ytdajjphgehbacaa
open Go.RowKit

theorem wFar_sign {z : Int} (h : wFar z) : (0 ≤ z ∧ shR z 79 = 0) ∨ (z < 0 ∧ shR z 79 = -1) :=
  shR_ends (z := z) (m := 79) (by have := h.1; omega) (by have := h.2; omega)

set_option maxRecDepth 100000 in
set_option maxHeartbeats 2000000 in
theorem refLess_any (b1 o1 c b2 o2 d : Nat) (x y : Int) (w : World) (ha : HasI w w.heap.size (some ⟨b1, o1, none⟩) 80 c (bitsOf 80 x)) (hb : HasI w w.heap.size (some ⟨b2, o2, none⟩) 80 d (bitsOf 80 y)) (hx : wFar x) (hy : wFar y) :
    Calls Try.prog 23 #[.slice (some ⟨b1, o1, none⟩) 80 c, .slice (some ⟨b2, o2, none⟩) 80 d] w fun e w' => e = .returned (.bool (decide (x < y))) ∧ ∃ q, w' = w.drewN q := by
  have hsx := wFar_sign hx
  have hsy := wFar_sign hy
  have cellA : ∀ k, k < 80 → ∃ p, w.cell? ⟨b1, o1 + k, none⟩ = some (.int .i64 p) ∧ Hid (p = shR x k % 2) := fun k hk => by
    obtain ⟨b', o', t, hA, _, hct, hte⟩ := ha.at_ (k := k) hk
    injection hA with hA; injection hA with hA1 hA2; subst hA1 hA2
    exact ⟨t, hct, Lib.hid (by rw [hte.out, bitsOf_getD _ _ _ hk])⟩
  have cellB : ∀ k, k < 80 → ∃ p, w.cell? ⟨b2, o2 + k, none⟩ = some (.int .i64 p) ∧ Hid (p = shR y k % 2) := fun k hk => by
    obtain ⟨b', o', t, hA, _, hct, hte⟩ := hb.at_ (k := k) hk
    injection hA with hA; injection hA with hA1 hA2; subst hA1 hA2
    exact ⟨t, hct, Lib.hid (by rw [hte.out, bitsOf_getD _ _ _ hk])⟩
  obtain ⟨p, hcp, hp⟩ := cellA 79 (by decide)
  obtain ⟨q, hcq, hq⟩ := cellB 79 (by decide)
  have hc1 := ha.cap
  have hc2 := ha.capMax
  have hd1 := hb.cap
  have hd2 := hb.capMax
  have HA := Lib.hid cellA
  have HB := Lib.hid cellB
  clear cellA cellB ha hb
  by_cases he : p = q
  · have he1 : ((p : Int) != q) = false := by simp [he]
    have hE : Hid (shR x 79 = shR y 79) := Lib.hid (by have h1 := hp.out; have h2 := hq.out; omega)
    clear he hsx hsy
    go_enter Try.func23, Try.ntmps23
    go_wp2_with fail
    go_quiet (fail)
    generalize hw1 : w.drewN nq = w1
    have hW := Lib.hid hw1
    clear hw1
    go_wp2_with fail
    go_loopw [5] (fun i wr => ∃ j q : Nat, j ≤ 79 ∧ i = .int .i64 ((j : Int) - 1) ∧ wr = w.drewN q ∧ Hid (shR x j = shR y j)) (fun i _ => (intOf i + 1).toNat)
    case atStart => exact ⟨79, nq, Nat.le_refl _, rfl, hW.out.symm, hE⟩
    case round =>
      obtain ⟨j, m, hj, rfl, rfl, hjj⟩ := hrel
      rcases j with _ | k
      · have hxy : decide (x < y) = false := decide_eq_false (by have : x = y := hjj.out; omega)
        have hxy := Lib.hid hxy
        go_wp2_with fail
        go_ret
        exact ⟨bool_of hxy.out.symm, m, rfl⟩
      · clear hcp hcq hp hq he1
        obtain ⟨p, hcp, hp⟩ := HA.out k (by omega)
        obtain ⟨q, hcq, hq⟩ := HB.out k (by omega)
        have i0 : (0 : Int) ≤ (k : Int) := by omega
        have i1 : (k : Int) < 79 := by omega
        rw [show ((k + 1 : Nat) : Int) - 1 = (k : Int) from by omega]
        have hX : Hid (shR x k / 2 = shR y k / 2) := Lib.hid hjj.out
        clear hjj hj
        by_cases he : p = q
        case' pos => have he1 : ((p : Int) != q) = false := by simp [he]
        case' neg => have he1 : ((p : Int) != q) = true := by simp [he]
        case pos =>
          have hK : Hid (shR x k = shR y k) := Lib.hid (by have h1 := hp.out; have h2 := hq.out; have h3 := hX.out; omega)
          clear he
          go_wp2_with fail
          go_quiet (fail)
          generalize hw2 : (w.drewN m).drewN nq = w2
          have hV := Lib.hid hw2
          clear hw2
          go_wp2_with fail
          go_roundw
          case rel => exact ⟨k, m + nq, by omega, rfl, by rw [← hV.out, World.drewN_drewN], hK⟩
          case measure => simp [intOf]
        case neg =>
          have hr : decide (p < q) = decide (x < y) := by
            have h1 := hp.out; have h2 := hq.out; have h3 := hX.out
            by_cases hpq : p < q
            · rw [decide_eq_true hpq, decide_eq_true (shR_lt k (x := x) (y := y) (by omega))]
            · have := shR_lt k (x := y) (y := x) (by omega)
              rw [decide_eq_false hpq, decide_eq_false (by omega)]
          have hE2 := Lib.hid he
          clear he
          go_wp2_with fail
          go_quiet (fail)
          generalize hw2 : (w.drewN m).drewN nq = w2
          have hV : Hid (∃ t, w2 = w.drewN t) := Lib.hid ⟨m + nq, by rw [← hw2, World.drewN_drewN]⟩
          have hcp2 : w2.cell? ⟨b1, o1 + k, none⟩ = some (.int .i64 p) := by rw [← hw2]; exact hcp
          have hcq2 : w2.cell? ⟨b2, o2 + k, none⟩ = some (.int .i64 q) := by rw [← hw2]; exact hcq
          clear hw2
          go_wp2_with fail
          go_quiet (fail)
          go_wp2_with fail
          go_ret
          obtain ⟨t, ht⟩ := hV.out
          exact ⟨rfl, t + nq, by rw [ht, World.drewN_drewN]⟩
  · have he1 : ((p : Int) != q) = true := by simp [he]
    have hr : ((p : Int) == 1) = decide (x < y) := by
      have h1 := hp.out; have h2 := hq.out
      by_cases hp1 : p = 1
      · rw [hp1, decide_eq_true (show x < y by omega)]; rfl
      · rw [decide_eq_false (show ¬ x < y by omega)]; simp [hp1]
    clear he hsx hsy
    go_enter Try.func23, Try.ntmps23
    go_wp2_with fail
    go_quiet (fail)
    generalize hw2 : w.drewN nq = w2
    have hV := Lib.hid hw2
    have hcp2 : w2.cell? ⟨b1, o1 + 79, none⟩ = some (.int .i64 p) := by rw [← hw2]; exact hcp
    clear hw2
    go_wp2_with fail
    go_ret
    exact ⟨rfl, nq, by rw [← hV.out]⟩

set_option maxRecDepth 100000 in
set_option maxHeartbeats 2000000 in
theorem refTotal_any (A : Option Addr) (n c : Nat) (l : List Int) (w : World) (hr : HasI w w.heap.size A n c l) (hx : ∀ x ∈ l, -9223372036854775808 ≤ x ∧ x ≤ 9223372036854775807) :
    Calls Try.prog 22 #[.slice A n c] w fun e w' => (∃ v, e = .returned v ∧ OwnI w' w.heap.size v (bitsOf 80 (sumI l))) ∧ Below w.heap.size w w' := by
  have hlen := Lib.hid hr.len
  have hcap := hr.cap
  have hcm := hr.capMax
  go_enter Try.func22, Try.ntmps22
  go_wp2_with fail
  refine (refOf_any 0 _ (by decide) (by decide)).mono ?_
  rintro e w1 ⟨⟨v1, rfl, ho1⟩, hb1⟩
  go_wp2_with fail
  go_loopw [3, 4] (fun v i wr => ∃ k : Nat, k ≤ n ∧ i = .int .i64 k ∧ OwnI wr w.heap.size v (bitsOf 80 (sumI (l.take k))) ∧ Below w.heap.size w wr) (fun _ i _ => n - (intOf i).toNat)
  case atStart => exact ⟨0, Nat.zero_le _, rfl, by simpa [sumI] using ho1, hb1⟩
  case round =>
    obtain ⟨k, hk, rfl, ho, hbe⟩ := hrel
    have hz := hbe.size
    by_cases hlt : k < n
    · obtain ⟨b, o, y, rfl, hb, hcy, hye⟩ := (hr.below hbe (Nat.le_refl _)).at_ hlt
      have hyb : -9223372036854775808 ≤ y ∧ y ≤ 9223372036854775807 := by
        rw [hye.out, List.getD_eq_getElem?_getD, List.getElem?_eq_getElem (by rw [hlen.out]; exact hlt)]
        exact hx _ (List.getElem_mem _)
      have hsy : Hid (sumI (l.take (k + 1)) = sumI (l.take k) + y) := Lib.hid (by rw [sumI_take (by rw [hlen.out]; exact hlt), ← hye.out])
      obtain ⟨g, d, rfl, hrow, hg, hg1⟩ := bits_shape ho
      have i0 : (0 : Int) ≤ (k : Int) := by omega
      have i1 : (k : Int) < (n : Int) := by omega
      clear ho
      go_wp2_with fail
      refine (refOf_any y _ hyb.1 hyb.2).mono ?_
      rintro e w2 ⟨⟨v2, rfl, ho2⟩, hb2⟩
      obtain ⟨g2, d2, rfl, hrow2, hg2, hg3⟩ := bits_shape ho2
      have hrow3 := (hrow.below hb2 (Nat.le_refl _)).more hb2.size
      have hbe2 := hbe.trans (hb2.mono hz)
      have hz2 := hbe2.size
      clear ho2 hrow hb2 hcy hb
      go_wp2_with fail
      refine (refAdd_any _ _ _ _ _ _ _ hrow3 hrow2).mono ?_
      rintro e w3 ⟨⟨v3, rfl, ho3⟩, hb3⟩
      have hbe3 := hbe2.trans (hb3.mono hz2)
      have ho4 : Hid (OwnI w3 w.heap.size v3 (bitsOf 80 (sumI (l.take (k + 1))))) := Lib.hid (by rw [hsy.out]; exact ho3.low hz2)
      clear ho3 hb3 hrow3 hrow2 hbe2
      go_wp2_with fail
      go_roundw
      case rel => exact ⟨k + 1, by omega, by go_num, ho4.out, hbe3⟩
      case measure => simp [intOf]; omega
    · obtain rfl : k = n := by omega
      rw [← hlen.out, List.take_length] at ho
      have ho := Lib.hid ho
      go_wp2_with fail
      go_ret
      exact ⟨⟨_, rfl, ho.out⟩, hbe⟩
end Go.Proofs.Ytdajjphgehbacaa
