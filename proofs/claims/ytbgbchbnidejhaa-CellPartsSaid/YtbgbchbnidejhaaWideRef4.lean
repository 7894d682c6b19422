/- Layer 4: the document's answers: order, totals. -/
import Derived.Test.YtbgbchbnidejhaaWideRef3
namespace Go.Proofs.Ytbgbchbnidejhaa
open Go.RowKit

theorem wFar_sign {z : Int} (h : wFar z) : (0 ≤ z ∧ shR z 79 = 0) ∨ (z < 0 ∧ shR z 79 = -1) :=
  shR_ends (z := z) (m := 79) (by have := h.1; omega) (by have := h.2; omega)

set_option maxRecDepth 100000 in
set_option maxHeartbeats 2000000 in
theorem refTotal_any (A : Option Addr) (n c : Nat) (l : List Int) (w : World) (hr : HasI w w.heap.size A n c l) (hx : ∀ x ∈ l, -9223372036854775808 ≤ x ∧ x ≤ 9223372036854775807) :
    Calls Try.prog 37 #[.slice A n c] w fun e w' => (∃ v, e = .returned v ∧ OwnI w' w.heap.size v (bitsOf 80 (sumI l))) ∧ Below w.heap.size w w' := by
  have hlen := Lib.hid hr.len
  have hcap := hr.cap
  have hcm := hr.capMax
  go_enter Try.func37, Try.ntmps37
  go_wp2_with fail
  refine (refOf_any 0 _ (by decide) (by decide)).mono ?_
  rintro e w1 ⟨⟨v1, rfl, ho1⟩, hb1⟩
  go_wp2_with fail
  go_loopw [3, 4] (fun v i wr => ∃ k : Nat, k ≤ n ∧ i = .int .i64 k ∧ OwnI wr w.heap.size v (bitsOf 80 (sumI (l.take k))) ∧ Below w.heap.size w wr) (fun _ i _ => n - (intOf i).toNat)
  case atStart => exact ⟨0, Nat.zero_le _, rfl, by simpa [sumI] using ho1, hb1⟩
  case round =>
    obtain ⟨k, hk, rfl, ho, hbe⟩ := hrel
    have hz := hbe.size
    by_cases hlt : k < n
    · obtain ⟨b, o, y, rfl, hb, hcy, hye⟩ := (hr.below hbe (Nat.le_refl _)).at_ hlt
      have hyb : -9223372036854775808 ≤ y ∧ y ≤ 9223372036854775807 := by
        rw [hye.out, List.getD_eq_getElem?_getD, List.getElem?_eq_getElem (by rw [hlen.out]; exact hlt)]
        exact hx _ (List.getElem_mem _)
      have hsy : Hid (sumI (l.take (k + 1)) = sumI (l.take k) + y) := Lib.hid (by rw [sumI_take (by rw [hlen.out]; exact hlt), ← hye.out])
      obtain ⟨g, d, rfl, hrow, hg, hg1⟩ := bits_shape ho
      have i0 : (0 : Int) ≤ (k : Int) := by omega
      have i1 : (k : Int) < (n : Int) := by omega
      clear ho
      go_wp2_with fail
      refine (refOf_any y _ hyb.1 hyb.2).mono ?_
      rintro e w2 ⟨⟨v2, rfl, ho2⟩, hb2⟩
      obtain ⟨g2, d2, rfl, hrow2, hg2, hg3⟩ := bits_shape ho2
      have hrow3 := (hrow.below hb2 (Nat.le_refl _)).more hb2.size
      have hbe2 := hbe.trans (hb2.mono hz)
      have hz2 := hbe2.size
      clear ho2 hrow hb2 hcy hb
      go_wp2_with fail
      refine (refAdd_any _ _ _ _ _ _ _ hrow3 hrow2).mono ?_
      rintro e w3 ⟨⟨v3, rfl, ho3⟩, hb3⟩
      have hbe3 := hbe2.trans (hb3.mono hz2)
      have ho4 : Hid (OwnI w3 w.heap.size v3 (bitsOf 80 (sumI (l.take (k + 1))))) := Lib.hid (by rw [hsy.out]; exact ho3.low hz2)
      clear ho3 hb3 hrow3 hrow2 hbe2
      go_wp2_with fail
      go_roundw
      case rel => exact ⟨k + 1, by omega, by go_num, ho4.out, hbe3⟩
      case measure => simp [intOf]; omega
    · obtain rfl : k = n := by omega
      rw [← hlen.out, List.take_length] at ho
      have ho := Lib.hid ho
      go_wp2_with fail
      go_ret
      exact ⟨⟨_, rfl, ho.out⟩, hbe⟩
end Go.Proofs.Ytbgbchbnidejhaa
