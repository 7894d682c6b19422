/- Layer 5: the reference: total, Values. -/
import Derived.Test.YtbgbchbnidejhaaCellRS
import Derived.Test.YtbgbchbnidejhaaWideRef4
import Derived.Test.YtbgbchbnidejhaaCellP
namespace Go.Proofs.Ytbgbchbnidejhaa
open Go.RowKit

/-- What 'total' tells: the sum, and whether it may be one of a cell. -/
def TotIs (s z : Int) (b : Bool) : Prop := (inS s ∧ z = s ∧ b = true) ∨ (¬ inS s ∧ b = false ∧ ((is64 s ∧ z = s) ∨ (¬ is64 s ∧ z = 0)))
theorem totIs_any (s : Int) : ∃ z b, TotIs s z b := by
  by_cases h : inS s
  · exact ⟨_, _, .inl ⟨h, rfl, rfl⟩⟩
  · by_cases h2 : is64 s
    · exact ⟨_, _, .inr ⟨h, rfl, .inl ⟨h2, rfl⟩⟩⟩
    · exact ⟨_, _, .inr ⟨h, rfl, .inr ⟨h2, rfl⟩⟩⟩
set_option maxRecDepth 100000 in
set_option maxHeartbeats 2000000 in
theorem refTot_any {A : Option Addr} {n c : Nat} {l : List Int} {w : World} (h : HasI w w.heap.size A n c l) (hn : n ≤ 10000) (hx : I64 l) {z : Int} {b : Bool} (hs : TotIs (sumI l) z b) :
    Calls Try.prog 27 #[.slice A n c] w fun e w' => e = .returned (.tuple #[.int .i64 z, .bool b]) ∧ Below w.heap.size w w' := by
  have hfar : wFar (sumI l) := by
    have h1 := sumI_bounds hx
    have h2 := h.len
    unfold wFar
    omega
  obtain ⟨s, hsd⟩ : ∃ s, sumI l = s := ⟨_, rfl⟩
  rw [hsd] at hs hfar
  have HT := Lib.hid (refTotal_any A n c l w h hx)
  rw [hsd] at HT
  have HF := Lib.hid hfar
  have HS := Lib.hid hs
  clear hs hfar hsd hx h
  go_enter Try.func27, Try.ntmps27
  go_wp2_with fail
  refine HT.out.mono ?_
  rintro e w1 ⟨⟨v, rfl, ho⟩, hb1⟩
  obtain ⟨g, k, rfl, hrow, -, -⟩ := bits_shape ho
  clear HT ho
  by_cases h6 : is64 s
  · have hI := Lib.hid (refInt_any _ _ _ s _ hrow HF.out s 0 (.inl ⟨h6.1, h6.2, rfl, rfl⟩))
    have hz : z = s := by
      rcases HS.out with ⟨_, h, _⟩ | ⟨_, _, ⟨_, h⟩ | ⟨h, _⟩⟩
      · exact h
      · exact h
      · exact absurd h6 h
    subst hz
    have hb : Hid (inB z 4611686018427387904 = b) := Lib.hid (by
      rw [inB_S]
      rcases HS.out with ⟨h, _, h2⟩ | ⟨h, h2, _⟩
      · rw [h2]; simpa using h
      · rw [h2]; simpa using h)
    clear hrow h6
    go_wp2_with fail
    refine hI.out.mono ?_
    rintro e w2 ⟨rfl, q, hw2⟩
    have hb2 : Below w.heap.size w w2 := by rw [hw2]; exact below_drewN hb1 q
    clear hw2 hI hb1
    go_wp2_with fail
    refine (refIn_any z 4611686018427387904 _ (by decide) (by decide)).mono ?_
    rintro e w3 ⟨rfl, rfl⟩
    rw [hb.out]
    go_wp2_with fail
    go_ret2
    exact ⟨rfl, hb2⟩
  · have hI := Lib.hid (refInt_any _ _ _ s _ hrow HF.out 0 14 (.inr ⟨h6, rfl, rfl⟩))
    obtain ⟨rfl, rfl⟩ : z = 0 ∧ b = false := by
      rcases HS.out with ⟨h, _⟩ | ⟨_, h, ⟨h2, _⟩ | ⟨_, h2⟩⟩
      · unfold inS at h
        unfold is64 at h6
        omega
      · exact absurd h2 h6
      · exact ⟨h2, h⟩
    clear hrow h6
    go_wp2_with fail
    refine hI.out.mono ?_
    rintro e w2 ⟨rfl, q, hw2⟩
    have hb2 : Below w.heap.size w w2 := by rw [hw2]; exact below_drewN hb1 q
    clear hw2 hI hb1
    go_wp2_with fail
    go_ret2
    exact ⟨rfl, hb2⟩

set_option maxRecDepth 100000 in
set_option maxHeartbeats 2000000 in
theorem refValues_any (x : Int) {A : Option Addr} {n c : Nat} {l : List Int} {w : World} (h : HasI w w.heap.size A n c l) {r : Bool} (hr : r = true ↔ isVal x l) :
    Calls Try.prog 26 #[.int .i64 x, .slice A n c] w fun e w' => e = .returned (.bool r) ∧ w = w' := by
  have R := Lib.hid hr
  have hll := Lib.hid h.len
  have hlm := h.lenMax
  clear hr
  by_cases hx : (n : Int) = x
  · subst hx
    have k0 : ((n : Int) != (n : Int)) = false := by simp
    go_enter Try.func26, Try.ntmps26
    go_wp2_with fail
    go_loop [5] (fun i => ∃ k : Nat, k ≤ n ∧ i = .int .i64 k ∧ Hid (∀ j, j < k → inV (l.getD j 0))) (fun i => n - (intOf i).toNat)
    case atStart => exact ⟨0, Nat.zero_le _, rfl, Lib.hid fun j hj => absurd hj (by omega)⟩
    case round =>
      obtain ⟨k, hk, rfl, hJ⟩ := hrel
      by_cases hlt : k < n
      · obtain ⟨b, o, y, rfl, _, cy, ey⟩ := h.at_ hlt
        have i0 : (0 : Int) ≤ (k : Int) := by omega
        have i1 : (k : Int) < (n : Int) := by omega
        obtain ⟨b, hb⟩ : ∃ b, inB y 2305843009213693952 = b := ⟨_, rfl⟩
        have hbP : Hid (b = true ↔ inV (l.getD k 0)) := Lib.hid (by rw [← hb, inB_V, ← ey.out]; simp)
        have HI : Hid (∀ w, Calls Try.prog 31 #[.int .i64 y, .int .i64 2305843009213693952] w fun e w' => e = .returned (.bool b) ∧ w = w') := Lib.hid fun w => by have := refIn_any y 2305843009213693952 w (by decide) (by decide); rwa [hb] at this
        clear hb
        cases b
        · have Z : Hid (r = false) := Lib.hid (by
            rw [Bool.eq_false_iff]; intro h
            have h1 := (R.out.1 h).2 (l.getD k 0) (by
              rw [List.getD_eq_getElem?_getD, List.getElem?_eq_getElem (by rw [hll.out]; exact hlt)]
              exact List.getElem_mem _)
            cases hbP.out.2 h1)
          go_wp2_with fail
          refine (HI.out _).mono ?_
          rintro e w2 ⟨rfl, rfl⟩
          go_wp2_with fail
          go_ret
          exact ⟨bool_of Z.out.symm, rfl⟩
        · have hJ2 : Hid (∀ j, j < k + 1 → inV (l.getD j 0)) := Lib.hid fun j hj => by
            by_cases h : j < k
            · exact hJ.out j h
            · obtain rfl : j = k := by omega
              exact hbP.out.1 rfl
          go_wp2_with fail
          refine (HI.out _).mono ?_
          rintro e w2 ⟨rfl, rfl⟩
          go_wp2_with fail
          go_round
          case rel => exact ⟨k + 1, by omega, by go_num, hJ2⟩
          case measure => simp [intOf]; omega
      · obtain rfl : k = n := by omega
        have Z : Hid (r = true) := Lib.hid (R.out.2 ⟨by rw [hll.out], fun x hx => by
          obtain ⟨j, hj, rfl⟩ := List.mem_iff_getElem.1 hx
          have := hJ.out j (by rw [← hll.out]; exact hj)
          rwa [List.getD_eq_getElem?_getD, List.getElem?_eq_getElem hj] at this⟩)
        go_wp2_with fail
        go_ret
        exact ⟨bool_of Z.out.symm, rfl⟩
  · have Z : Hid (r = false) := Lib.hid (by
      rw [Bool.eq_false_iff]; intro h
      have := (R.out.1 h).1
      rw [hll.out] at this
      exact hx this)
    have k0 : ((n : Int) != x) = true := by simpa using hx
    clear hx
    go_enter Try.func26, Try.ntmps26
    go_wp2_with fail
    go_ret
    exact ⟨bool_of Z.out.symm, rfl⟩
end Go.Proofs.Ytbgbchbnidejhaa
