/- Layer 3's statements: are frames the same? -/
import Derived.Test.YtpegmingmcedmaaFrameRow
import Derived.Test.YtpegmingmcedmaaSame
namespace Go.Proofs.Ytpegmingmcedmaa
open Go.RowKit

theorem frs_take {fs gs : List Fr} {k : Nat} (h : fs.take k = gs.take k) (hk : k < fs.length) (hk' : k < gs.length) (e1 : (fs.getD k (0, [])).1 = (gs.getD k (0, [])).1) (e2 : (fs.getD k (0, [])).2 = (gs.getD k (0, [])).2) : fs.take (k + 1) = gs.take (k + 1) := by
  rw [List.take_succ_eq_append_getElem hk, List.take_succ_eq_append_getElem hk', h]
  simp only [List.getD_eq_getElem?_getD, List.getElem?_eq_getElem hk, List.getElem?_eq_getElem hk', Option.getD_some] at e1 e2
  rw [show fs[k] = gs[k] from Prod.ext e1 e2]
theorem frs_ne {fs gs : List Fr} {k : Nat} (h : (fs.getD k (0, [])).1 ≠ (gs.getD k (0, [])).1 ∨ (fs.getD k (0, [])).2 ≠ (gs.getD k (0, [])).2) : decide (fs = gs) = false := by
  rw [decide_eq_false_iff_not]
  rintro rfl
  rcases h with h | h <;> exact h rfl

set_option maxRecDepth 100000 in
set_option maxHeartbeats 2000000 in
theorem frSame_any (A A' : Option Addr) (n c n' c' : Nat) (fs gs : List Fr) (w : World) (hr : FrRead w A n c fs) (hr' : FrRead w A' n' c' gs) :
    Calls Try.prog 16 #[.slice A n c, .slice A' n' c'] w fun e w' => e = .returned (.bool (decide (fs = gs))) ∧ ∃ k, w' = w.drewN k := by
  have hn : n ≤ 9223372036854775807 := by have h1 := hr.cap; have h2 := hr.fit; unfold maxLen at h2; omega
  have hll := Lib.hid hr.len
  have hll' := Lib.hid hr'.len
  by_cases h : n = n'
  · subst h
    have hne : ((n : Int) != (n : Int)) = false := by simp
    go_enter Try.func16, Try.ntmps16
    go_wp2
    clear hne
    go_loopw [5] (fun i wr => ∃ k q : Nat, k ≤ n ∧ i = .int .i64 k ∧ wr = w.drewN q ∧ Hid (fs.take k = gs.take k)) (fun i _ => n - (intOf i).toNat)
    case atStart => exact ⟨0, 0, Nat.zero_le _, rfl, rfl, rfl⟩
    case round =>
      obtain ⟨k, q, hk, rfl, rfl, ht⟩ := hrel
      by_cases hlt : k < n
      · obtain ⟨b, o, B1, m1, d1, rfl, hb, hc0, hc1, hh⟩ := hr.has k hlt
        obtain ⟨b', o', B2, m2, d2, rfl, hb', hc0', hc1', hh'⟩ := hr'.has k hlt
        obtain ⟨x, hx⟩ : ∃ x, Hid ((fs.getD k (0, [])).1 = x) := ⟨_, Lib.hid rfl⟩
        obtain ⟨y, hy⟩ : ∃ y, Hid ((gs.getD k (0, [])).1 = y) := ⟨_, Lib.hid rfl⟩
        obtain ⟨s, hs⟩ : ∃ s, Hid (((fs.getD k (0, [])).2 == (gs.getD k (0, [])).2) = s) := ⟨_, Lib.hid rfl⟩
        rw [hx.out] at hc0
        rw [hy.out] at hc0'
        have i0 : (0 : Int) ≤ (k : Int) := by omega
        have i1 : (k : Int) < (n : Int) := by omega
        have hsm : ∀ j, Calls Try.prog 12 #[.slice B1 m1 d1, .slice B2 m2 d2] (w.drewN (q + j)) fun e w' => e = .returned (.bool s) ∧ ∃ m, w' = w.drewN (q + m) := fun j => by
          have h1 := same_any B1 B2 m1 d1 m2 d2 _ _ (w.drewN (q + j)) _ _ (hh.drewN (q + j)) (hh'.drewN (q + j))
          rw [hs.out] at h1
          refine h1.mono ?_
          rintro e w' ⟨he, m, hm⟩
          exact ⟨he, j + m, by rw [hm, World.drewN_drewN, Nat.add_assoc]⟩
        go_wp2_with fail
        go_quiet ((go_at_call 12; exact hsm _))
        clear hsm
        go_wp2_with fail
        by_cases hxy : x = y
        · subst hxy
          have hxn : ((x : Int) != (x : Int)) = false := by simp
          cases s
          · have hF : Hid (decide (fs = gs) = false) := Lib.hid (frs_ne (k := k) (.inr (by have := hs.out; simpa using this)))
            go_quiet (fail)
            go_wp2_with fail
            go_ret
            exact ⟨bool_of (by rw [hF.out]), _, by first | rfl | rw [World.drewN_drewN, World.drewN_drewN] | rw [World.drewN_drewN]⟩
          · have hF : Hid (fs.take (k + 1) = gs.take (k + 1)) := Lib.hid (frs_take ht.out (by have := hll.out; omega) (by have := hll'.out; omega) (hx.out.trans hy.out.symm) (by have := hs.out; simpa using this))
            go_quiet (fail)
            go_wp2_with fail
            go_roundw
            case rel => exact ⟨k + 1, _, by omega, by go_num, by first | rfl | rw [World.drewN_drewN, World.drewN_drewN] | rw [World.drewN_drewN], hF⟩
            case measure => simp [intOf]; omega
        · have hxn : ((x : Int) != (y : Int)) = true := by simp; omega
          have hF : Hid (decide (fs = gs) = false) := Lib.hid (frs_ne (k := k) (.inl (by rw [hx.out, hy.out]; exact hxy)))
          go_quiet (fail)
          go_wp2_with fail
          go_ret
          exact ⟨bool_of (by rw [hF.out]), _, by first | rfl | rw [World.drewN_drewN, World.drewN_drewN] | rw [World.drewN_drewN]⟩
      · have hkn : k = n := by omega
        have hF : Hid (decide (fs = gs) = true) := Lib.hid (by
          have h1 := ht.out
          rw [List.take_of_length_le (by have := hll.out; omega), List.take_of_length_le (by have := hll'.out; omega)] at h1
          simp [h1])
        go_wp2_with fail
        go_ret
        exact ⟨bool_of (by rw [hF.out]), q, rfl⟩
  · have H : Hid (decide (fs = gs) = false) := Lib.hid (by
      rw [decide_eq_false_iff_not]
      rintro rfl
      have := hll.out; have := hll'.out; omega)
    have hne : ((n : Int) != (n' : Int)) = true := by simp; omega
    go_enter Try.func16, Try.ntmps16
    go_wp2
    go_ret
    exact ⟨bool_of (by rw [H.out]), 0, rfl⟩
end Go.Proofs.Ytpegmingmcedmaa
