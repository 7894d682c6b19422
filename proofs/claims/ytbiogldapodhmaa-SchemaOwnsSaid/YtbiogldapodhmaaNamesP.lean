/- Layer 6: May, the program's and the reference's; the reference's Name. -/
import Derived.Test.YtbiogldapodhmaaNamesQ
namespace Go.Proofs.Ytbiogldapodhmaa
open Go.RowKit

theorem name_yes {x : Txt} (h : nameP x) (w : World) : Calls Try.prog 36 #[.string ⟨x.toArray⟩] w fun e w' => e = .returned (.bool true) ∧ Below w.heap.size w w' := by
  have := name_any x w
  rwa [decide_eq_true h] at this
theorem name_no {x : Txt} (h : ¬ nameP x) (w : World) : Calls Try.prog 36 #[.string ⟨x.toArray⟩] w fun e w' => e = .returned (.bool false) ∧ Below w.heap.size w w' := by
  have := name_any x w
  rwa [decide_eq_false h] at this
theorem mayP_step {L : List Txt} {k : Nat} {x : Txt} (hk : k < L.length) (hx : x = L.getD k []) (h : nameP x) (ht : ∀ s ∈ L.take k, nameP s) : ∀ s ∈ L.take (k + 1), nameP s := by
  rw [List.take_succ_eq_append_getElem hk]
  intro s hs
  rcases List.mem_append.1 hs with hs | hs
  · exact ht s hs
  · rw [List.mem_singleton.1 hs]
    simpa [hx, List.getD_eq_getElem?_getD, List.getElem?_eq_getElem hk] using h
theorem mayP_not {L : List Txt} {k : Nat} {x : Txt} (hk : k < L.length) (hx : x = L.getD k []) (h : ¬ nameP x) : decide (mayP L) = false := by
  rw [decide_eq_false_iff_not]
  intro hm
  refine h (hm.2 x ?_)
  rw [hx, List.getD_eq_getElem?_getD, List.getElem?_eq_getElem hk]
  exact List.getElem_mem hk
theorem mayP_all {L : List Txt} {k : Nat} (hk : L.length ≤ k) (h3 : L.length ≤ 3) (ht : ∀ s ∈ L.take k, nameP s) : decide (mayP L) = true := by
  rw [decide_eq_true_eq]
  rw [List.take_of_length_le hk] at ht
  exact ⟨h3, ht⟩
theorem mayP_long {L : List Txt} (h3 : 3 < L.length) : decide (mayP L) = false := by
  rw [decide_eq_false_iff_not]
  intro h
  have := h.1
  omega

/-! ### The reference's -/
theorem isLet_eq (b : UInt8) : isLet b = decide (97 ≤ (b.toNat : Int) ∧ (b.toNat : Int) ≤ 122 ∨ 48 ≤ (b.toNat : Int) ∧ (b.toNat : Int) ≤ 57 ∨ (b.toNat : Int) = 45 ∨ (b.toNat : Int) = 95) := (standB_let b).symm

set_option maxRecDepth 100000 in
set_option maxHeartbeats 1000000 in
/-- The reference's Name. -/
theorem refNameS_any (s : ByteArray) (w : World) : Calls Try.prog 40 #[.string s] w fun e w' => e = .returned (.bool (decide (nameP s.data.toList))) ∧ w = w' := by
  have hl : s.data.toList.length = s.size := by simp
  by_cases h0 : s.size = 0
  · have H : Hid (decide (nameP s.data.toList) = false) := Lib.hid (by rw [decide_eq_false_iff_not]; intro h; have := h.1; omega)
    have h1 : (s.size : Int) < 1 := by omega
    clear h0 hl
    go_enter Try.func40, Try.ntmps40
    go_wp2
    go_ret
    exact ⟨bool_of H.out.symm, rfl⟩
  · have h1 : ¬ (s.size : Int) < 1 := by omega
    by_cases h12 : 12 < s.size
    · have H : Hid (decide (nameP s.data.toList) = false) := Lib.hid (by rw [decide_eq_false_iff_not]; intro h; have := h.2.1; omega)
      have h2 : (12 : Int) < (s.size : Int) := by omega
      clear h0 hl
      go_enter Try.func40, Try.ntmps40
      go_wp2
      go_ret
      exact ⟨bool_of H.out.symm, rfl⟩
    · have h2 : ¬ (12 : Int) < (s.size : Int) := by omega
      clear hl
      go_enter Try.func40, Try.ntmps40
      go_wp2
      go_loop [3] (fun i => ∃ k : Nat, k ≤ s.size ∧ i = .int .i64 k ∧ Hid (∀ b ∈ s.data.toList.take k, isLet b = true)) (fun i => s.size - (intOf i).toNat)
      case atStart => exact ⟨0, Nat.zero_le _, rfl, Lib.hid (by simp)⟩
      case round =>
        obtain ⟨k, hk, rfl, ht⟩ := hrel
        by_cases hp : k < s.size
        · obtain ⟨x, hx⟩ : ∃ x : Nat, s[k].toNat = x := ⟨_, rfl⟩
          have hq := Lib.hid hx
          by_cases hyes : 97 ≤ (x : Int) ∧ (x : Int) ≤ 122 ∨ 48 ≤ (x : Int) ∧ (x : Int) ≤ 57 ∨ (x : Int) = 45 ∨ (x : Int) = 95
          · have hb : isLet (s[k]'hp) = true := by rw [isLet_eq, hx, decide_eq_true hyes]
            have H := Lib.hid (nameP_step hp ht.out hb)
            clear hb
            rcases hyes with ⟨g1, g2⟩ | ⟨g1, g2⟩ | g1 | g1
            · go_wp2
              go_round
              case rel => exact ⟨k + 1, by omega, by go_num, H⟩
              case measure => simp [intOf]; omega
            · have g3 : ¬ 97 ≤ (x : Int) := by omega
              go_wp2
              go_round
              case rel => exact ⟨k + 1, by omega, by go_num, H⟩
              case measure => simp [intOf]; omega
            · obtain rfl : x = 45 := by omega
              clear g1
              go_wp2
              go_round
              case rel => exact ⟨k + 1, by omega, by go_num, H⟩
              case measure => simp [intOf]; omega
            · obtain rfl : x = 95 := by omega
              clear g1
              go_wp2
              go_round
              case rel => exact ⟨k + 1, by omega, by go_num, H⟩
              case measure => simp [intOf]; omega
          · have hb : isLet (s[k]'hp) = false := by rw [isLet_eq, hx, decide_eq_false hyes]
            have H := Lib.hid (nameP_not hp hb)
            have g7 : ((x : Int) != 45) = true := by simp; omega
            have g8 : ((x : Int) != 95) = true := by simp; omega
            clear hb
            by_cases g1 : 97 ≤ (x : Int)
            · have g2 : ¬ (x : Int) ≤ 122 := by omega
              have g3 : 48 ≤ (x : Int) := by omega
              have g4 : ¬ (x : Int) ≤ 57 := by omega
              clear hyes
              go_wp2
              go_ret
              exact ⟨bool_of H.out.symm, rfl⟩
            · by_cases g3 : 48 ≤ (x : Int)
              · have g4 : ¬ (x : Int) ≤ 57 := by omega
                clear hyes
                go_wp2
                go_ret
                exact ⟨bool_of H.out.symm, rfl⟩
              · clear hyes
                go_wp2
                go_ret
                exact ⟨bool_of H.out.symm, rfl⟩
        · have H := Lib.hid (nameP_all hp (by omega) (by omega) ht.out)
          go_wp2
          go_ret
          exact ⟨bool_of H.out.symm, rfl⟩
theorem refName_any (x : Txt) (w : World) : Calls Try.prog 40 #[.string ⟨x.toArray⟩] w fun e w' => e = .returned (.bool (decide (nameP x))) ∧ w = w' := by
  have := refNameS_any ⟨x.toArray⟩ w
  simpa using this
theorem refName_yes {x : Txt} (h : nameP x) (w : World) : Calls Try.prog 40 #[.string ⟨x.toArray⟩] w fun e w' => e = .returned (.bool true) ∧ w = w' := by
  have := refName_any x w
  rwa [decide_eq_true h] at this
theorem refName_no {x : Txt} (h : ¬ nameP x) (w : World) : Calls Try.prog 40 #[.string ⟨x.toArray⟩] w fun e w' => e = .returned (.bool false) ∧ w = w' := by
  have := refName_any x w
  rwa [decide_eq_false h] at this

end Go.Proofs.Ytbiogldapodhmaa
