/- Layer 6, the program: a letter, a name, a path. -/
import Derived.Test.YtbiogldapodhmaaRows
import Derived.Test.YtbiogldapodhmaaTexts
import Derived.Laws.RangeAny
import Derived.WalkLawsBesides
namespace Go.Proofs.Ytbiogldapodhmaa
open Go.RowKit

def standB (r : Int) : Bool := decide (97 ≤ r ∧ r ≤ 122 ∨ 48 ≤ r ∧ r ≤ 57 ∨ r = 45 ∨ r = 95)
/-- mayStand. -/
theorem stand_any (r : Int) (w : World) : Calls Try.prog 41 #[.int .i32 r] w fun e w' => e = .returned (.bool (standB r)) ∧ w = w' := by
  by_cases h1 : 97 ≤ r ∧ r ≤ 122
  · obtain ⟨h2, h3⟩ := h1
    have H : Hid (standB r = true) := Lib.hid (by unfold standB; simp; omega)
    go_enter Try.func41, Try.ntmps41
    go_wp2
    go_ret
    exact ⟨bool_of H.out.symm, rfl⟩
  · by_cases h4 : 48 ≤ r ∧ r ≤ 57
    · obtain ⟨h2, h3⟩ := h4
      have h5 : ¬ 97 ≤ r := by omega
      have H : Hid (standB r = true) := Lib.hid (by unfold standB; simp; omega)
      clear h1
      go_enter Try.func41, Try.ntmps41
      go_wp2
      go_ret
      exact ⟨bool_of H.out.symm, rfl⟩
    · by_cases h5 : r = 45
      · subst h5
        clear h1 h4
        go_enter Try.func41, Try.ntmps41
        go_wp2
        go_ret
        exact ⟨rfl, rfl⟩
      · by_cases h6 : r = 95
        · subst h6
          clear h1 h4 h5
          go_enter Try.func41, Try.ntmps41
          go_wp2
          go_ret
          exact ⟨rfl, rfl⟩
        · have H : Hid (standB r = false) := Lib.hid (by unfold standB; simp; omega)
          have h7 : (r == 45) = false := by simp; omega
          have h8 : (r == 95) = false := by simp; omega
          clear h5 h6
          by_cases g1 : 97 ≤ r
          · have g2 : ¬ r ≤ 122 := by omega
            have g3 : 48 ≤ r := by omega
            have g4 : ¬ r ≤ 57 := by omega
            clear h1 h4
            go_enter Try.func41, Try.ntmps41
            go_wp2
            go_ret
            exact ⟨bool_of H.out.symm, rfl⟩
          · by_cases g3 : 48 ≤ r
            · have g4 : ¬ r ≤ 57 := by omega
              clear h1 h4
              go_enter Try.func41, Try.ntmps41
              go_wp2
              go_ret
              exact ⟨bool_of H.out.symm, rfl⟩
            · clear h1 h4
              go_enter Try.func41, Try.ntmps41
              go_wp2
              go_ret
              exact ⟨bool_of H.out.symm, rfl⟩
theorem standB_let (b : UInt8) : standB (b.toNat : Int) = isLet b := by
  unfold standB isLet
  rw [Bool.eq_iff_iff]
  simp only [decide_eq_true_eq, Bool.or_eq_true, Bool.and_eq_true, beq_iff_eq, UInt8.le_iff_toNat_le, ← UInt8.toNat_inj]
  have : (97 : UInt8).toNat = 97 := rfl
  have : (122 : UInt8).toNat = 122 := rfl
  have : (48 : UInt8).toNat = 48 := rfl
  have : (57 : UInt8).toNat = 57 := rfl
  have : (45 : UInt8).toNat = 45 := rfl
  have : (95 : UInt8).toNat = 95 := rfl
  omega
theorem isLet_low {b : UInt8} (h : isLet b = true) : b.toNat < 128 := by
  rw [← standB_let] at h
  unfold standB at h
  simp at h
  omega
theorem standB_high {r : Nat} (h : 128 ≤ r) : standB (r : Int) = false := by
  unfold standB
  simp
  omega
theorem getElem_data (s : ByteArray) {p : Nat} (h : p < s.size) : s.data.toList[p]'(by simpa using h) = s[p]'h := by simp [ByteArray.getElem_eq_getElem_data]
theorem nameP_step {s : ByteArray} {p : Nat} (h : p < s.size) (ht : ∀ b ∈ s.data.toList.take p, isLet b = true) (hb : isLet (s[p]'h) = true) : ∀ b ∈ s.data.toList.take (p + 1), isLet b = true := by
  rw [List.take_succ_eq_append_getElem (by simpa using h), getElem_data s h]
  intro b hm
  rcases List.mem_append.1 hm with hm | hm
  · exact ht b hm
  · rw [List.mem_singleton.1 hm]; exact hb
theorem nameP_not {s : ByteArray} {p : Nat} (h : p < s.size) (hb : isLet (s[p]'h) = false) : decide (nameP s.data.toList) = false := by
  rw [decide_eq_false_iff_not]
  intro hn
  have := hn.2.2 (s[p]'h) (by rw [← getElem_data s h]; exact List.getElem_mem _)
  rw [hb] at this
  cases this
theorem nameP_all {s : ByteArray} {p : Nat} (h : ¬ p < s.size) (h1 : 1 ≤ s.size) (h2 : s.size ≤ 12) (ht : ∀ b ∈ s.data.toList.take p, isLet b = true) : decide (nameP s.data.toList) = true := by
  rw [decide_eq_true_eq]
  have hl : s.data.toList.length = s.size := by simp
  refine ⟨by omega, by omega, ?_⟩
  rwa [List.take_of_length_le (by omega)] at ht

theorem below_iter (w : World) (s : ByteArray) (pos : Nat) : Below w.heap.size w (w.iter s pos) := (Below.refl _ _).alloc (Nat.le_refl _) _

set_option maxRecDepth 100000 in
set_option maxHeartbeats 1000000 in
/-- Name. -/
theorem nameS_any (s : ByteArray) (w : World) : Calls Try.prog 36 #[.string s] w fun e w' => e = .returned (.bool (decide (nameP s.data.toList))) ∧ Below w.heap.size w w' := by
  have hl : s.data.toList.length = s.size := by simp
  by_cases h0 : s.size = 0
  · have H : Hid (decide (nameP s.data.toList) = false) := Lib.hid (by rw [decide_eq_false_iff_not]; intro h; have := h.1; omega)
    have hs : s.toList.isEmpty = true := by rw [ByteArray.toList_eq, List.isEmpty_iff]; exact List.eq_nil_of_length_eq_zero (by omega)
    have hs2 : s.toList = [] := List.isEmpty_iff.1 hs
    clear h0 hl
    go_enter Try.func36, Try.ntmps36
    go_wp2
    go_ret
    exact ⟨bool_of H.out.symm, Below.refl _ _⟩
  · have hs : s.toList.isEmpty = false := by rw [ByteArray.toList_eq, List.isEmpty_eq_false_iff]; intro e; rw [e] at hl; simp at hl; omega
    have hs2 : (s.toList == []) = false := by rw [beq_eq_false_iff_ne]; intro e; rw [e] at hs; cases hs
    by_cases h12 : 12 < s.size
    · have H : Hid (decide (nameP s.data.toList) = false) := Lib.hid (by rw [decide_eq_false_iff_not]; intro h; have := h.2.1; omega)
      clear h0 hl
      go_enter Try.func36, Try.ntmps36
      go_wp2
      go_ret
      exact ⟨bool_of H.out.symm, Below.refl _ _⟩
    · clear hl
      go_enter Try.func36, Try.ntmps36
      go_wp2
      go_loopw [4] (fun _ wr => ∃ pos : Nat, wr = w.iter s pos ∧ Hid (∀ b ∈ s.data.toList.take pos, isLet b = true)) (fun _ wr => s.size - wr.iterPos w.heap.size)
      case atStart => exact ⟨0, rfl, Lib.hid (by simp)⟩
      case round =>
        obtain ⟨pos, rfl, ht⟩ := hrel
        have HB : Below w.heap.size w (w.iter s pos) := below_iter w s pos
        by_cases hp : pos < s.size
        · by_cases ha : (s[pos]'hp).toNat < 128
          · have hnx : ∀ ty, (Instr.next (.pointer (some ⟨w.heap.size, 0, none⟩)) true ty).run Try.prog (w.iter s pos) = _ := fun ty => run_next_ascii w s pos ty hp ha
            cases hb : isLet (s[pos]'hp) with
            | true =>
              have H := Lib.hid (nameP_step hp ht.out hb)
              have hst : standB ((s[pos]'hp).toNat : Int) = true := (standB_let _).trans hb
              clear hb
              go_wp2_with (go_at_call 41; refine (stand_any _ _).mono ?_; rintro e w' ⟨rfl, rfl⟩)
              go_roundw
              case rel => exact ⟨pos + 1, rfl, H⟩
              case measure => simp; omega
            | false =>
              have H := Lib.hid (nameP_not hp hb)
              have hst : standB ((s[pos]'hp).toNat : Int) = false := (standB_let _).trans hb
              clear hb
              go_wp2_with (go_at_call 41; refine (stand_any _ _).mono ?_; rintro e w' ⟨rfl, rfl⟩)
              go_ret
              exact ⟨bool_of H.out.symm, below_iter w s (pos + 1)⟩
          · have hnx : ∀ ty, (Instr.next (.pointer (some ⟨w.heap.size, 0, none⟩)) true ty).run Try.prog (w.iter s pos) = _ := fun ty => run_next_any w s pos ty hp
            have hb : isLet (s[pos]'hp) = false := by
              cases hb : isLet (s[pos]'hp) with
              | true => exact absurd (isLet_low hb) ha
              | false => rfl
            have H := Lib.hid (nameP_not hp hb)
            have hd := (decode_high s pos hp (by omega)).1
            have hst : standB ((Utf8.decode s pos).1 : Int) = false := standB_high hd
            clear hb
            go_wp2_with (go_at_call 41; refine (stand_any _ _).mono ?_; rintro e w' ⟨rfl, rfl⟩)
            go_ret
            exact ⟨bool_of H.out.symm, below_iter w s _⟩
        · have hnx : ∀ ty, (Instr.next (.pointer (some ⟨w.heap.size, 0, none⟩)) true ty).run Try.prog (w.iter s pos) = _ := fun ty => run_next_end w s pos ty hp
          have H := Lib.hid (nameP_all hp (by omega) (by omega) ht.out)
          go_wp2
          go_ret
          exact ⟨bool_of H.out.symm, HB⟩
theorem name_any (x : Txt) (w : World) : Calls Try.prog 36 #[.string ⟨x.toArray⟩] w fun e w' => e = .returned (.bool (decide (nameP x))) ∧ Below w.heap.size w w' := by
  have := nameS_any ⟨x.toArray⟩ w
  simpa using this
end Go.Proofs.Ytbiogldapodhmaa
