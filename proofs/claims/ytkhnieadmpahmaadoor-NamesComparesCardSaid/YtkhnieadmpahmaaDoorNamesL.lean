/- Layer 6: few and lives of the statements. -/
import Derived.Test.YtkhnieadmpahmaaDoorNamesJ
import Derived.Test.YtkhnieadmpahmaaDoorNamesD
import Derived.Test.YtkhnieadmpahmaaDoorInts
namespace Go.Proofs.YtkhnieadmpahmaaDoor
open Go.RowKit

/-- few: the first texts, at most 6. -/
theorem fewT_any {A : Option Addr} {n c B : Nat} {L : List Txt} {w : World} (hr : HasT w B A n c L) :
    Calls Tryd.prog 9 #[.slice A n c] w fun e w' => (∃ n' : Nat, e = .returned (.slice A n' c) ∧ HasT w B A n' c (L.take 6) ∧ n' ≤ 6) ∧ w = w' := by
  have hn := hr.lenMax
  have hcm := hr.capMax
  have hcap := hr.cap
  by_cases h : 6 < n
  · have H := Lib.hid (hr.take_ 6 (by omega))
    have h1 : (6 : Int) < (n : Int) := by omega
    have h2 : (6 : Int) ≤ (c : Int) := by omega
    go_enter Tryd.func9, Tryd.ntmps9
    go_wp2
    go_ret
    exact ⟨⟨6, rfl, H.out, Nat.le_refl _⟩, rfl⟩
  · have H : Hid (HasT w B A n c (L.take 6)) := Lib.hid (by rw [List.take_of_length_le (by have := hr.len; omega)]; exact hr)
    have h1 : ¬ (6 : Int) < (n : Int) := by omega
    go_enter Tryd.func9, Tryd.ntmps9
    go_wp2
    go_ret
    exact ⟨⟨n, rfl, H.out, by omega⟩, rfl⟩
theorem HasT.litAt (w : World) (l : List Txt) (C : Array Value) (hC : C = (l.map strV).toArray) (e : TypeId) (n : Nat) (hn : n = l.length) (hl : n ≤ 1000000) (g : Nat) (hg : g = w.heap.size) :
    HasT (w.alloc (.cells C e)) (w.alloc (.cells C e)).heap.size (some ⟨g, 0, none⟩) n n l := by
  subst hC hn hg
  exact ⟨rfl, Nat.le_refl _, by unfold maxLen; omega, (fun h => by cases h), fun _ => ⟨w.heap.size, 0, rfl, by simp, fun j u hu => by
    rw [Nat.zero_add, cell_new]
    simpa using hu⟩⟩

theorem may_ab : mayP [[97], [98, 45, 49]] := by decide
theorem text_ab {A : Option Addr} {n c : Nat} {w : World} (h : HasT w w.heap.size A n c [[97], [98, 45, 49]]) :
    Calls Tryd.prog 10 #[.slice A n c] w fun e w' => e = .returned (.tuple #[.string ⟨#[97, 47, 98, 45, 49]⟩, .int .i64 0]) ∧ Below w.heap.size w w' := text_yes h may_ab
theorem path_aab (w : World) : Calls Tryd.prog 17 #[.string ⟨#[97, 47, 47, 98]⟩] w fun e w' => e = .returned (.tuple #[.slice none 0 0, .int .i64 10]) ∧ Below w.heap.size w w' := by
  have h := path_any [97, 47, 47, 98] w (by decide)
  have e : pathP [97, 47, 47, 98] = none := by decide +kernel
  rw [e] at h
  exact h.mono fun _ _ h => h.no
theorem path_star (w : World) : Calls Tryd.prog 17 #[.string ⟨#[42]⟩] w fun e w' => (∃ B d, e = .returned (.tuple #[.slice B 0 d, .int .i64 0])) ∧ Below w.heap.size w w' := by
  have h := path_any [42] w (by decide)
  have e : pathP [42] = some [] := by decide +kernel
  rw [e] at h
  refine h.mono fun _ _ h => ?_
  obtain ⟨B, j, d, rfl, hv, hb⟩ := h.yes
  obtain rfl : j = 0 := by simpa using hv.len.symm
  exact ⟨⟨B, d, rfl⟩, hb⟩
theorem cmp_ab {A A' : Option Addr} {n c n' c' B B' : Nat} {w : World} (hr : HasT w B A n c [[97]]) (hr' : HasT w B' A' n' c' [[97], [98]]) :
    Calls Tryd.prog 22 #[.slice A n c, .slice A' n' c'] w fun e w' => e = .returned (.int .i64 (-1)) ∧ w = w' := by
  have h := cmpT_any hr hr'
  have e : cmpP [[97]] [[97], [98]] = -1 := by decide +kernel
  rwa [e] at h
theorem under_ab {A A' : Option Addr} {n c n' c' : Nat} {w : World} (hr : HasT w w.heap.size A n c [[97], [98]]) (hr' : HasT w w.heap.size A' n' c' [[97]]) :
    Calls Tryd.prog 24 #[.slice A n c, .slice A' n' c'] w fun e w' => e = .returned (.bool true) ∧ ∃ k, w' = w.drewN k := by
  have h := under_any hr hr'
  have e : decide (underP [[97], [98]] [[97]]) = true := by decide +kernel
  rwa [e] at h
theorem name_A (w : World) : Calls Tryd.prog 12 #[.string ⟨#[65]⟩] w fun e w' => e = .returned (.bool false) ∧ Below w.heap.size w w' := name_no (x := [65]) (by decide) w

set_option maxRecDepth 100000 in
set_option maxHeartbeats 2000000 in
/-- lives: the document's examples hold. -/
theorem namesLives_any (w : World) : Calls Tryd.prog 16 #[] w fun e w' => e = .returned (.bool true) ∧ Below w.heap.size w w' := by
  have H1 := Lib.hid (HasT.litAt w [[97], [98, 45, 49]] #[.string ⟨#[97]⟩, .string ⟨#[98, 45, 49]⟩] rfl 9 2 rfl (by decide) _ rfl)
  have HB := below_a1 w (.cells #[.string ⟨#[97]⟩, .string ⟨#[98, 45, 49]⟩] 9)
  go_enter Tryd.func16, Tryd.ntmps16
  go_wp2_with fail
  refine (text_ab H1.out).mono ?_
  rintro e v ⟨rfl, hb1⟩
  have HB := below_then HB hb1
  clear H1 hb1
  go_wp2_with fail
  refine (path_aab v).mono ?_
  rintro e v2 ⟨rfl, hb1⟩
  have HB := below_then HB hb1
  clear hb1
  go_wp2_with fail
  refine (path_star v2).mono ?_
  rintro e v3 ⟨⟨B, d, rfl⟩, hb1⟩
  have HB := below_then HB hb1
  clear hb1
  have H1 := HasT.litAt v3 [[97]] #[.string ⟨#[97]⟩] rfl 9 1 rfl (by decide) _ rfl
  have H2 := HasT.litAt (v3.alloc (.cells #[.string ⟨#[97]⟩] 9)) [[97], [98]] #[.string ⟨#[97]⟩, .string ⟨#[98]⟩] rfl 9 2 rfl (by decide) (v3.heap.size + 1) (by simp)
  have HC := Lib.hid (cmp_ab (H1.allocS _) H2)
  have HB := below_then HB (below_a2 v3 (.cells #[.string ⟨#[97]⟩] 9) (.cells #[.string ⟨#[97]⟩, .string ⟨#[98]⟩] 9))
  clear H1 H2
  go_wp2_with fail
  refine HC.out.mono ?_
  rintro e v4 ⟨rfl, hw⟩
  rw [hw] at HB
  clear HC hw
  have H1 := HasT.litAt v4 [[97], [98]] #[.string ⟨#[97]⟩, .string ⟨#[98]⟩] rfl 9 2 rfl (by decide) _ rfl
  have H2 := HasT.litAt (v4.alloc (.cells #[.string ⟨#[97]⟩, .string ⟨#[98]⟩] 9)) [[97]] #[.string ⟨#[97]⟩] rfl 9 1 rfl (by decide) (v4.heap.size + 1) (by simp)
  have HC := Lib.hid (under_ab (H1.allocS _) H2)
  clear H1 H2
  go_wp2_with fail
  refine HC.out.mono ?_
  rintro e v5 ⟨rfl, k, hw⟩
  have HB : Below w.heap.size w v5 := below_then HB (by rw [hw]; exact below_drewN (below_a2 v4 _ _) k)
  clear HC hw
  go_wp2_with fail
  refine (name_A v5).mono ?_
  rintro e v6 ⟨rfl, hb1⟩
  have HB := below_then HB hb1
  clear hb1
  go_wp2_with fail
  go_ret
  exact ⟨rfl, HB⟩
end Go.Proofs.YtkhnieadmpahmaaDoor
