/- NamesC, CellQ -/
import Derived.Test.YtmepdkdeanbbaaaGreatJ13
import Derived.Test.YtmepdkdeanbbaaaGreatJ16
import Derived.BigQuiet
import Derived.Deep.QuietTactic
namespace Go.Proofs.YtmepdkdeanbbaaaGreat
set_option maxRecDepth 100000
open Go.RowKit

theorem takeT_same {L L' : List Txt} {k : Nat} {x : Txt} (hk : k < L.length) (hk' : k < L'.length) (h : L.take k = L'.take k) (e : x = L.getD k []) (e' : x = L'.getD k []) : L.take (k + 1) = L'.take (k + 1) := by
 rw [List.take_succ_eq_append_getElem hk, List.take_succ_eq_append_getElem hk', h]
 simp only [List.getD_eq_getElem?_getD, List.getElem?_eq_getElem hk, List.getElem?_eq_getElem hk', Option.getD_some] at e e'
 rw [← e, ← e']
end Go.Proofs.YtmepdkdeanbbaaaGreat
namespace Go.Proofs.YtmepdkdeanbbaaaGreat
set_option maxRecDepth 100000
open Go.RowKit

def leS (a b : Int) : Int := min a b
def grS (a b : Int) : Int := max a b
theorem lesser_any (a b : Int) (w : World) : Calls Tryz.prog 221 #[.int .i64 a, .int .i64 b] w fun e w' => e = .returned (.int .i64 (leS a b)) ∧ w = w' := by
 by_cases h : b < a
 ·have H := Lib.hid (show leS a b = b by unfold leS; omega)
  go_enter Tryz.func221, Tryz.ntmps221
  go_wp2
  go_ret
  exact ⟨i64_of H.out.symm, rfl⟩
 ·have H := Lib.hid (show leS a b = a by unfold leS; omega)
  go_enter Tryz.func221, Tryz.ntmps221
  go_wp2
  go_ret
  exact ⟨i64_of H.out.symm, rfl⟩
theorem greater_any (a b : Int) (w : World) : Calls Tryz.prog 222 #[.int .i64 a, .int .i64 b] w fun e w' => e = .returned (.int .i64 (grS a b)) ∧ w = w' := by
 by_cases h : a < b
 ·have H := Lib.hid (show grS a b = b by unfold grS; omega)
  go_enter Tryz.func222, Tryz.ntmps222
  go_wp2
  go_ret
  exact ⟨i64_of H.out.symm, rfl⟩
 ·have H := Lib.hid (show grS a b = a by unfold grS; omega)
  go_enter Tryz.func222, Tryz.ntmps222
  go_wp2
  go_ret
  exact ⟨i64_of H.out.symm, rfl⟩
def inB (n m : Int) : Bool := decide (-m ≤ n ∧ n ≤ m)
theorem within_any (n m : Int) (w : World) (h0 : 0 ≤ m) (h1 : m ≤ 9223372036854775807) : Calls Tryz.prog 254 #[.int .i64 n, .int .i64 m] w fun e w' => e = .returned (.bool (inB n m)) ∧ w = w' := by
 by_cases h : -m ≤ n
 ·by_cases h2 : n ≤ m
  ·have H := Lib.hid (show inB n m = true by unfold inB; simp [h, h2])
   go_enter Tryz.func254, Tryz.ntmps254
   go_wp2
   go_ret
   exact ⟨bool_of H.out.symm, rfl⟩
  ·have H := Lib.hid (show inB n m = false by unfold inB; simp [h2])
   go_enter Tryz.func254, Tryz.ntmps254
   go_wp2
   go_ret
   exact ⟨bool_of H.out.symm, rfl⟩
 ·have H := Lib.hid (show inB n m = false by unfold inB; simp [h])
  go_enter Tryz.func254, Tryz.ntmps254
  go_wp2
  go_ret
  exact ⟨bool_of H.out.symm, rfl⟩
theorem isValue_any (n : Int) (w : World) : Calls Tryz.prog 253 #[.int .i64 n] w fun e w' => e = .returned (.bool (inB n 2305843009213693952)) ∧ w = w' := by
 go_enter Tryz.func253, Tryz.ntmps253
 go_wp2_with fail
 refine (within_any n 2305843009213693952 w (by decide) (by decide)).mono ?_
 rintro e w' ⟨rfl, rfl⟩
 go_wp2_with fail
 go_ret
 exact ⟨rfl, rfl⟩
def mayB (n s lo hi : Int) : Bool := decide (cellMayP n s lo hi)
theorem inB_V (x : Int) : inB x 2305843009213693952 = decide (inV x) := rfl
theorem inB_S (x : Int) : inB x 4611686018427387904 = decide (inS x) := rfl
set_option maxRecDepth 100000 in
set_option maxHeartbeats 2000000 in
theorem mayBe_any (n s lo hi : Int) (w : World) : Calls Tryz.prog 244 #[.int .i64 n, .int .i64 s, .int .i64 lo, .int .i64 hi] w fun e w' => e = .returned (.bool (mayB n s lo hi)) ∧ w = w' := by
 obtain ⟨r, hr⟩ : ∃ r, mayB n s lo hi = r := ⟨_, rfl⟩
 have hr2 : r = true ↔ cellMayP n s lo hi := by rw [← hr]; unfold mayB; simp
 rw [hr]
 clear hr
 obtain ⟨b1, hb1⟩ : ∃ b, inB s 2305843009213693952 = b := ⟨_, rfl⟩
 obtain ⟨b2, hb2⟩ : ∃ b, inB lo 2305843009213693952 = b := ⟨_, rfl⟩
 obtain ⟨b3, hb3⟩ : ∃ b, inB hi 2305843009213693952 = b := ⟨_, rfl⟩
 obtain ⟨b4, hb4⟩ : ∃ b, inB s 4611686018427387904 = b := ⟨_, rfl⟩
 have k1 : b1 = true ↔ inV s := by rw [← hb1, inB_V]; simp
 have k2 : b2 = true ↔ inV lo := by rw [← hb2, inB_V]; simp
 have k3 : b3 = true ↔ inV hi := by rw [← hb3, inB_V]; simp
 have k4 : b4 = true ↔ inS s := by rw [← hb4, inB_S]; simp
 have K := Lib.hid (And.intro k1 (And.intro k2 (And.intro k3 k4)))
 have R := Lib.hid hr2
 have H1 := Lib.hid hb1
 have H2 := Lib.hid hb2
 have H3 := Lib.hid hb3
 have H4 := Lib.hid hb4
 clear hb1 hb2 hb3 hb4 k1 k2 k3 k4 hr2
 have i1 : ∀ w, Calls Tryz.prog 253 #[.int .i64 s] w fun e w' => e = .returned (.bool b1) ∧ w = w' := fun w => by have := isValue_any s w; rwa [H1.out] at this
 have i2 : ∀ w, Calls Tryz.prog 253 #[.int .i64 lo] w fun e w' => e = .returned (.bool b2) ∧ w = w' := fun w => by have := isValue_any lo w; rwa [H2.out] at this
 have i3 : ∀ w, Calls Tryz.prog 253 #[.int .i64 hi] w fun e w' => e = .returned (.bool b3) ∧ w = w' := fun w => by have := isValue_any hi w; rwa [H3.out] at this
 have i4 : ∀ w, Calls Tryz.prog 254 #[.int .i64 s, .int .i64 4611686018427387904] w fun e w' => e = .returned (.bool b4) ∧ w = w' := fun w => by have := within_any s 4611686018427387904 w (by decide) (by decide); rwa [H4.out] at this
 have I1 := Lib.hid i1
 have I2 := Lib.hid i2
 have I3 := Lib.hid i3
 have I4 := Lib.hid i4
 clear i1 i2 i3 i4 H1 H2 H3 H4
 by_cases h0 : n = 0
 ·subst h0
  by_cases h1 : s = 0 ∧ lo = 0 ∧ hi = 0
  ·obtain ⟨rfl, rfl, rfl⟩ := h1
   have Z : Hid (r = true) := Lib.hid (R.out.2 (.inl ⟨rfl, rfl, rfl, rfl⟩))
   go_enter Tryz.func244, Tryz.ntmps244
   go_wp2
   go_ret
   exact ⟨bool_of Z.out.symm, rfl⟩
  ·have Z : Hid (r = false) := Lib.hid (by
    rw [Bool.eq_false_iff]
    intro h
    rcases R.out.1 h with ⟨_, h2⟩ | ⟨h2, _⟩
    ·exact h1 h2
    ·exact h2 rfl)
   by_cases e1 : s = 0
   ·subst e1
    by_cases e2 : lo = 0
    ·subst e2
     have e3 : ((hi : Int) == 0) = false := by simp; intro h; exact h1 ⟨rfl, rfl, h⟩
     clear h1
     go_enter Tryz.func244, Tryz.ntmps244
     go_wp2
     go_ret
     exact ⟨bool_of Z.out.symm, rfl⟩
    ·have e3 : ((lo : Int) == 0) = false := by simpa using e2
     clear h1
     go_enter Tryz.func244, Tryz.ntmps244
     go_wp2
     go_ret
     exact ⟨bool_of Z.out.symm, rfl⟩
   ·have e3 : ((s : Int) == 0) = false := by simpa using e1
    clear h1
    go_enter Tryz.func244, Tryz.ntmps244
    go_wp2
    go_ret
    exact ⟨bool_of Z.out.symm, rfl⟩
 ·by_cases h1 : n = 1
  ·subst h1
   clear h0
   by_cases e1 : lo = hi
   ·subst e1
    by_cases e2 : lo = s
    ·subst e2
     have Z : Hid (r = b1) := Lib.hid (by
      rw [Bool.eq_iff_iff, R.out, K.out.1]
      unfold cellMayP mMay inV inS
      omega)
     have e4 : ((lo : Int) == lo) = true := by simp
     go_enter Tryz.func244, Tryz.ntmps244
     go_wp2_with fail
     refine (I1.out _).mono ?_
     rintro e w' ⟨rfl, rfl⟩
     go_wp2_with fail
     go_ret
     exact ⟨bool_of Z.out.symm, rfl⟩
    ·have Z : Hid (r = false) := Lib.hid (by
      rw [Bool.eq_false_iff]
      intro h
      have := R.out.1 h
      unfold cellMayP mMay at this
      omega)
     have e3 : ((lo : Int) == s) = false := by simpa using e2
     have e4 : ((lo : Int) == lo) = true := by simp
     go_enter Tryz.func244, Tryz.ntmps244
     go_wp2_with fail
     go_ret
     exact ⟨bool_of Z.out.symm, rfl⟩
   ·have Z : Hid (r = false) := Lib.hid (by
     rw [Bool.eq_false_iff]
     intro h
     have := R.out.1 h
     unfold cellMayP mMay at this
     omega)
    have e3 : ((lo : Int) == hi) = false := by simpa using e1
    go_enter Tryz.func244, Tryz.ntmps244
    go_wp2_with fail
    go_ret
    exact ⟨bool_of Z.out.symm, rfl⟩
  ·have e0 : ((n : Int) == 0) = false := by simpa using h0
   have e1 : ((n : Int) == 1) = false := by simpa using h1
   have Q : Hid (r = true ↔ lo ≤ hi ∧ b2 = true ∧ b3 = true ∧ b4 = true) := Lib.hid (by
    obtain ⟨_, k2, k3, k4⟩ := K.out
    rw [R.out, k2, k3, k4]
    unfold cellMayP mMay inV inS
    omega)
   clear R K h0 h1
   by_cases e2 : lo ≤ hi
   ·cases b2
    ·have Z : Hid (r = false) := Lib.hid (by rw [Bool.eq_false_iff]; intro h; cases (Q.out.1 h).2.1)
     go_enter Tryz.func244, Tryz.ntmps244
     go_wp2_with fail
     refine (I2.out _).mono ?_
     rintro e w' ⟨rfl, rfl⟩
     go_wp2_with fail
     go_ret
     exact ⟨bool_of Z.out.symm, rfl⟩
    ·cases b3
     ·have Z : Hid (r = false) := Lib.hid (by rw [Bool.eq_false_iff]; intro h; cases (Q.out.1 h).2.2.1)
      go_enter Tryz.func244, Tryz.ntmps244
      go_wp2_with fail
      refine (I2.out _).mono ?_
      rintro e w' ⟨rfl, rfl⟩
      go_wp2_with fail
      refine (I3.out _).mono ?_
      rintro e w' ⟨rfl, rfl⟩
      go_wp2_with fail
      go_ret
      exact ⟨bool_of Z.out.symm, rfl⟩
     ·have Z : Hid (r = b4) := Lib.hid (by rw [Bool.eq_iff_iff, Q.out]; exact ⟨fun h => h.2.2.2, fun h => ⟨e2, rfl, rfl, h⟩⟩)
      go_enter Tryz.func244, Tryz.ntmps244
      go_wp2_with fail
      refine (I2.out _).mono ?_
      rintro e w' ⟨rfl, rfl⟩
      go_wp2_with fail
      refine (I3.out _).mono ?_
      rintro e w' ⟨rfl, rfl⟩
      go_wp2_with fail
      refine (I4.out _).mono ?_
      rintro e w' ⟨rfl, rfl⟩
      go_wp2_with fail
      go_ret
      exact ⟨bool_of Z.out.symm, rfl⟩
   ·have Z : Hid (r = false) := Lib.hid (by rw [Bool.eq_false_iff]; intro h; exact e2 (Q.out.1 h).1)
    go_enter Tryz.func244, Tryz.ntmps244
    go_wp2_with fail
    go_ret
    exact ⟨bool_of Z.out.symm, rfl⟩
theorem mayB_eq (n s lo hi : Int) : mayB n s lo hi = true ↔ cellMayP n s lo hi := by unfold mayB; simp

set_option maxRecDepth 100000 in
set_option maxHeartbeats 2000000 in
theorem cellMay_any {n : Int} {A1 A2 A3 : Option Addr} {n1 c1 n2 c2 n3 c3 : Nat} {S M X : List Int} {w : World} (h : HasC w w.heap.size A1 n1 c1 A2 n2 c2 A3 n3 c3 S M X) {r : Bool} (hr : r = true ↔ cMay (n, S, M, X)) :
  Calls Tryz.prog 220 #[cellV n A1 n1 c1 A2 n2 c2 A3 n3 c3] w fun e w' => e = .returned (.bool r) ∧ Below w.heap.size w w' := by
 have R := Lib.hid (hr.trans (cMay_iff n S M X))
 have l1 := h.s.len
 have l2 := h.m.len
 have l3 := h.x.len
 have m1 := h.s.lenMax
 have m2 := h.m.lenMax
 have m3 := h.x.lenMax
 have LL := Lib.hid (And.intro l1 (And.intro l2 l3))
 have hbx := Lib.hid (below_a1 w (.cells #[.int .i64 n, .slice A1 n1 c1, .slice A2 n2 c2, .slice A3 n3 c3] 71))
 clear hr
 by_cases h1 : n1 ≤ 2
 ·by_cases h2 : n2 = n1
  ·by_cases h3 : n3 = n1
   ·by_cases h4 : 0 ≤ n
    ·by_cases h5 : n ≤ 1099511627776
     ·subst h2 h3
      clear l1 l2 l3
      go_enter Tryz.func220, Tryz.ntmps220
      go_wp2_with fail
      have hB := Block.new w 71 #[.int .i64 n, .slice A1 n3 c1, .slice A2 n3 c2, .slice A3 n3 c3]
      have hC := h.below hbx.out (Nat.le_refl _)
      generalize w.alloc (.cells #[.int .i64 n, .slice A1 n3 c1, .slice A2 n3 c2, .slice A3 n3 c3] 71) = w1 at hbx hB hC ⊢
      have g0 : w1.cell? ⟨w.heap.size, 0, none⟩ = some (.int .i64 n) := hB.cell 0
      have g1 : w1.cell? ⟨w.heap.size, 1, none⟩ = some (.slice A1 n3 c1) := hB.cell 1
      have g2 : w1.cell? ⟨w.heap.size, 2, none⟩ = some (.slice A2 n3 c2) := hB.cell 2
      have g3 : w1.cell? ⟨w.heap.size, 3, none⟩ = some (.slice A3 n3 c3) := hB.cell 3
      clear hB h
      go_loopw [33] (fun i wr => ∃ k q : Nat, k ≤ n3 ∧ i = .int .i64 k ∧ wr = w1.drewN q ∧ Hid (∀ i, i < k → cellMayP n (S.getD i 0) (M.getD i 0) (X.getD i 0))) (fun i _ => n3 - (intOf i).toNat)
      case atStart => exact ⟨0, 0, Nat.zero_le _, rfl, rfl, Lib.hid fun i hi => absurd hi (by omega)⟩
      case round =>
       obtain ⟨k, q, hk, rfl, rfl, hP⟩ := hrel
       by_cases hlt : k < n3
       ·obtain ⟨b1, o1, s, rfl, _, cs, es⟩ := hC.s.at_ hlt
        obtain ⟨b2, o2, lo, rfl, _, cm, em⟩ := hC.m.at_ hlt
        obtain ⟨b3, o3, hi, rfl, _, cx, ex⟩ := hC.x.at_ hlt
        have i0 : (0 : Int) ≤ (k : Int) := by omega
        have i1 : (k : Int) < (n3 : Int) := by omega
        obtain ⟨b, hb⟩ : ∃ b, mayB n s lo hi = b := ⟨_, rfl⟩
        have hbP : Hid (b = true ↔ cellMayP n (S.getD k 0) (M.getD k 0) (X.getD k 0)) := Lib.hid (by rw [← hb, mayB_eq, es.out, em.out, ex.out])
        have HM : Hid (∀ w, Calls Tryz.prog 244 #[.int .i64 n, .int .i64 s, .int .i64 lo, .int .i64 hi] w fun e w' => e = .returned (.bool b) ∧ w = w') := Lib.hid fun w => by have := mayBe_any n s lo hi w; rwa [hb] at this
        clear hb
        cases b
        ·have Z : Hid (r = false) := Lib.hid (by
          rw [Bool.eq_false_iff]; intro h
          have h1 := (R.out.1 h).2.2.2.2.2 k (by have := LL.out; omega)
          cases hbP.out.2 h1)
         go_wp2_with fail
         go_quiet ((go_at_call 244; exact quietQ HM.out _))
         go_wp2_with fail
         go_ret
         exact ⟨bool_of Z.out.symm, below_drewN (below_drewN hbx.out _) _⟩
        ·have hP2 : Hid (∀ i, i < k + 1 → cellMayP n (S.getD i 0) (M.getD i 0) (X.getD i 0)) := Lib.hid fun i hi => by
          by_cases h : i < k
          ·exact hP.out i h
          ·obtain rfl : i = k := by omega
           exact hbP.out.1 rfl
         go_wp2_with fail
         go_quiet ((go_at_call 244; exact quietQ HM.out _))
         go_wp2_with fail
         go_roundw
         case rel => exact ⟨k + 1, _, by omega, by go_num, by first | rfl | rw [World.drewN_drewN], hP2⟩
         case measure => simp [intOf]; omega
       ·have Z : Hid (r = true) := Lib.hid (R.out.2 (by
         obtain ⟨a1, a2, a3⟩ := LL.out
         refine ⟨by omega, by omega, by omega, h4, h5, fun i hi => hP.out i (by omega)⟩))
        go_wp2_with fail
        go_ret
        exact ⟨bool_of Z.out.symm, below_drewN hbx.out _⟩
     ·have Z : Hid (r = false) := Lib.hid (by rw [Bool.eq_false_iff]; intro h; exact h5 (R.out.1 h).2.2.2.2.1)
      subst h2 h3
      clear l1 l2 l3
      go_enter Tryz.func220, Tryz.ntmps220
      go_wp2_with fail
      go_ret
      exact ⟨bool_of Z.out.symm, hbx.out⟩
    ·have Z : Hid (r = false) := Lib.hid (by rw [Bool.eq_false_iff]; intro h; exact h4 (R.out.1 h).2.2.2.1)
     subst h2 h3
     clear l1 l2 l3
     go_enter Tryz.func220, Tryz.ntmps220
     go_wp2_with fail
     go_ret
     exact ⟨bool_of Z.out.symm, hbx.out⟩
   ·have Z : Hid (r = false) := Lib.hid (by rw [Bool.eq_false_iff]; intro h; have := (R.out.1 h).2.2.1; have := LL.out; omega)
    have e3 : ((n3 : Int) != (n1 : Int)) = true := by simp; omega
    subst h2
    clear l1 l2 l3 h3
    go_enter Tryz.func220, Tryz.ntmps220
    go_wp2_with fail
    go_ret
    exact ⟨bool_of Z.out.symm, hbx.out⟩
  ·have Z : Hid (r = false) := Lib.hid (by rw [Bool.eq_false_iff]; intro h; have := (R.out.1 h).2.1; have := LL.out; omega)
   have e3 : ((n2 : Int) != (n1 : Int)) = true := by simp; omega
   clear l1 l2 l3 h2
   go_enter Tryz.func220, Tryz.ntmps220
   go_wp2_with fail
   go_ret
   exact ⟨bool_of Z.out.symm, hbx.out⟩
 ·have Z : Hid (r = false) := Lib.hid (by rw [Bool.eq_false_iff]; intro h; have := (R.out.1 h).1; have := LL.out; omega)
  have e3 : (2 : Int) < (n1 : Int) := by omega
  clear l1 l2 l3 h1
  go_enter Tryz.func220, Tryz.ntmps220
  go_wp2_with fail
  go_ret
  exact ⟨bool_of Z.out.symm, hbx.out⟩
end Go.Proofs.YtmepdkdeanbbaaaGreat
