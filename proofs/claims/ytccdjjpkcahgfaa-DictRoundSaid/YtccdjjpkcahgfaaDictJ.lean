/- Layer 7's statements: pick, ints, like. -/
import Derived.Test.YtccdjjpkcahgfaaDictS
import Derived.Test.YtccdjjpkcahgfaaDictX
import Derived.Test.YtccdjjpkcahgfaaSame
namespace Go.Proofs.Ytccdjjpkcahgfaa
open Go.RowKit

set_option maxRecDepth 100000 in
/-- pick, of three. -/
theorem pick_any (c : Int) (h : -9223372036854775808 ≤ c) (h' : c ≤ 9223372036854775807) (w : World) :
    Calls Try.prog 27 #[.int .i64 c, .int .i64 3] w fun e w' => (∃ r : Nat, r < 3 ∧ e = .returned (.int .i64 (r : Int))) ∧ w = w' := by
  by_cases hc : c < 0
  · obtain ⟨q, hq⟩ : ∃ q : Nat, -(c + 1) = (q : Int) := ⟨(-(c + 1)).toNat, by omega⟩
    have h0 : (0 : Int) ≤ (q : Int) := by omega
    have hqb : (q : Int) ≤ 9223372036854775807 := by omega
    go_enter Try.func27, Try.ntmps27
    go_wp2
    go_ret
    exact ⟨⟨q % 3, Nat.mod_lt _ (by decide), rfl⟩, rfl⟩
  · obtain ⟨q, rfl⟩ : ∃ q : Nat, c = (q : Int) := ⟨c.toNat, by omega⟩
    go_enter Try.func27, Try.ntmps27
    go_wp2
    go_ret
    exact ⟨⟨q % 3, Nat.mod_lt _ (by decide), rfl⟩, rfl⟩

theorem takeI_same {L L' : List Int} {k : Nat} {x : Int} (hk : k < L.length) (hk' : k < L'.length) (h : L.take k = L'.take k) (e : x = L.getD k 0) (e' : x = L'.getD k 0) : L.take (k + 1) = L'.take (k + 1) := by
  rw [List.take_succ_eq_append_getElem hk, List.take_succ_eq_append_getElem hk', h]
  simp only [List.getD_eq_getElem?_getD, List.getElem?_eq_getElem hk, List.getElem?_eq_getElem hk', Option.getD_some] at e e'
  rw [← e, ← e']
set_option maxRecDepth 100000 in
/-- ints: of the same numbers. -/
theorem ints_same {A A' : Option Addr} {n c n' c' B B' : Nat} {L : List Int} {w : World} (hr : HasI w B A n c L) (hr' : HasI w B' A' n' c' L) :
    Calls Try.prog 23 #[.slice A n c, .slice A' n' c'] w fun e w' => e = .returned (.bool true) ∧ ∃ k, w' = w.drewN k := by
  obtain rfl : n' = n := by rw [← hr.len, ← hr'.len]
  have hn := hr.lenMax
  have hne : ((n' : Int) != (n' : Int)) = false := by simp
  go_enter Try.func23, Try.ntmps23
  go_wp2
  clear hne
  go_loopw [5] (fun i wr => ∃ k q : Nat, k ≤ n' ∧ i = .int .i64 k ∧ wr = w.drewN q) (fun i _ => n' - (intOf i).toNat)
  case atStart => exact ⟨0, 0, Nat.zero_le _, rfl, rfl⟩
  case round =>
    obtain ⟨k, q, hk, rfl, rfl⟩ := hrel
    by_cases hlt : k < n'
    · obtain ⟨b, o, x, rfl, hb, hc, ex⟩ := hr.at_ hlt
      obtain ⟨b', o', x', rfl, hb', hc', ex'⟩ := hr'.at_ hlt
      obtain rfl : x = x' := ex.out.trans ex'.out.symm
      have hxn : (x != x) = false := by simp
      clear ex ex'
      go_wp2
      go_quiet (fail)
      go_wp2
      go_roundw
      case rel => exact ⟨k + 1, q + nq, by omega, by go_num, rfl⟩
      case measure => simp [intOf]; omega
    · go_wp2
      go_ret
      exact ⟨rfl, q, rfl⟩

/-! ### A code's path, there or not -/
def pthI (Q : List Pth) (z : Int) : Pth := if 0 ≤ z ∧ z ≤ (Q.length : Int) then pth Q z.toNat else []
def errI (Q : List Pth) (z : Int) : Nat := if 0 ≤ z ∧ z ≤ (Q.length : Int) then 0 else 33
theorem pathU_any {w : World} {base g : Nat} {pv : Value} {bm n : Nat} {Q : List Pth} (h : Dc w base g pv bm n Q) (z : Int) {q : Pth} {e : Nat} (hq : Hid (pthI Q z = q)) (he : Hid (errI Q z = e)) :
    Calls Try.prog 25 #[.pointer (some ⟨g, 0, none⟩), .int .i64 z] w fun y w' => ∃ A m c, y = .returned (.tuple #[.slice A m c, .int .i64 (e : Int)]) ∧ HasT w' w'.heap.size A m c q ∧ Below w.heap.size w w' := by
  by_cases hz : 0 ≤ z ∧ z ≤ (Q.length : Int)
  · obtain ⟨m, rfl⟩ : ∃ m : Nat, z = (m : Int) := ⟨z.toNat, by omega⟩
    have h1 : pth Q m = q := by have := hq.out; unfold pthI at this; rw [if_pos hz] at this; simpa using this
    have h2 : e = 0 := by have := he.out; unfold errI at this; rw [if_pos hz] at this; exact this.symm
    subst h2
    refine (path_any h m (by omega) (Lib.hid h1)).mono ?_
    rintro y w' ⟨v, rfl, hO, hB⟩
    obtain ⟨A, m', c, rfl, hT, _⟩ := hO.formN
    exact ⟨A, m', c, rfl, hT, hB⟩
  · have h1 : q = [] := by have := hq.out; unfold pthI at this; rw [if_neg hz] at this; exact this.symm
    have h2 : e = 33 := by have := he.out; unfold errI at this; rw [if_neg hz] at this; exact this.symm
    subst h1 h2
    refine (path_no h z hz).mono ?_
    rintro y w' ⟨rfl, rfl⟩
    exact ⟨none, 0, 0, rfl, ⟨rfl, Nat.le_refl _, Nat.zero_le _, fun _ => rfl, Has.nil_⟩, Below.refl _ _⟩
theorem refPathU_any {w : World} {base r n : Nat} {Lv : Value} {Q : List Pth} (h : Rf w base r n Lv Q) (z : Int) {q : Pth} {e : Nat} (hq : Hid (pthI Q z = q)) (he : Hid (errI Q z = e)) :
    Calls Try.prog 32 #[.pointer (some ⟨r, 0, none⟩), .int .i64 z] w fun y w' => (∃ A m c, y = .returned (.tuple #[.slice A m c, .int .i64 (e : Int)]) ∧ HasT w w.heap.size A m c q) ∧ w = w' := by
  by_cases hz : 0 ≤ z ∧ z ≤ (Q.length : Int)
  · obtain ⟨m, rfl⟩ : ∃ m : Nat, z = (m : Int) := ⟨z.toNat, by omega⟩
    have h1 : pth Q m = q := by have := hq.out; unfold pthI at this; rw [if_pos hz] at this; simpa using this
    have h2 : e = 0 := by have := he.out; unfold errI at this; rw [if_pos hz] at this; exact this.symm
    subst h2
    refine (refPath_any h m (by omega) (Lib.hid h1)).mono ?_
    rintro y w' ⟨⟨A, k, c, rfl, hT⟩, rfl⟩
    exact ⟨⟨A, k, c, rfl, hT⟩, rfl⟩
  · have h1 : q = [] := by have := hq.out; unfold pthI at this; rw [if_neg hz] at this; exact this.symm
    have h2 : e = 33 := by have := he.out; unfold errI at this; rw [if_neg hz] at this; exact this.symm
    subst h1 h2
    refine (refPath_no h z hz).mono ?_
    rintro y w' ⟨rfl, rfl⟩
    exact ⟨⟨none, 0, 0, rfl, ⟨rfl, Nat.le_refl _, Nat.zero_le _, fun _ => rfl, Has.nil_⟩⟩, rfl⟩

set_option maxRecDepth 100000 in
set_option maxHeartbeats 4000000 in
/-- like: of the same paths. -/
theorem like_any {w : World} {base g : Nat} {pv : Value} {bm n : Nat} {Q : List Pth} (h : Dc w base g pv bm n Q) {base' r : Nat} {Lv : Value} (h' : Rf w base' r n Lv Q) :
    Calls Try.prog 11 #[.pointer (some ⟨g, 0, none⟩), .pointer (some ⟨r, 0, none⟩)] w fun e w' => e = .returned (.bool true) ∧ Below w.heap.size w w' := by
  obtain ⟨A2, cap, hLv, hT⟩ := h'.row.form
  subst hLv
  have hQ := h.good.size
  have c1 := h'.c1
  have hrl := h'.block.lt
  have K : Hid (∀ y, Below w.heap.size w y → y.cell? ⟨r, 1, none⟩ = some (.slice A2 Q.length cap) ∧ Dc y base g pv bm n Q ∧ Rf y base' r n (.slice A2 Q.length cap) Q) := Lib.hid fun y hy => ⟨(hy.cell (p := ⟨r, 1, none⟩) hrl).trans c1, h.below hy, h'.below hy⟩
  have hln := len_any (w := w.drew) (show Dc w.drew base g pv bm n Q from h.drewN 1)
  have hne : ((Q.length : Int) != (Q.length : Int)) = false := by simp
  clear hT h h'
  go_enter Try.func11, Try.ntmps11
  go_wp2_with fail
  go_region_with (go_at_call 26; refine hln.mono ?_; rintro e w' ⟨rfl, rfl⟩)
  all_goals
    clear hln
    go_wp2_with fail
    clear hne
    go_loopw [5] (fun i wr => ∃ z : Int, -1 ≤ z ∧ z ≤ (Q.length : Int) + 2 ∧ i = .int .i64 z ∧ Below w.heap.size w wr) (fun i _ => ((Q.length : Int) + 2 - intOf i).toNat)
    case atStart => exact ⟨-1, by omega, by omega, rfl, below_drewN (Below.refl _ _) _⟩
    case round =>
      obtain ⟨z, hz1, hz2, rfl, hB⟩ := hrel
      obtain ⟨d1, hDr, hRr⟩ := K.out wr hB
      by_cases hlt : z ≤ (Q.length : Int) + 1
      · obtain ⟨q, hq⟩ : ∃ q, Hid (pthI Q z = q) := ⟨_, Lib.hid rfl⟩
        obtain ⟨e, he⟩ : ∃ e, Hid (errI Q z = e) := ⟨_, Lib.hid rfl⟩
        have hp := pathU_any hDr z hq he
        have hee : ((e : Int) != (e : Int)) = false := by simp
        clear hDr hRr
        go_wp2_with fail
        refine hp.mono ?_
        rintro y w1 ⟨A, m, c, rfl, hP, hB1⟩
        have hBB1 := hB.trans (hB1.mono hB.size)
        clear hp hB
        go_wp2_with fail
        refine (refPathU_any (K.out w1 hBB1).2.2 z hq he).mono ?_
        rintro y w1' ⟨⟨A', m', c', rfl, hP'⟩, rfl⟩
        go_wp2_with fail
        refine (sameT_any hP hP').mono ?_
        rw [decide_eq_true rfl]
        rintro y w2 ⟨rfl, j, rfl⟩
        have HP' := Lib.hid (hP'.drewN j)
        have hBB2 := below_drewN hBB1 j
        have hs2 := hBB2.size
        clear hP hP' hB1 hBB1
        go_wp2_with fail
        go_loopw [11] (fun i wr => ∃ y : Int, -1 ≤ y ∧ y ≤ 5 ∧ i = .int .i64 y ∧ Below (w1.drewN j).heap.size (w1.drewN j) wr) (fun i _ => (5 - intOf i).toNat)
        case atStart => exact ⟨-1, by omega, by omega, rfl, Below.refl _ _⟩
        case round =>
          obtain ⟨y, hy1, hy2, rfl, hBi⟩ := hrel
          have hBw := hBB2.trans (hBi.mono hs2)
          by_cases hyl : y ≤ 4
          · obtain ⟨x, hx⟩ : ∃ x, Hid (upA Q z y = x) := ⟨_, Lib.hid rfl⟩
            obtain ⟨x1, x2⟩ := x
            have hu := dup_any (K.out wr hBw).2.1 z y hx
            have hx11 : ((x1 : Int) != (x1 : Int)) = false := by simp
            have hx22 : ((x2 : Int) != (x2 : Int)) = false := by simp
            go_wp2_with fail
            refine hu.mono ?_
            rintro yy w3 ⟨rfl, hB3⟩
            have hBi3 := below_then hBi (hB3.mono (Nat.le_refl _))
            have hBw3 := hBw.trans (hB3.mono hBw.size)
            clear hu
            go_wp2_with fail
            refine (refDup_any (K.out w3 hBw3).2.2 z y hx).mono ?_
            rintro yy w4 ⟨rfl, j2, rfl⟩
            go_wp2_with fail
            go_roundw
            case rel => exact ⟨y + 1, by omega, by omega, rfl, below_drewN hBi3 j2⟩
            case measure => simp [intOf]; omega
          · obtain ⟨x, hx⟩ : ∃ x, Hid (codeA Q q = x) := ⟨_, Lib.hid rfl⟩
            obtain ⟨x1, x2⟩ := x
            have hP2 := (HP'.out.belowS hBi)
            have hcd := code_any (K.out wr hBw).2.1 hP2 hx
            have hx11 : ((x1 : Int) != (x1 : Int)) = false := by simp
            have hx22 : ((x2 : Int) != (x2 : Int)) = false := by simp
            have HP2 := Lib.hid hP2
            clear hP2
            go_wp2_with fail
            refine hcd.mono ?_
            rintro yy w3 ⟨rfl, hB3⟩
            have hBw3 := hBw.trans (hB3.mono hBw.size)
            have hP3 := HP2.out.belowS hB3
            clear hcd
            go_wp2_with fail
            refine (refCode_any (K.out w3 hBw3).2.2 hP3 hx).mono ?_
            rintro yy w4 ⟨rfl, j2, rfl⟩
            have hBz := below_drewN hBw3 j2
            clear hP3 hBw3 hB3 hBw hBi
            go_wp2_with fail
            go_roundw
            case rel => exact ⟨z + 1, by omega, by omega, rfl, hBz⟩
            case measure => simp [intOf]; omega
      · have hnil := fun W : World => (⟨rfl, Nat.le_refl _, Nat.zero_le _, fun _ => rfl, Has.nil_⟩ : HasB W W.heap.size none 0 0 [])
        have hpu := put_any hDr (hnil _) (by omega)
        clear hRr hDr
        go_wp2_with fail
        refine hpu.mono ?_
        rintro y w1 ⟨v1, rfl, hO1, hB1⟩
        have hBB1 := hB.trans (hB1.mono hB.size)
        obtain ⟨A3, n3, c3, rfl, hv1, _⟩ := hO1.formN
        have Hv1 := Lib.hid hv1
        clear hO1 hv1 hpu hB1 hB
        go_wp2_with fail
        refine (refDput_any (K.out w1 hBB1).2.2 (hnil _) (by omega)).mono ?_
        rintro y w2 ⟨v2, rfl, hO2, hB2⟩
        obtain ⟨A4, n4, c4, rfl, hv2, _⟩ := hO2.formN
        have hv1' := Hv1.out.belowS hB2
        have hBB2 := hBB1.trans (hB2.mono hBB1.size)
        clear hO2 hB2 hBB1
        go_wp2_with fail
        refine (same_any _ _ _ _ _ _ _ _ _ _ _ hv1' hv2).mono ?_
        rw [beq_self_eq_true]
        rintro y w3 ⟨rfl, j, rfl⟩
        go_wp2_with fail
        go_ret
        exact ⟨rfl, below_drewN hBB2 j⟩
end Go.Proofs.Ytccdjjpkcahgfaa
