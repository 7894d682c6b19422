/- CubRB -/
import Derived.Test.YteifhgcjmjihgaaJ2
import Derived.Test.YteifhgcjmjihgaaJ23
import Derived.Test.YteifhgcjmjihgaaJ32
namespace Go.Proofs.Yteifhgcjmjihgaa
set_option maxRecDepth 100000
open Go.RowKit

/-- What the reference's Get tells: the cell that is there, its lists as they lie. -/
def TellQ (w : World) (S : Nat → Prop) (r : Option PC) (e : Ending) (w' : World) : Prop :=
  (match r with
    | none => e = .returned (.tuple #[.agg #[.int .i64 0, .slice none 0 0, .slice none 0 0, .slice none 0 0], .bool false])
    | some u => ∃ A1 n1 c1 A2 n2 c2 A3 n3 c3, e = .returned (.tuple #[.agg #[.int .i64 u.1, .slice A1 n1 c1, .slice A2 n2 c2, .slice A3 n3 c3], .bool true]) ∧ elCell w' S [.int .i64 u.1, .slice A1 n1 c1, .slice A2 n2 c2, .slice A3 n3 c3] u) ∧ Below w.heap.size w w'
theorem TellQ.none_ {w w' : World} {S : Nat → Prop} {e : Ending} (h : TellQ w S none e w') : e = .returned (.tuple #[.agg #[.int .i64 0, .slice none 0 0, .slice none 0 0, .slice none 0 0], .bool false]) ∧ Below w.heap.size w w' := h
theorem TellQ.some_ {w w' : World} {S : Nat → Prop} {e : Ending} {u : PC} (h : TellQ w S (some u) e w') : (∃ A1 n1 c1 A2 n2 c2 A3 n3 c3, e = .returned (.tuple #[.agg #[.int .i64 u.1, .slice A1 n1 c1, .slice A2 n2 c2, .slice A3 n3 c3], .bool true]) ∧ elCell w' S [.int .i64 u.1, .slice A1 n1 c1, .slice A2 n2 c2, .slice A3 n3 c3] u) ∧ Below w.heap.size w w' := h
set_option maxRecDepth 100000 in
set_option maxHeartbeats 2000000 in
theorem refGetK_any {w : World} {r W m n c k kc : Nat} {S : Nat → Prop} {A Ak : Option Addr} {C : Cub} {L : List Int} (h : Rq w r W m S A n c C) (hL : HasI w w.heap.size Ak k kc L) :
    Calls Try.prog 31 #[.pointer (some ⟨r, 0, none⟩), .slice Ak k kc] w (TellQ w S (getK C L)) := by
  have hb1 := below_a1 w (.cells #[.int .i64 0, .slice none 0 0, .slice none 0 0, .slice none 0 0] 42)
  have hR := Lib.hid (Block.new w 42 #[.int .i64 0, .slice none 0 0, .slice none 0 0, .slice none 0 0])
  have h1 := h.belowS hb1
  have hK := Lib.hid (hL.belowS hb1)
  have c2 := h1.c2
  have hrl : r < w.heap.size := h.blk.lt
  have HB := Lib.hid hb1
  have HR := Lib.hid h.row
  have hCl := Lib.hid h1.row.len
  have hnm := h1.row.lenMax
  have hcm := h1.row.capMax
  have hcap := h1.row.cap
  clear h hL hb1 h1
  go_enter Try.func31, Try.ntmps31
  go_wp2_with fail
  generalize w.alloc (.cells #[.int .i64 0, .slice none 0 0, .slice none 0 0, .slice none 0 0] 42) = W1 at hR hK c2 HB HR ⊢
  go_loopw [6] (fun i wr => ∃ j q : Nat, j ≤ n ∧ i = .int .i64 j ∧ wr = W1.drewN q ∧ Hid (∀ i e, i < j → C[i]? = some e → ¬ e.1 = L)) (fun i _ => n - (intOf i).toNat)
  case atStart => exact ⟨0, 0, Nat.zero_le _, rfl, rfl, Lib.hid (fun i e hi => absurd hi (by omega))⟩
  case round =>
    obtain ⟨j, q, hj, rfl, rfl, ht⟩ := hrel
    by_cases hlt : j < n
    · obtain ⟨b, o, A0, n0, c0, p, A1, n1, c1, A2, n2, c2', A3, n3, c3, K, Su, M, X, rfl, hb, hbl, g0, g1, g2, g3, g4, hK0, hS, hM, hX, hC⟩ := HR.out.atU hlt
      have i0 : (0 : Int) ≤ (j : Int) := by omega
      have i1 : (j : Int) < (n : Int) := by omega
      have hD := below_drewN HB.out q
      have g0 : W1.cell? ⟨b, o + j * 5, none⟩ = some (.slice A0 n0 c0) := (HB.out.cell (p := ⟨b, o + j * 5, none⟩) hbl).trans g0
      have g1 : W1.cell? ⟨b, o + j * 5 + 1, none⟩ = some (.int .i64 p) := (HB.out.cell (p := ⟨b, o + j * 5 + 1, none⟩) hbl).trans g1
      have g2 : W1.cell? ⟨b, o + j * 5 + 2, none⟩ = some (.slice A1 n1 c1) := (HB.out.cell (p := ⟨b, o + j * 5 + 2, none⟩) hbl).trans g2
      have g3 : W1.cell? ⟨b, o + j * 5 + 3, none⟩ = some (.slice A2 n2 c2') := (HB.out.cell (p := ⟨b, o + j * 5 + 3, none⟩) hbl).trans g3
      have g4 : W1.cell? ⟨b, o + j * 5 + 4, none⟩ = some (.slice A3 n3 c3) := (HB.out.cell (p := ⟨b, o + j * 5 + 4, none⟩) hbl).trans g4
      have hsm := sameI_any (w := W1.drewN q) (hK0.mv elInt_ok (Mv.belowS hD S)).hasI (hK.out.drewN q)
      have HSM := Lib.hid (And.intro hS (And.intro hM hX))
      clear hD hK0 hS hM hX
      by_cases hKL : K = L
      · have HG : Hid (getK C L = some (p, Su, M, X)) := Lib.hid (getK_here ht.out hC.out hKL)
        rw [decide_eq_true hKL] at hsm
        have hsm := Lib.hid hsm
        have HF := Lib.hid fun q => (show Block (put4 (W1.drewN q) w.heap.size (.int .i64 p) (.slice A1 n1 c1) (.slice A2 n2 c2') (.slice A3 n3 c3)) w.heap.size 42 #[.int .i64 p, .slice A1 n1 c1, .slice A2 n2 c2', .slice A3 n3 c3] ∧ elCell (put4 (W1.drewN q) w.heap.size (.int .i64 p) (.slice A1 n1 c1) (.slice A2 n2 c2') (.slice A3 n3 c3)) S [.int .i64 p, .slice A1 n1 c1, .slice A2 n2 c2', .slice A3 n3 c3] (p, Su, M, X) ∧ Below w.heap.size w (put4 (W1.drewN q) w.heap.size (.int .i64 p) (.slice A1 n1 c1) (.slice A2 n2 c2') (.slice A3 n3 c3)) from by
          have hb := below_put4 (below_drewN HB.out q) (Nat.le_refl _) (.int .i64 p) (.slice A1 n1 c1) (.slice A2 n2 c2') (.slice A3 n3 c3)
          exact ⟨(hR.out.drewN q).put4_ _ _ _ _, elCell_mk (HSM.out.1.mv elInt_ok (Mv.belowS hb S)) (HSM.out.2.1.mv elInt_ok (Mv.belowS hb S)) (HSM.out.2.2.mv elInt_ok (Mv.belowS hb S)), hb⟩)
        have y0 : W1.cell? ⟨w.heap.size, 0, none⟩ = some (.int .i64 0) := hR.out.cell 0
        have y1 : W1.cell? ⟨w.heap.size, 1, none⟩ = some (.slice none 0 0) := hR.out.cell 1
        have y2 : W1.cell? ⟨w.heap.size, 2, none⟩ = some (.slice none 0 0) := hR.out.cell 2
        have y3 : W1.cell? ⟨w.heap.size, 3, none⟩ = some (.slice none 0 0) := hR.out.cell 3
        have f0 := hR.out.free 0
        have f1 := hR.out.free 1
        have f2 := hR.out.free 2
        have f3 := hR.out.free 3
        clear hKL HSM hC
        go_wp2_with fail
        refine hsm.out.mono ?_
        rintro y w2 ⟨rfl, q2, rfl⟩
        go_wp2_with fail
        refine bodyPost_ret (results_block2 rfl _ _ w.heap.size _ _ rfl (HF.out (q + q2)).1 Try.underlying42 rfl info_cell) rfl ?_
        rw [HG.out]
        exact ⟨⟨_, _, _, _, _, _, _, _, _, rfl, (HF.out (q + q2)).2.1⟩, (HF.out (q + q2)).2.2⟩
      · have H : Hid (∀ i e, i < j + 1 → C[i]? = some e → ¬ e.1 = L) := Lib.hid fun i e hi he => by
          by_cases hij : i < j
          · exact ht.out i e hij he
          · obtain rfl : i = j := by omega
            have h1 := hC.out
            rw [he] at h1
            injection h1 with h1
            rw [h1]
            exact hKL
        rw [decide_eq_false hKL] at hsm
        have hsm := Lib.hid hsm
        clear hKL HSM hC
        go_wp2_with fail
        refine hsm.out.mono ?_
        rintro y w2 ⟨rfl, q2, rfl⟩
        go_wp2_with fail
        go_roundw
        case rel => exact ⟨j + 1, q + q2, by omega, by go_num, by first | rfl | exact World.drewN_drewN _ _ _, H⟩
        case measure => simp [intOf]; omega
    · have HG : Hid (getK C L = none) := Lib.hid (getK_all fun i e hi he => ht.out i e (by have := hCl.out; omega) he)
      have HF := Lib.hid (show Block (put4 (W1.drewN q) w.heap.size (.int .i64 0) (.slice none 0 0) (.slice none 0 0) (.slice none 0 0)) w.heap.size 42 #[.int .i64 0, .slice none 0 0, .slice none 0 0, .slice none 0 0] ∧ Below w.heap.size w (put4 (W1.drewN q) w.heap.size (.int .i64 0) (.slice none 0 0) (.slice none 0 0) (.slice none 0 0)) from
        ⟨(hR.out.drewN q).put4_ _ _ _ _, below_put4 (below_drewN HB.out q) (Nat.le_refl _) _ _ _ _⟩)
      have y0 : W1.cell? ⟨w.heap.size, 0, none⟩ = some (.int .i64 0) := hR.out.cell 0
      have y1 : W1.cell? ⟨w.heap.size, 1, none⟩ = some (.slice none 0 0) := hR.out.cell 1
      have y2 : W1.cell? ⟨w.heap.size, 2, none⟩ = some (.slice none 0 0) := hR.out.cell 2
      have y3 : W1.cell? ⟨w.heap.size, 3, none⟩ = some (.slice none 0 0) := hR.out.cell 3
      have f0 := hR.out.free 0
      have f1 := hR.out.free 1
      have f2 := hR.out.free 2
      have f3 := hR.out.free 3
      go_wp2_with fail
      refine bodyPost_ret (results_block2 rfl _ _ w.heap.size _ _ rfl HF.out.1 Try.underlying42 rfl info_cell) rfl ?_
      rw [HG.out]
      exact ⟨rfl, HF.out.2⟩
end Go.Proofs.Yteifhgcjmjihgaa
