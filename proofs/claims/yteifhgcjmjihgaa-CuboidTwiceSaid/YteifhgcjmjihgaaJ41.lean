/- CubL5 -/
import Derived.Test.YteifhgcjmjihgaaJ34
import Derived.Test.YteifhgcjmjihgaaJ39
import Derived.Test.YteifhgcjmjihgaaJ40
import Derived.Deep.RegionHeld3
namespace Go.Proofs.Yteifhgcjmjihgaa
set_option maxRecDepth 100000
open Go.RowKit

def wideP (width : Int) : Nat := 1 + pickN width 3
def measP (m : Int) : Nat := 1 + pickN m 2
theorem wideP_in (x : Int) : 1 ≤ wideP x ∧ wideP x ≤ 3 := by have := pickN_lt x (n := 3) (by decide); unfold wideP; omega
theorem measP_in (x : Int) : 1 ≤ measP x ∧ measP x ≤ 2 := by have := pickN_lt x (n := 2) (by decide); unfold measP; omega
/-- Two cuboids side by side: both hold C. -/
structure Pair (w0 w : World) (g b r W m : Nat) (C : Cub) : Prop where
  pc : Cb w g b W m C
  pr : ∃ A n c, Rq w r W m (fun k => k ≠ r ∧ k ≠ b) A n c C
  lo : w0.heap.size ≤ g ∧ w0.heap.size ≤ b ∧ w0.heap.size ≤ r
  ne : b ≠ r ∧ g ≠ r
  bel : Below w0.heap.size w0 w
theorem Pair.belowS {w0 w w' : World} {g b r W m : Nat} {C : Cub} (h : Pair w0 w g b r W m C) (hb : Below w.heap.size w w') : Pair w0 w' g b r W m C := by
  obtain ⟨A, n, c, hr⟩ := h.pr
  exact ⟨h.pc.belowS hb, ⟨A, n, c, hr.belowS hb⟩, h.lo, h.ne, h.bel.trans (hb.mono h.bel.size)⟩
theorem Rq.kept {w w' : World} {r W m b n c : Nat} {S : Nat → Prop} {A : Option Addr} {C : Cub} (h : Rq w r W m S A n c C) (hg : w.grownBy w' (some b)) (hr : b ≠ r) (hS : ¬ S b) : Rq w' r W m S A n c C :=
  ⟨h.blk.grown hg (fun e => hr (by injection e)), h.row.mv elUnd_ok (Mv.grown hg fun k hk e => by injection e with e; subst e; exact hS hk)⟩
set_option maxRecDepth 100000 in
set_option maxHeartbeats 4000000 in
theorem both_any {w : World} {A : Option Addr} {n c : Nat} {L : Cub} {x y : Int} (hx : -9223372036854775808 ≤ x ∧ x ≤ 9223372036854775807) (hy : -9223372036854775808 ≤ y ∧ y ≤ 9223372036854775807) (hL : Row elUnd 5 w (fun k => k < w.heap.size) A n c L) :
    Calls Try.prog 6 #[.int .i64 x, .int .i64 y, .slice A n c] w fun e w' => ∃ g b r, e = .returned (.tuple #[.pointer (some ⟨g, 0, none⟩), .pointer (some ⟨r, 0, none⟩), .bool true]) ∧ Pair w w' g b r (wideP x) (measP y) (addsK (wideP x) (measP y) L (min n 60)) := by
  have hll := Lib.hid hL.len
  have hnm := hL.lenMax
  have HLr := Lib.hid hL
  obtain ⟨W, hW⟩ : ∃ W, Hid (wideP x = W) := ⟨_, Lib.hid rfl⟩
  obtain ⟨m, hm⟩ : ∃ m, Hid (measP y = m) := ⟨_, Lib.hid rfl⟩
  have hWi := wideP_in x
  have hmi := measP_in y
  rw [hW.out] at hWi ⊢
  rw [hm.out] at hmi ⊢
  have hp1 := Lib.hid (pick_any x 3 hx.1 hx.2 (by decide) (by decide) w)
  have hp2 := Lib.hid (pick_any y 2 hy.1 hy.2 (by decide) (by decide) w)
  obtain ⟨p1, hp1e⟩ : ∃ p, Hid (pickN x 3 = p) := ⟨_, Lib.hid rfl⟩
  obtain ⟨p2, hp2e⟩ : ∃ p, Hid (pickN y 2 = p) := ⟨_, Lib.hid rfl⟩
  rw [hp1e.out] at hp1
  rw [hp2e.out] at hp2
  have hWp : Hid (1 + (p1 : Int) = (W : Int)) := Lib.hid (by rw [← hW.out, ← hp1e.out]; unfold wideP; omega)
  have hmp : Hid (1 + (p2 : Int) = (m : Int)) := Lib.hid (by rw [← hm.out, ← hp2e.out]; unfold measP; omega)
  have hp1l : p1 < 3 := by have := hWp.out; omega
  have hp2l : p2 < 2 := by have := hmp.out; omega
  have hn1 := Lib.hid (new_yes (W := W) (m := m) hWi.1 hWi.2 hmi.1 hmi.2 w)
  clear hL
  go_enter Try.func6, Try.ntmps6
  go_wp2_with fail
  refine hp1.out.mono ?_
  rintro e w1 ⟨rfl, rfl⟩
  go_wp2_with fail
  refine hp2.out.mono ?_
  rintro e w1 ⟨rfl, rfl⟩
  go_wp2_with fail
  rw [hWp.out, hmp.out]
  refine hn1.out.mono ?_
  rintro e w1 ⟨⟨v, rfl, g, b, rfl, hC1, hg1, hb1⟩, hB1⟩
  have hal := below_a1 w1 (.cells #[.int .i64 (W : Int), .int .i64 (m : Int), .slice none 0 0] 47)
  have HP : Hid (Pair w (w1.alloc (.cells #[.int .i64 (W : Int), .int .i64 (m : Int), .slice none 0 0] 47)) g b w1.heap.size W m []) := Lib.hid ⟨hC1.belowS hal, ⟨none, 0, 0, Block.new w1 47 _, Row.none_ _ _⟩, ⟨hg1, hb1, hB1.size⟩, ⟨by have := hC1.map.lt; omega, by have := hC1.blk.lt; omega⟩, below_then hB1 hal⟩
  clear hn1 hp1 hp2 hC1 hg1 hb1 hB1 hal
  go_wp2_with fail
  generalize w1.alloc (.cells #[.int .i64 (W : Int), .int .i64 (m : Int), .slice none 0 0] 47) = w2 at HP ⊢
  obtain ⟨r, hr⟩ : ∃ r, w1.heap.size = r := ⟨_, rfl⟩
  rw [hr] at HP ⊢
  clear hr
  go_loopw [13] (fun i wr => ∃ t : Nat, t ≤ n ∧ t ≤ 60 ∧ i = .int .i64 t ∧ Hid (Pair w wr g b r W m (addsK W m L t))) (fun i _ => n - (intOf i).toNat)
  case atStart => exact ⟨0, Nat.zero_le _, by omega, rfl, HP⟩
  case round =>
    clear HP
    obtain ⟨t, ht, ht6, rfl, HO⟩ := hrel
    by_cases hlt : t < n
    · have hd : decide ((t : Int) < (n : Int)) = true := decide_eq_true (by omega)
      have hd0 : decide (t < n) = true := decide_eq_true hlt
      by_cases h6 : t < 60
      · have hd5 : decide ((t : Int) < 60) = true := decide_eq_true (by omega)
        have hd6 : decide (t < 60) = true := decide_eq_true h6
        obtain ⟨bd, o, A0, n0, c0, q, A1, n1, c1, A2, n2, c2, A3, n3, c3, K, Su, M, X, rfl, hbS, hbl, g0, g1, g2, g3, g4, hK0, hSu, hM, hX, hCj⟩ := HLr.out.atU hlt
        have i0 : (0 : Int) ≤ (t : Int) := by omega
        have i1 : (t : Int) < (n : Int) := by omega
        have KK : Hid (∀ y : World, Below w.heap.size w y → y.cell? ⟨bd, o + t * 5, none⟩ = some (.slice A0 n0 c0) ∧ y.cell? ⟨bd, o + t * 5 + 1, none⟩ = some (.int .i64 q) ∧ y.cell? ⟨bd, o + t * 5 + 2, none⟩ = some (.slice A1 n1 c1) ∧ y.cell? ⟨bd, o + t * 5 + 3, none⟩ = some (.slice A2 n2 c2) ∧ y.cell? ⟨bd, o + t * 5 + 4, none⟩ = some (.slice A3 n3 c3)) := Lib.hid fun y hy =>
          ⟨(hy.cell (p := ⟨bd, o + t * 5, none⟩) hbl).trans g0, (hy.cell (p := ⟨bd, o + t * 5 + 1, none⟩) hbl).trans g1, (hy.cell (p := ⟨bd, o + t * 5 + 2, none⟩) hbl).trans g2, (hy.cell (p := ⟨bd, o + t * 5 + 3, none⟩) hbl).trans g3, (hy.cell (p := ⟨bd, o + t * 5 + 4, none⟩) hbl).trans g4⟩
        have KH : Hid (∀ y : World, Below w.heap.size w y → HasI y y.heap.size A0 n0 c0 K ∧ HasC y y.heap.size A1 n1 c1 A2 n2 c2 A3 n3 c3 Su M X ∧ ∀ S : Nat → Prop, (∀ k, k < w.heap.size → S k) → elCell y S [.int .i64 q, .slice A1 n1 c1, .slice A2 n2 c2, .slice A3 n3 c3] (q, Su, M, X)) := Lib.hid fun y hy => by
          have hm : Mv w (fun k => k < w.heap.size) y (fun _ => True) := fun k hk hl => ⟨hy.block k hk, trivial⟩
          refine ⟨(hK0.mv elInt_ok hm).hasI, ⟨(hSu.mv elInt_ok hm).hasI, (hM.mv elInt_ok hm).hasI, (hX.mv elInt_ok hm).hasI⟩, fun S hS => ?_⟩
          have hm2 : Mv w (fun k => k < w.heap.size) y S := fun k hk hl => ⟨hy.block k hk, hS k hk⟩
          exact elCell_mk (hSu.mv elInt_ok hm2) (hM.mv elInt_ok hm2) (hX.mv elInt_ok hm2)
        obtain ⟨C', er, hA⟩ : ∃ C' er, Hid (addK W m (addsK W m L t) K (q, Su, M, X) = (C', er)) := ⟨_, _, Lib.hid rfl⟩
        have hC' : Hid (addsK W m L (t + 1) = C') := Lib.hid (by rw [addsK_step hCj.out, hA.out])
        have hBd : Below w.heap.size w wr.drew := below_drewN HO.out.bel 1
        have HA := Lib.hid (cubAdd_any (q := q) (HO.out.pc.drewN 1) (KH.out wr.drew hBd).1 (KH.out wr.drew hBd).2.1)
        rw [hA.out] at HA
        have hee : ((er : Int) != er) = false := by simp
        have HCl : Hid ((addsK W m L t).length ≤ 68921) := Lib.hid HO.out.pc.len
        have HNx : Hid (∀ z1 : World, wr.grownBy z1 (some b) → Below w.heap.size w z1 ∧ ∃ A' n' c', Rq z1 r W m (fun k => k ≠ r ∧ k ≠ b) A' n' c' (addsK W m L t) ∧ n' ≤ 100000) := Lib.hid fun z1 hz => by
          obtain ⟨A', n', c', hr⟩ := HO.out.pr
          exact ⟨below_grown_new HO.out.bel hz HO.out.lo.2.1, A', n', c', hr.kept hz HO.out.ne.1 (fun h => h.2 rfl), by have h1 := hr.row.len; have h2 := HCl.out; omega⟩
        obtain ⟨k0, k1, k2, k3, k4⟩ := KK.out wr HO.out.bel
        have HW3 := Lib.hid hWi
        clear g0 g1 g2 g3 g4 hbS hbl hK0 hSu hM hX hBd hWi
        go_wp2_with fail
        go_region_held3 (fun w' => w'.cell? ⟨bd, o + t * 5, none⟩ = some (.slice A0 n0 c0) ∧ w'.cell? ⟨bd, o + t * 5 + 1, none⟩ = some (.int .i64 q) ∧ w'.cell? ⟨bd, o + t * 5 + 2, none⟩ = some (.slice A1 n1 c1) ∧ w'.cell? ⟨bd, o + t * 5 + 3, none⟩ = some (.slice A2 n2 c2) ∧ w'.cell? ⟨bd, o + t * 5 + 4, none⟩ = some (.slice A3 n3 c3))
          (first
            | with_reducible exact KK.out _ hBz2
            | with_reducible exact KK.out _ hBz1
            | go_keep)
          (first
            | (go_at_call 12; refine HA.out.mono ?_; rintro e z1 ⟨rfl, hC1, hG1⟩; have hGz1 : wr.grownBy z1 (some b) := grownBy_trans (grown_of (below_drewN (Below.refl _ wr) 1) _) hG1 (fun _ h => .inl h); have hBz1 := (HNx.out z1 hGz1).1)
            | (go_at_call 15; obtain ⟨A', n', c', hRz, hnz⟩ := (HNx.out z1 hGz1).2; refine (refAddK_any (w := z1) (fun k hk => ⟨fun e => by have := hRz.blk.lt; omega, fun e => by have := hC1.map.lt; omega⟩) (fun h => h.1 rfl) hRz hnz HW3.out.2 HO.out.pc.ok (KH.out z1 hBz1).1 ((KH.out z1 hBz1).2.2 _ (fun k hk => ⟨fun e => by have := HO.out.lo.2.2; omega, fun e => by have := HO.out.lo.2.1; omega⟩))).mono ?_; rw [hA.out]; rintro e z2 ⟨rfl, hR2, hG2⟩; have hBz2 := below_grown_new hBz1 hG2 HO.out.lo.2.2))
        all_goals
          have hF : Hid (Pair w z2 g b r W m (addsK W m L (t + 1))) := Lib.hid (by
            rw [hC'.out]
            exact ⟨hC1.kept hG2 (fun e => by injection e with e; exact HO.out.ne.2 e.symm) (fun e => by injection e with e; exact HO.out.ne.1 e.symm), hR2, HO.out.lo, HO.out.ne, hBz2⟩)
          clear hC1 hG1 hGz1 hBz1 hR2 hG2 hBz2 hRz hnz k0 k1 k2 k3 k4 HA HNx
          go_wp2_with fail
          go_roundw
          case rel => exact ⟨t + 1, by omega, by omega, by go_num, hF⟩
          case measure => simp [intOf]; omega
      · have hd5 : decide ((t : Int) < 60) = false := decide_eq_false (by omega)
        have hd6 : decide (t < 60) = false := decide_eq_false h6
        have HF : Hid (Pair w wr g b r W m (addsK W m L (min n 60))) := Lib.hid (by rw [show min n 60 = t by omega]; exact HO.out)
        clear HO
        go_wp2_with fail
        go_ret3
        exact ⟨g, b, r, rfl, HF.out⟩
    · have hd : decide ((t : Int) < (n : Int)) = false := decide_eq_false (by omega)
      have hd0 : decide (t < n) = false := decide_eq_false hlt
      have HF : Hid (Pair w wr g b r W m (addsK W m L (min n 60))) := Lib.hid (by rw [show min n 60 = t by omega]; exact HO.out)
      clear HO
      go_wp2_with fail
      go_ret3
      exact ⟨g, b, r, rfl, HF.out⟩
end Go.Proofs.Yteifhgcjmjihgaa
