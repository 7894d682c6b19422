/- QryS -/
import Derived.Test.YtmcccpbpijnbmaaJ29
import Derived.Test.YtmcccpbpijnbmaaJ33
namespace Go.Proofs.Ytmcccpbpijnbmaa
set_option maxRecDepth 100000
open Go.RowKit

set_option maxHeartbeats 4000000 in
theorem refPlainQ_any {S : Nat → Prop} {A1 A2 : Option Addr} {n1 c1 n2 c2 : Nat} {q : Qry} {w : World} (hq : HasQ w S A1 n1 c1 A2 n2 c2 q) :
  Calls Try.prog 41 #[qryV A1 n1 c1 A2 n2 c2] w fun e w' => e = .returned (.bool (decide (plainQ q))) ∧ Below w.heap.size w w' := by
 obtain ⟨G, F⟩ := q
 have hn1 := hq.g.lenMax
 have hn2 := hq.f.lenMax
 have HI := Lib.hid (plainQ_iff (show G.length = n1 from hq.g.len) (show F.length = n2 from hq.f.len))
 have HG := Lib.hid (show G.length = n1 from hq.g.len)
 have HF := Lib.hid (show F.length = n2 from hq.f.len)
 have hb0 := below_a1 w (.cells #[.slice A1 n1 c1, .slice A2 n2 c2] 30)
 have hbl := Block.new w 30 #[.slice A1 n1 c1, .slice A2 n2 c2]
 have h0 := hq.belowS hb0
 clear hq
 by_cases h34 : (n1 : Int) ≤ 3 ∧ (n2 : Int) ≤ 3
 ·obtain ⟨h3, h4⟩ := h34
  go_enter Try.func41, Try.ntmps41
  go_wp2_with fail
  generalize w.alloc (.cells #[.slice A1 n1 c1, .slice A2 n2 c2] 30) = W at hb0 hbl h0 ⊢
  have h1 : Row elInt 1 W (fun b => S b ∧ b < W.heap.size) A1 n1 c1 G := h0.g.mv elInt_ok (Mv.to W fun b hb hl => ⟨hb, hl⟩)
  have h2 : Row elFil 3 W (fun b => S b ∧ b < W.heap.size) A2 n2 c2 F := h0.f.mv elFil_ok (Mv.to W fun b hb hl => ⟨hb, hl⟩)
  have HS : ∀ b, (S b ∧ b < W.heap.size) → b < W.heap.size := fun b hb => hb.2
  have hz0 := hb0.size
  have HBL := Lib.hid hbl
  have k0 : W.cell? ⟨w.heap.size, 0, none⟩ = some (.slice A1 n1 c1) := hbl.cell 0
  clear h0 hbl
  go_loop [3] (fun i => ∃ k : Nat, k ≤ n1 ∧ i = .int .i64 k ∧ Hid (∀ x ∈ G.take k, 0 ≤ x ∧ x ≤ 3)) (fun i => n1 - (intOf i).toNat)
  case atStart => exact ⟨0, Nat.zero_le _, rfl, Lib.hid (fun x hx => by simp at hx)⟩
  case round =>
   obtain ⟨k, hk, rfl, HA⟩ := hrel
   by_cases hlt : k < n1
   ·obtain ⟨b, o, x, rfl, _, g0, hx⟩ := h1.hasI.at_ hlt
    have hget : G[k]? = some x := by
     rw [hx.out, List.getD_eq_getElem?_getD, List.getElem?_eq_getElem (show k < G.length by have := HG.out; omega)]
     rfl
    have HGet := Lib.hid hget
    have i0 : (0 : Int) ≤ (k : Int) := by omega
    have i1 : (k : Int) < (n1 : Int) := by omega
    clear hget hx
    by_cases hd : 0 ≤ x ∧ x ≤ 3
    ·have HN := Lib.hid (mem_takeX (P := fun x => 0 ≤ x ∧ x ≤ 3) HGet.out hd HA.out)
     obtain ⟨d1, d2⟩ := hd
     go_wp2_with fail
     go_round
     case rel => exact ⟨k + 1, by omega, by go_num, HN⟩
     case measure => simp [intOf]; omega
    ·have H : Hid (decide (plainQ (G, F)) = false) := Lib.hid (by
      rw [decide_eq_false_iff_not, HI.out]
      intro h; exact hd (h.2.2.1 x (List.mem_of_getElem? HGet.out)))
     have hc : x < 0 ∨ (0 ≤ x ∧ 3 < x) := by omega
     clear hd
     rcases hc with d1 | ⟨d1, d2⟩
     all_goals
      go_wp2_with fail
      go_ret
      exact ⟨by rw [H.out]; rfl, hb0⟩
   ·have HGA : Hid (∀ x ∈ G, 0 ≤ x ∧ x ≤ 3) := Lib.hid (by
     have h3 := HA.out
     rwa [List.take_of_length_le (by have := HG.out; omega)] at h3)
    go_wp2_with fail
    clear k0
    go_loopw [4] (fun i wr => ∃ k : Nat, k ≤ n2 ∧ i = .int .i64 k ∧ Hid (∀ f ∈ F.take k, plainFl f) ∧ Below W.heap.size W wr) (fun i _ => n2 - (intOf i).toNat)
    case atStart => exact ⟨0, Nat.zero_le _, rfl, Lib.hid (fun p hp => by simp at hp), Below.refl _ _⟩
    case round =>
     obtain ⟨j, hj, rfl, HA2, hB⟩ := hrel
     have k1 : wr.cell? ⟨w.heap.size, 1, none⟩ = some (.slice A2 n2 c2) := (HBL.out.below hB HBL.out.lt).cell 1
     by_cases hlj : j < n2
     ·obtain ⟨b, o, d, v, A', n', c', M', rfl, _, _, g0, g1, g2, hM, he⟩ := (h2.mv elFil_ok (Mv.below hB HS)).atF hlj
      have i0 : (0 : Int) ≤ (j : Int) := by omega
      have i1 : (j : Int) < (n2 : Int) := by omega
      have hbx := below_a1 wr (.cells #[.int .i64 d, .int .i64 v, .slice A' n' c'] 54)
      have hbf := Block.new wr 54 #[.int .i64 d, .int .i64 v, .slice A' n' c']
      have hB1 := hB.trans (hbx.mono hB.size)
      have hM1 := hM.mv elPath_ok (Mv.belowS hbx _)
      have hnm := hM.lenMax
      have HLM := Lib.hid hM.len
      have HIF := Lib.hid (plainFl_iff (d := d) (v := v) hM.len)
      clear hB hbx hM
      by_cases hok : (0 ≤ d ∧ d ≤ 2) ∧ (0 ≤ v ∧ v ≤ 3) ∧ (n' : Int) ≤ 6
      ·obtain ⟨⟨d1, d2⟩, ⟨d3, d4⟩, d5⟩ := hok
       go_wp2_with fail
       generalize wr.alloc (.cells #[.int .i64 d, .int .i64 v, .slice A' n' c'] 54) = W1 at hB1 hbf hM1 ⊢
       have f2 : W1.cell? ⟨wr.heap.size, 2, none⟩ = some (.slice A' n' c') := hbf.cell 2
       clear g0 g1 g2 k1
       go_loop [6] (fun i => ∃ t : Nat, t ≤ n' ∧ i = .int .i64 t ∧ Hid (∀ p ∈ M'.take t, mayP p)) (fun i => n' - (intOf i).toNat)
       case atStart => exact ⟨0, Nat.zero_le _, rfl, Lib.hid (fun p hp => by simp at hp)⟩
       case round =>
        obtain ⟨t, ht, rfl, HA3⟩ := hrel
        by_cases hlt2 : t < n'
        ·obtain ⟨b3, o3, A3, n3, c3, y, rfl, _, _, g3, hy, hye⟩ := hM1.at1 hlt2
         have j0 : (0 : Int) ≤ (t : Int) := by omega
         have j1 : (t : Int) < (n' : Int) := by omega
         have hT := hy.hasT
         clear hy
         by_cases hmy : mayP y
         ·have HM := Lib.hid hmy
          have HN := Lib.hid (mem_takeX hye.out hmy HA3.out)
          clear hmy
          go_wp2_with fail
          refine (refMay_yes hT HM.out).mono ?_
          rintro e w3 ⟨rfl, rfl⟩
          go_wp2_with fail
          go_round
          case rel => exact ⟨t + 1, by omega, by go_num, HN⟩
          case measure => simp [intOf]; omega
         ·have HM := Lib.hid hmy
          have H : Hid (decide (plainQ (G, F)) = false) := Lib.hid (by
           rw [decide_eq_false_iff_not, HI.out]
           intro h
           have h5 := h.2.2.2 _ (List.mem_of_getElem? he.out)
           rw [HIF.out] at h5
           exact hmy (h5.2.2.2 y (List.mem_of_getElem? hye.out)))
          have hB3 := hb0.trans (hB1.mono hz0)
          clear hmy
          go_wp2_with fail
          refine (refMay_no hT HM.out).mono ?_
          rintro e w3 ⟨rfl, rfl⟩
          go_wp2_with fail
          go_ret
          exact ⟨by rw [H.out]; rfl, hB3⟩
        ·have hpf : plainFl (d, v, M') := by
          rw [HIF.out]
          have h5 := HA3.out
          rw [List.take_of_length_le (by have := HLM.out; omega)] at h5
          exact ⟨⟨d1, d2⟩, ⟨d3, d4⟩, d5, h5⟩
         have HN := Lib.hid (mem_takeX he.out hpf HA2.out)
         clear hpf
         go_wp2_with fail
         go_roundw
         case rel => exact ⟨j + 1, by omega, by go_num, HN, hB1⟩
         case measure => simp [intOf]; omega
      ·have H : Hid (decide (plainQ (G, F)) = false) := Lib.hid (by
        rw [decide_eq_false_iff_not, HI.out]
        intro h
        have h5 := h.2.2.2 _ (List.mem_of_getElem? he.out)
        rw [HIF.out] at h5
        exact hok ⟨h5.1, h5.2.1, h5.2.2.1⟩)
       have hB3 := hb0.trans (hB1.mono hz0)
       have hc : d < 0 ∨ (0 ≤ d ∧ 2 < d) ∨ (0 ≤ d ∧ d ≤ 2 ∧ v < 0) ∨ (0 ≤ d ∧ d ≤ 2 ∧ 0 ≤ v ∧ 3 < v) ∨ (0 ≤ d ∧ d ≤ 2 ∧ 0 ≤ v ∧ v ≤ 3 ∧ (6 : Int) < (n' : Int)) := by omega
       clear hok
       rcases hc with d1 | ⟨d1, d2⟩ | ⟨d1, d2, d3⟩ | ⟨d1, d2, d3, d4⟩ | ⟨d1, d2, d3, d4, d5⟩
       all_goals
        go_wp2_with fail
        go_ret
        exact ⟨by rw [H.out]; rfl, hB3⟩
     ·have H : Hid (decide (plainQ (G, F)) = true) := Lib.hid (by
       have h5 := HA2.out
       rw [List.take_of_length_le (by have := HF.out; omega)] at h5
       rw [decide_eq_true_iff, HI.out]
       exact ⟨h3, h4, HGA.out, h5⟩)
      have hB3 := hb0.trans (hB.mono hz0)
      go_wp2_with fail
      go_ret
      exact ⟨by rw [H.out]; rfl, hB3⟩
 ·have H : Hid (decide (plainQ (G, F)) = false) := Lib.hid (by
   rw [decide_eq_false_iff_not, HI.out]
   exact fun h => h34 ⟨h.1, h.2.1⟩)
  have hc : (3 : Int) < (n1 : Int) ∨ ((n1 : Int) ≤ 3 ∧ (3 : Int) < (n2 : Int)) := by omega
  clear h34
  rcases hc with d1 | ⟨d1, d2⟩
  all_goals
   go_enter Try.func41, Try.ntmps41
   go_wp2_with fail
   go_ret
   exact ⟨by rw [H.out]; rfl, hb0⟩
end Go.Proofs.Ytmcccpbpijnbmaa
