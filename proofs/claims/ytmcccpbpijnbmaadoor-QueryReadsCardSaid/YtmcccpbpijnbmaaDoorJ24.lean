/- SchemaB -/
import Derived.Test.YtmcccpbpijnbmaaDoorJ12
import Derived.Test.YtmcccpbpijnbmaaDoorJ14
namespace Go.Proofs.YtmcccpbpijnbmaaDoor
set_option maxRecDepth 100000
open Go.RowKit

theorem base_snoc {D : List PDim} {k : Nat} {x : Txt} {L : List Txt} {n : Nat} (hk : k < D.length) (h : D.getD k zeroD = (x, L)) (hn : L.length = n) : (baseP D).take k ++ [(n : Int)] = (baseP D).take (k + 1) := by
 have h1 : (baseP D).getD k 0 = (n : Int) := by rw [baseP_get hk, h, ← hn]
 have h2 : k < (baseP D).length := by rw [baseP_len]; exact hk
 rw [List.take_add_one, ← h1, List.getD_eq_getElem?_getD, List.getElem?_eq_getElem h2]
 rfl
theorem base_all {D : List PDim} {k : Nat} (hk : D.length ≤ k) : (baseP D).take k = baseP D := List.take_of_length_le (by rw [baseP_len]; exact hk)
set_option maxRecDepth 100000 in
set_option maxHeartbeats 1000000 in
theorem base_any {A1 A2 A3 : Option Addr} {n1 c1 n2 c2 n3 c3 : Nat} {D : List PDim} {w : World} (h : HasDs w w.heap.size A1 n1 c1 D) (hn : n1 ≤ 1000) :
  Calls Tryd.prog 66 #[schV A1 n1 c1 A2 n2 c2 A3 n3 c3] w (TellJ w (baseP D)) := by
 have HL := Lib.hid h.len
 have hb0 := below_a1 w (.cells #[.slice A1 n1 c1, .slice A2 n2 c2, .slice A3 n3 c3] 44)
 have h1 := h.belowS hb0
 clear h
 go_enter Tryd.func66, Tryd.ntmps66
 go_wp2_with fail
 generalize w.alloc (.cells #[.slice A1 n1 c1, .slice A2 n2 c2, .slice A3 n3 c3] 44) = w1 at hb0 h1 ⊢
 go_loopw [3, 9] (fun v i wr => ∃ k : Nat, k ≤ n1 ∧ i = .int .i64 k ∧ OwnI wr w1.heap.size v ((baseP D).take k) ∧ Below w1.heap.size w1 wr) (fun _ i _ => n1 - (intOf i).toNat)
 case atStart => exact ⟨0, Nat.zero_le _, rfl, OwnI.nil_ w1 _, Below.refl _ _⟩
 case round =>
  obtain ⟨k, hk, rfl, hO, hB⟩ := hrel
  by_cases hlt : k < n1
  ·obtain ⟨b, o, x, A', n', c', L, rfl, hb, g0, g1, hT, he⟩ := (h1.below hB (Nat.le_refl _)).at_ hlt
   have i0 : (0 : Int) ≤ (k : Int) := by omega
   have i1 : (k : Int) < (n1 : Int) := by omega
   have hz := hB.size
   have hlb : Hid (((baseP D).take k).length ≤ 1000000) := Lib.hid (Nat.le_trans (List.length_take_le k _) (by omega))
   have HT := Lib.hid (base_snoc (by have := HL.out; omega) he.out hT.len)
   have hlo := fun g e => (hO.lt g e).1
   have hB1 := hB.alloc hz (.cells #[.string ⟨x.toArray⟩, .slice A' n' c'] 65)
   have hO1 := (hO.alloc (.cells #[.string ⟨x.toArray⟩, .slice A' n' c'] 65)).alloc (.cells #[.int .i64 (n' : Int)] 3)
   have hz1 := hB1.size
   clear hT
   go_wp2_with (at_builtin; refine wpList_appI rfl _ _ rfl w1.heap.size _ _ rfl hO1 _ rfl (n' : Int) (cell_lit _ _ _ _ (by simp)) hlb.out (by rw [World.size_alloc]; omega) ?_)
   intro v' w2 hO2 hG2
   have hB2 := Lib.hid ((hB1.alloc hz1 (.cells #[.int .i64 (n' : Int)] 3)).trans (hG2.below_ (by rw [World.size_alloc]; omega) hlo))
   rw [HT.out] at hO2
   have hO3 := Lib.hid hO2
   clear hO hO1 hO2 hG2 hlo hB hB1 g0 g1
   go_wp2_with fail
   go_roundw
   case rel => exact ⟨k + 1, by omega, by go_num, hO3.out, hB2.out⟩
   case measure => simp [intOf]; omega
  ·have H := Lib.hid (base_all (D := D) (k := k) (by have := HL.out; omega))
   rw [H.out] at hO
   have HO := Lib.hid (hO.low hb0.size)
   have HB := below_then hb0 hB
   clear hO
   go_wp2
   go_ret
   exact ⟨⟨_, rfl, HO.out⟩, HB⟩
/-! ### A corner -/
theorem corner_no {D : List PDim} {v : List Int} {k : Nat} {y : Int} {x : Txt} {L : List Txt} {n : Nat} (hk : k < v.length) (hv : y = v.getD k 0) (h : D.getD k zeroD = (x, L)) (hn : L.length = n) (hy : y < 0 ∨ (n : Int) < y) : decide (cornerP D v) = false := by
 rw [decide_eq_false_iff_not]
 intro hc
 have := hc.2 k hk
 rw [h, ← hv] at this
 have h2 : ((L.length : Nat) : Int) = n := by rw [hn]
 have h3 : y ≤ (L.length : Int) := this.2
 omega
theorem corner_step {D : List PDim} {v : List Int} {k : Nat} {y : Int} {x : Txt} {L : List Txt} {n : Nat} (ht : ∀ i, i < k → 0 ≤ v.getD i 0 ∧ v.getD i 0 ≤ (((D.getD i zeroD).2.length : Nat) : Int)) (hv : y = v.getD k 0) (h : D.getD k zeroD = (x, L)) (hn : L.length = n) (h0 : ¬ y < 0) (h1 : ¬ (n : Int) < y) :
  ∀ i, i < k + 1 → 0 ≤ v.getD i 0 ∧ v.getD i 0 ≤ (((D.getD i zeroD).2.length : Nat) : Int) := fun i hi => by
 by_cases hik : i < k
 ·exact ht i hik
 ·obtain rfl : i = k := by omega
  rw [h, ← hv]
  have h2 : ((L.length : Nat) : Int) = n := by rw [hn]
  exact ⟨by omega, show y ≤ (L.length : Int) by omega⟩
theorem corner_yes {D : List PDim} {v : List Int} {k : Nat} (hl : v.length = D.length) (hk : v.length ≤ k) (ht : ∀ i, i < k → 0 ≤ v.getD i 0 ∧ v.getD i 0 ≤ (((D.getD i zeroD).2.length : Nat) : Int)) : decide (cornerP D v) = true := by
 rw [decide_eq_true_eq]
 exact ⟨hl, fun i hi => ht i (by omega)⟩
theorem corner_len {D : List PDim} {v : List Int} (hl : v.length ≠ D.length) : decide (cornerP D v) = false := by
 rw [decide_eq_false_iff_not]
 intro h
 exact hl h.1
set_option maxRecDepth 100000 in
set_option maxHeartbeats 1000000 in
theorem corner_any {A1 A2 A3 A : Option Addr} {n1 c1 n2 c2 n3 c3 n c : Nat} {D : List PDim} {v : List Int} {w : World} (h : HasDs w w.heap.size A1 n1 c1 D) (hv : HasI w w.heap.size A n c v) :
  Calls Tryd.prog 52 #[schV A1 n1 c1 A2 n2 c2 A3 n3 c3, .slice A n c] w fun e w' => e = .returned (.bool (decide (cornerP D v))) ∧ Below w.heap.size w w' := by
 have hn1 := h.lenMax
 have HL := Lib.hid h.len
 have HV := Lib.hid hv.len
 have hb0 := below_a1 w (.cells #[.slice A1 n1 c1, .slice A2 n2 c2, .slice A3 n3 c3] 44)
 have h1 := h.belowS hb0
 have hv1 := hv.belowS hb0
 have hS := Block.new w 44 #[.slice A1 n1 c1, .slice A2 n2 c2, .slice A3 n3 c3]
 have hn := hv.lenMax
 clear h hv
 by_cases he : n = n1
 ·subst he
  have hne : ((n : Int) != (n : Int)) = false := by simp
  go_enter Tryd.func52, Tryd.ntmps52
  go_wp2_with fail
  generalize w.alloc (.cells #[.slice A1 n c1, .slice A2 n2 c2, .slice A3 n3 c3] 44) = w1 at hb0 h1 hv1 hS ⊢
  clear hne
  have s0 : w1.cell? ⟨w.heap.size, 0, none⟩ = some (.slice A1 n c1) := hS.cell 0
  go_loop [15] (fun i => ∃ k : Nat, k ≤ n ∧ i = .int .i64 k ∧ Hid (∀ i, i < k → 0 ≤ v.getD i 0 ∧ v.getD i 0 ≤ (((D.getD i zeroD).2.length : Nat) : Int))) (fun i => n - (intOf i).toNat)
  case atStart => exact ⟨0, Nat.zero_le _, rfl, Lib.hid fun i hi => absurd hi (by omega)⟩
  case round =>
   obtain ⟨k, hk, rfl, ht⟩ := hrel
   by_cases hlt : k < n
   ·obtain ⟨b, o, x, A', n', c', L, rfl, hb, g0, g1, hT, he⟩ := h1.at_ hlt
    obtain ⟨b2, o2, y, rfl, hb2, g2, ey⟩ := hv1.at_ hlt
    have i0 : (0 : Int) ≤ (k : Int) := by omega
    have i1 : (k : Int) < (n : Int) := by omega
    by_cases hy : y < 0
    ·have H := Lib.hid (corner_no (by have := HV.out; omega) ey.out he.out hT.len (.inl hy))
     clear hT
     go_wp2
     go_ret
     exact ⟨bool_of H.out.symm, hb0⟩
    ·by_cases hy2 : (n' : Int) < y
     ·have H := Lib.hid (corner_no (by have := HV.out; omega) ey.out he.out hT.len (.inr hy2))
      clear hT
      go_wp2
      go_ret
      exact ⟨bool_of H.out.symm, hb0⟩
     ·have H := Lib.hid (corner_step ht.out ey.out he.out hT.len hy hy2)
      clear hT
      go_wp2
      go_round
      case rel => exact ⟨k + 1, by omega, by go_num, H⟩
      case measure => simp [intOf]; omega
   ·have H := Lib.hid (corner_yes (D := D) (v := v) (k := k) (by rw [HV.out, HL.out]) (by have := HV.out; omega) ht.out)
    go_wp2
    go_ret
    exact ⟨bool_of H.out.symm, hb0⟩
 ·have hne : ((n : Int) != (n1 : Int)) = true := by simp; omega
  have H := Lib.hid (corner_len (D := D) (v := v) (by rw [HV.out, HL.out]; exact he))
  go_enter Tryd.func52, Tryd.ntmps52
  go_wp2
  go_ret
  exact ⟨bool_of H.out.symm, hb0⟩
end Go.Proofs.YtmcccpbpijnbmaaDoor
