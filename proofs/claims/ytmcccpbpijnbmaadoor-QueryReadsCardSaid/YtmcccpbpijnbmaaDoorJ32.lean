/- BatchC, BatchL, BatchG, QryR, QryI -/
import Derived.Test.YtmcccpbpijnbmaaDoorJ7
import Derived.Test.YtmcccpbpijnbmaaDoorJ20
import Derived.Test.YtmcccpbpijnbmaaDoorJ26
import Derived.Test.YtmcccpbpijnbmaaDoorJ30
import Derived.BigQuiet
import Derived.Deep.QuietTactic
import Derived.Deep.RegionHeld3
namespace Go.Proofs.YtmcccpbpijnbmaaDoor
set_option maxRecDepth 100000
open Go.RowKit

theorem OwnR.el0 {α : Type} {E : ElT α} {T : TypeId} {sz B : Nat} {w : World} {v : Value} {L : List α} (h : OwnR E T sz w B (fun k => B ≤ k) v L) : elOwn E T sz w (fun k => B ≤ k) [v] L :=
 ⟨v, rfl, h.low (Nat.zero_le _), fun k hk => (h.lt k hk).1⟩
end Go.Proofs.YtmcccpbpijnbmaaDoor
namespace Go.Proofs.YtmcccpbpijnbmaaDoor
set_option maxRecDepth 100000
open Go.RowKit

end Go.Proofs.YtmcccpbpijnbmaaDoor
namespace Go.Proofs.YtmcccpbpijnbmaaDoor
set_option maxRecDepth 100000
open Go.RowKit

theorem takeX_same {α : Type} {L L' : List α} {k : Nat} {x : α} (h : L.take k = L'.take k) (h1 : L[k]? = some x) (h2 : L'[k]? = some x) : L.take (k + 1) = L'.take (k + 1) := by
 rw [List.take_add_one, List.take_add_one, h, h1, h2]
theorem takeX_ne {α : Type} {L L' : List α} {k : Nat} {x y : α} (h1 : L[k]? = some x) (h2 : L'[k]? = some y) (hne : x ≠ y) : L ≠ L' := by
 intro e
 subst e
 rw [h1] at h2
 injection h2 with h2
 exact hne h2
theorem sameTx_yes {w : World} {S S' : Nat → Prop} {A A' : Option Addr} {n c n' c' : Nat} {L : List Txt} (hr : Row elText 1 w S A n c L) (hr' : Row elText 1 w S' A' n' c' L) (k : Nat) :
  Calls Tryd.prog 40 #[.slice A n c, .slice A' n' c'] (w.drewN k) fun e w' => e = .returned (.bool true) ∧ ∃ k', w' = (w.drewN k).drewN k' := by
 have := sameT_any (hr.hasT.drewN k) (hr'.hasT.drewN k)
 rwa [decide_eq_true rfl] at this
theorem sameTx_no {w : World} {S S' : Nat → Prop} {A A' : Option Addr} {n c n' c' : Nat} {L L' : List Txt} (hne : Hid (L ≠ L')) (hr : Row elText 1 w S A n c L) (hr' : Row elText 1 w S' A' n' c' L') (k : Nat) :
  Calls Tryd.prog 40 #[.slice A n c, .slice A' n' c'] (w.drewN k) fun e w' => e = .returned (.bool false) ∧ ∃ k', w' = (w.drewN k).drewN k' := by
 have := sameT_any (hr.hasT.drewN k) (hr'.hasT.drewN k)
 rwa [decide_eq_false hne.out] at this
end Go.Proofs.YtmcccpbpijnbmaaDoor
namespace Go.Proofs.YtmcccpbpijnbmaaDoor
set_option maxRecDepth 100000
open Go.RowKit

set_option maxHeartbeats 2000000 in
theorem samePs_any {S S' : Nat → Prop} {A A' : Option Addr} {n c n' c' : Nat} {L L' : List (List Txt)} {w : World} (h : Row (elRow elText 1) 1 w S A n c L) (h' : Row (elRow elText 1) 1 w S' A' n' c' L') :
  Calls Tryd.prog 26 #[.slice A n c, .slice A' n' c'] w fun e w' => e = .returned (.bool (decide (L = L'))) ∧ ∃ k, w' = w.drewN k := by
 have hn := h.lenMax
 have hll := h.len
 have hll' := h'.len
 by_cases hnn : n = n'
 ·subst hnn
  have hne : ((n : Int) != (n : Int)) = false := by simp
  have HL := Lib.hid hll
  have HL' := Lib.hid hll'
  clear hll hll'
  go_enter Tryd.func26, Tryd.ntmps26
  go_wp2_with fail
  clear hne
  go_loopw [5] (fun i wr => ∃ k q : Nat, k ≤ n ∧ i = .int .i64 k ∧ wr = w.drewN q ∧ Hid (L.take k = L'.take k)) (fun i _ => n - (intOf i).toNat)
  case atStart => exact ⟨0, 0, Nat.zero_le _, rfl, rfl, Lib.hid rfl⟩
  case round =>
   obtain ⟨k, r, hk, rfl, hwr, ht⟩ := hrel
   have h1 : Row (elRow elText 1) 1 wr S A n c L := by rw [hwr]; exact h.mv elPath_ok (Mv.drewN w r S)
   have h1' : Row (elRow elText 1) 1 wr S' A' n c' L' := by rw [hwr]; exact h'.mv elPath_ok (Mv.drewN w r S')
   have HWR := Lib.hid hwr
   clear hwr
   by_cases hlt : k < n
   ·obtain ⟨d, u, B1, m1, d1, x, rfl, _, _, j0, hx, hxe⟩ := h1.at1 hlt
    obtain ⟨d', u', B1', m1', d1', x', rfl, _, _, j0', hx', hxe'⟩ := h1'.at1 hlt
    have i0 : (0 : Int) ≤ (k : Int) := by omega
    have i1 : (k : Int) < (n : Int) := by omega
    clear h1 h1'
    by_cases hxx : x = x'
    ·subst hxx
     have HT := Lib.hid (takeX_same ht.out hxe.out hxe'.out)
     go_wp2_with fail
     go_quiet ((go_at_call 40; exact Calls.quiet_of (sameTx_yes hx hx' _)))
     go_wp2_with fail
     go_roundw
     case rel => exact ⟨k + 1, r + nq, by omega, by go_num, by rw [HWR.out, World.drewN_drewN], HT⟩
     case measure => simp [intOf]; omega
    ·have HX := Lib.hid hxx
     have H : Hid (decide (L = L') = false) := Lib.hid (by
      rw [decide_eq_false_iff_not]
      exact takeX_ne hxe.out hxe'.out HX.out)
     clear hxx
     go_wp2_with fail
     go_quiet ((go_at_call 40; exact Calls.quiet_of (sameTx_no HX hx hx' _)))
     go_wp2_with fail
     go_ret
     exact ⟨by rw [H.out]; rfl, _, by rw [HWR.out, World.drewN_drewN]⟩
   ·have H : Hid (decide (L = L') = true) := Lib.hid (by
     have h1 := ht.out
     rw [List.take_of_length_le (by have := HL.out; omega), List.take_of_length_le (by have := HL'.out; omega)] at h1
     rw [decide_eq_true_iff]
     exact h1)
    go_wp2_with fail
    go_ret
    exact ⟨by rw [H.out]; rfl, _, HWR.out⟩
 ·have hne : ((n : Int) != (n' : Int)) = true := by simp; omega
  have H : Hid (decide (L = L') = false) := Lib.hid (by
   rw [decide_eq_false_iff_not]
   intro e
   subst e
   omega)
  go_enter Tryd.func26, Tryd.ntmps26
  go_wp2_with fail
  go_ret
  exact ⟨by rw [H.out]; rfl, 0, rfl⟩
theorem samePs_yes {w : World} {S S' : Nat → Prop} {A A' : Option Addr} {n c n' c' : Nat} {L : List (List Txt)} (h : Row (elRow elText 1) 1 w S A n c L) (h' : Row (elRow elText 1) 1 w S' A' n' c' L) (k : Nat) :
  Calls Tryd.prog 26 #[.slice A n c, .slice A' n' c'] (w.drewN k) fun e w' => e = .returned (.bool true) ∧ ∃ k', w' = (w.drewN k).drewN k' := by
 have := samePs_any (h.mv elPath_ok (Mv.drewN w k S)) (h'.mv elPath_ok (Mv.drewN w k S'))
 rwa [decide_eq_true rfl] at this
end Go.Proofs.YtmcccpbpijnbmaaDoor
namespace Go.Proofs.YtmcccpbpijnbmaaDoor
set_option maxRecDepth 100000
open Go.RowKit

set_option maxHeartbeats 4000000 in
theorem sameQ_yes {S S' : Nat → Prop} {A1 A2 B1 B2 : Option Addr} {n1 c1 n2 c2 m1 d1 m2 d2 : Nat} {q : Qry} {w : World} (h : HasQ w S A1 n1 c1 A2 n2 c2 q) (h' : HasQ w S' B1 m1 d1 B2 m2 d2 q) :
  Calls Tryd.prog 8 #[qryV A1 n1 c1 A2 n2 c2, qryV B1 m1 d1 B2 m2 d2] w fun e w' => e = .returned (.bool true) ∧ Below w.heap.size w w' := by
 obtain rfl : n2 = m2 := by have h1 := h.f.len; have h2 := h'.f.len; omega
 have hnm := h.f.lenMax
 obtain ⟨hb0, hbs, hbl⟩ := boxes2 w 32 32 #[.slice A1 n1 c1, .slice A2 n2 c2] #[.slice B1 m1 d1, .slice B2 n2 d2]
 have h0 := h.belowS hb0
 have h0' := h'.belowS hb0
 have hne : ((n2 : Int) != (n2 : Int)) = false := by simp
 clear h h'
 go_enter Tryd.func8, Tryd.ntmps8
 go_wp2_with fail
 generalize (w.alloc (.cells #[.slice A1 n1 c1, .slice A2 n2 c2] 32)).alloc (.cells #[.slice B1 m1 d1, .slice B2 n2 d2] 32) = W at hb0 hbs hbl h0 h0' ⊢
 have s0 : W.cell? ⟨w.heap.size, 0, none⟩ = some (.slice A1 n1 c1) := hbs.cell 0
 have s1 : W.cell? ⟨w.heap.size, 1, none⟩ = some (.slice A2 n2 c2) := hbs.cell 1
 have k0 : W.cell? ⟨w.heap.size + 1, 0, none⟩ = some (.slice B1 m1 d1) := hbl.cell 0
 have k1 : W.cell? ⟨w.heap.size + 1, 1, none⟩ = some (.slice B2 n2 d2) := hbl.cell 1
 have HG := sameI_any h0.g.hasI h0'.g.hasI
 rw [decide_eq_true rfl] at HG
 have HG := Lib.hid HG
 go_wp2_with fail
 refine HG.out.mono ?_
 rintro e w2 ⟨rfl, t0, rfl⟩
 clear HG
 go_wp2_with fail
 clear hne s0 k0
 go_loopw [6] (fun i wr => ∃ k t : Nat, k ≤ n2 ∧ i = .int .i64 k ∧ wr = W.drewN t) (fun i _ => n2 - (intOf i).toNat)
 case atStart => exact ⟨0, t0, Nat.zero_le _, rfl, rfl⟩
 case round =>
  obtain ⟨k, t, hk, rfl, hwr⟩ := hrel
  have hf : Row elFil 3 wr S A2 n2 c2 q.2 := by rw [hwr]; exact h0.f.mv elFil_ok (Mv.drewN W t _)
  have hf' : Row elFil 3 wr S' B2 n2 d2 q.2 := by rw [hwr]; exact h0'.f.mv elFil_ok (Mv.drewN W t _)
  have x1 : wr.cell? ⟨w.heap.size, 1, none⟩ = some (.slice A2 n2 c2) := by rw [hwr]; exact s1
  have y1 : wr.cell? ⟨w.heap.size + 1, 1, none⟩ = some (.slice B2 n2 d2) := by rw [hwr]; exact k1
  have HWR := Lib.hid hwr
  clear hwr
  by_cases hlt : k < n2
  ·obtain ⟨b, o, d, v, A', n', c', M', rfl, _, _, g0, g1, g2, hM, he⟩ := hf.atF hlt
   obtain ⟨b2, o2, dx, vx, A'', n'', c'', M'', rfl, _, _, g0', g1', g2', hM', he'⟩ := hf'.atF hlt
   have hee := he.out.symm.trans he'.out
   simp only [Option.some.injEq, Prod.mk.injEq] at hee
   obtain ⟨r1, r2, r3⟩ := hee
   subst r1 r2 r3
   have i0 : (0 : Int) ≤ (k : Int) := by omega
   have i1 : (k : Int) < (n2 : Int) := by omega
   have e1 : ((d : Int) != d) = false := by simp
   have e2 : ((v : Int) != v) = false := by simp
   clear he he' hf hf'
   go_wp2_with fail
   go_quiet ((go_at_call 26; exact Calls.quiet_of (samePs_yes hM hM' _)))
   go_wp2_with fail
   go_big_quiet (fail)
   go_wp2_with fail
   go_roundw
   case rel => exact ⟨k + 1, _, by omega, by go_num, by rw [HWR.out, World.drewN_drewN]⟩
   case measure => simp [intOf]; omega
  ·have hB : Below w.heap.size w wr := by rw [HWR.out]; exact below_drewN hb0 t
   clear hf hf'
   go_wp2_with fail
   go_ret
   exact ⟨rfl, hB⟩
end Go.Proofs.YtmcccpbpijnbmaaDoor
