/- LatL -/
import Derived.Test.YtmepdkdeanbbaaaGreatJ16
import Derived.Test.YtmepdkdeanbbaaaGreatJ19
import Derived.BigQuiet
import Derived.Deep.QuietTactic
namespace Go.Proofs.YtmepdkdeanbbaaaGreat
set_option maxRecDepth 100000
open Go.RowKit

set_option maxRecDepth 100000 in
set_option maxHeartbeats 1000000 in
theorem compareF_any {S S' : Nat → Prop} {A A' : Option Addr} {n c n' c' : Nat} {K K' : PKey} {w : World} (h : Row elPathR 1 w S A n c K) (h' : Row elPathR 1 w S' A' n' c' K') {x : Int} (hx : Hid (cmpL K K' = x)) :
  Calls Tryz.prog 79 #[.slice A n c, .slice A' n' c', .func (.func 80) #[] #[]] w fun e w' => e = .returned (.int .i64 x) ∧ w = w' := by
 have hn := h.lenMax
 have hn' := h'.lenMax
 have HL := Lib.hid h.len
 have HL' := Lib.hid h'.len
 have HR := Lib.hid h
 have HR' := Lib.hid h'
 clear h h'
 go_enter Tryz.func79, Tryz.ntmps79
 go_wp2_with fail
 go_loop [13] (fun i => ∃ k : Nat, k ≤ n ∧ k ≤ n' ∧ i = .int .i64 k ∧ Hid (K.take k = K'.take k)) (fun i => n - (intOf i).toNat)
 case atStart => exact ⟨0, Nat.zero_le _, Nat.zero_le _, rfl, Lib.hid rfl⟩
 case round =>
  obtain ⟨k, hk, hk', rfl, ht⟩ := hrel
  by_cases hlt : k < n
  ·obtain ⟨b, o, B, m, d, p, rfl, _, _, g0, hp, he⟩ := HR.out.at1 hlt
   have i0 : (0 : Int) ≤ (k : Int) := by omega
   have i1 : (k : Int) < (n : Int) := by omega
   by_cases hlt' : k < n'
   ·obtain ⟨b', o', B', m', d', q, rfl, _, _, g0', hq, he'⟩ := HR'.out.at1 hlt'
    have i2 : (k : Int) < (n' : Int) := by omega
    obtain ⟨r, hr⟩ : ∃ r, Hid (cmpP p q = r) := ⟨_, Lib.hid rfl⟩
    have hc := cmpT_any hp.hasT hq.hasT
    rw [hr.out] at hc
    have HC := Lib.hid hc
    clear hc hp hq
    by_cases h0 : r = 0
    ·have hT := Lib.hid (cmpL_more ht.out he.out he'.out (by rw [hr.out, h0]))
     subst h0
     go_wp2_with fail
     refine HC.out.mono ?_
     rintro e w1 ⟨rfl, rfl⟩
     go_wp2_with fail
     go_round
     case rel => exact ⟨k + 1, by omega, by omega, by go_num, hT⟩
     case measure => simp [intOf]; omega
    ·have hT := Lib.hid (cmpL_at ht.out he.out he'.out (by rw [hr.out]; exact h0))
     have e0 : (r != 0) = true := by simpa using h0
     obtain rfl := hx.out.symm.trans (hT.out.trans hr.out)
     clear h0
     go_wp2_with fail
     refine HC.out.mono ?_
     rintro e w1 ⟨rfl, rfl⟩
     go_wp2_with fail
     go_ret
     exact ⟨rfl, rfl⟩
   ·have hT := cmpL_end ht.out (by have := HL.out; omega) (by have := HL'.out; omega) (.inr (by have := HL'.out; omega))
    rw [HL.out, HL'.out, if_neg (by omega), if_pos (by omega), hx.out] at hT
    subst hT
    have i2 : (n' : Int) ≤ (k : Int) := by omega
    clear hlt'
    go_wp2_with fail
    go_ret
    exact ⟨rfl, rfl⟩
  ·have hT := cmpL_end ht.out (by have := HL.out; omega) (by have := HL'.out; omega) (.inl (by have := HL.out; omega))
   rw [HL.out, HL'.out, hx.out] at hT
   by_cases h1 : n < n'
   ·rw [if_pos h1] at hT
    subst hT
    have i2 : (n : Int) < (n' : Int) := by omega
    go_wp2_with fail
    go_ret
    exact ⟨rfl, rfl⟩
   ·rw [if_neg h1, if_neg (by omega)] at hT
    subst hT
    have i2 : ¬ (n : Int) < (n' : Int) := by omega
    clear h1
    go_wp2_with fail
    go_ret
    exact ⟨rfl, rfl⟩
theorem cmpL_any {S S' : Nat → Prop} {A A' : Option Addr} {n c n' c' : Nat} {K K' : PKey} {w : World} (h : Row elPathR 1 w S A n c K) (h' : Row elPathR 1 w S' A' n' c' K') {x : Int} (hx : Hid (cmpL K K' = x)) :
  Calls Tryz.prog 34 #[.slice A n c, .slice A' n' c'] w fun e w' => e = .returned (.int .i64 x) ∧ w = w' := by
 have HC := Lib.hid (compareF_any h h' hx)
 clear h h' hx
 go_enter Tryz.func34, Tryz.ntmps34
 go_wp2_with fail
 refine HC.out.mono ?_
 rintro e w1 ⟨rfl, rfl⟩
 go_wp2_with fail
 go_ret
 exact ⟨rfl, rfl⟩
set_option maxRecDepth 100000 in
set_option maxHeartbeats 1000000 in
theorem refCmpL_any {S S' : Nat → Prop} {A A' : Option Addr} {n c n' c' : Nat} {K K' : PKey} {w : World} (h : Row elPathR 1 w S A n c K) (h' : Row elPathR 1 w S' A' n' c' K') {x : Int} (hx : Hid (cmpL K K' = x)) :
  Calls Tryz.prog 35 #[.slice A n c, .slice A' n' c'] w fun e w' => e = .returned (.int .i64 x) ∧ ∃ k, w' = w.drewN k := by
 have hn := h.lenMax
 have hn' := h'.lenMax
 have HL := Lib.hid h.len
 have HL' := Lib.hid h'.len
 have HR := Lib.hid h
 have HR' := Lib.hid h'
 clear h h'
 go_enter Tryz.func35, Tryz.ntmps35
 go_wp2_with fail
 go_loopw [5] (fun i wr => ∃ k : Nat, k ≤ n ∧ k ≤ n' ∧ i = .int .i64 k ∧ Hid (∃ q, wr = w.drewN q) ∧ Hid (K.take k = K'.take k)) (fun i _ => n - (intOf i).toNat)
 case atStart => exact ⟨0, Nat.zero_le _, Nat.zero_le _, rfl, Lib.hid ⟨0, rfl⟩, Lib.hid rfl⟩
 case round =>
  obtain ⟨k, hk, hk', rfl, hW, ht⟩ := hrel
  have HRr : Hid (Row elPathR 1 wr S A n c K ∧ Row elPathR 1 wr S' A' n' c' K') := by
   obtain ⟨q, rfl⟩ := hW.out
   exact Lib.hid ⟨HR.out.mv elPathR_ok (Mv.drewN w q S), HR'.out.mv elPathR_ok (Mv.drewN w q S')⟩
  by_cases hlt : k < n ∧ k < n'
  ·obtain ⟨hl1, hl2⟩ := hlt
   obtain ⟨b, o, B, m, d, p, rfl, _, _, g0, hp, he⟩ := HRr.out.1.at1 hl1
   obtain ⟨b', o', B', m', d', p', rfl, _, _, g0', hq, he'⟩ := HRr.out.2.at1 hl2
   have i0 : (0 : Int) ≤ (k : Int) := by omega
   have i1 : (k : Int) < (n : Int) := by omega
   have i2 : (k : Int) < (n' : Int) := by omega
   obtain ⟨r, hr⟩ : ∃ r, Hid (cmpP p p' = r) := ⟨_, Lib.hid rfl⟩
   have hc := fun j => refCmp_any (w := wr.drewN j) (hp.hasT.drewN j) (hq.hasT.drewN j)
   rw [hr.out] at hc
   have HC := Lib.hid hc
   clear hc hp hq
   by_cases h0 : r = 0
   ·have hT := Lib.hid (cmpL_more ht.out he.out he'.out (by rw [hr.out, h0]))
    subst h0
    go_wp2_with fail
    go_quiet ((go_at_call 81; exact Calls.quiet_of (HC.out _)))
    go_wp2_with fail
    go_roundw
    case rel => exact ⟨k + 1, by omega, by omega, by go_num, by obtain ⟨q, rfl⟩ := hW.out; exact Lib.hid ⟨q + nq, World.drewN_drewN _ _ _⟩, hT⟩
    case measure => simp [intOf]; omega
   ·have hT := Lib.hid (cmpL_at ht.out he.out he'.out (by rw [hr.out]; exact h0))
    have e0 : (r != 0) = true := by simpa using h0
    obtain rfl := hx.out.symm.trans (hT.out.trans hr.out)
    clear h0
    go_wp2_with fail
    go_quiet ((go_at_call 81; exact Calls.quiet_of (HC.out _)))
    go_wp2_with fail
    go_ret
    obtain ⟨q, rfl⟩ := hW.out
    exact ⟨rfl, q + nq, World.drewN_drewN _ _ _⟩
  ·have hT := cmpL_end ht.out (by have := HL.out; omega) (by have := HL'.out; omega) (by have := HL.out; have := HL'.out; omega)
   rw [HL.out, HL'.out, hx.out] at hT
   have hd : ¬ (k : Int) < (n : Int) ∨ ((k : Int) < (n : Int) ∧ ¬ (k : Int) < (n' : Int)) := by omega
   clear hlt
   by_cases h1 : n < n'
   ·rw [if_pos h1] at hT
    subst hT
    have i2 : (n : Int) < (n' : Int) := by omega
    clear h1
    rcases hd with hd | ⟨hd, hd'⟩
    all_goals
     go_wp2_with fail
     go_ret
     exact ⟨rfl, hW.out⟩
   ·rw [if_neg h1] at hT
    by_cases h2 : n' < n
    ·rw [if_pos h2] at hT
     subst hT
     have i2 : ¬ (n : Int) < (n' : Int) := by omega
     have i3 : (n' : Int) < (n : Int) := by omega
     clear h1 h2
     rcases hd with hd | ⟨hd, hd'⟩
     all_goals
      go_wp2_with fail
      go_ret
      exact ⟨rfl, hW.out⟩
    ·rw [if_neg h2] at hT
     subst hT
     have i2 : ¬ (n : Int) < (n' : Int) := by omega
     have i3 : ¬ (n' : Int) < (n : Int) := by omega
     clear h1 h2
     rcases hd with hd | ⟨hd, hd'⟩
     all_goals
      go_wp2_with fail
      go_ret
      exact ⟨rfl, hW.out⟩
end Go.Proofs.YtmepdkdeanbbaaaGreat
