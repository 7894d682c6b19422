/- BatchG -/
import Derived.Test.YtfddaegepmdohaaJ11
import Derived.Test.YtfddaegepmdohaaJ19
import Derived.Test.YtfddaegepmdohaaJ24
import Derived.BigQuiet
import Derived.Deep.QuietTactic
namespace Go.Proofs.Ytfddaegepmdohaa
set_option maxRecDepth 100000
open Go.RowKit

theorem takeX_same {α : Type} {L L' : List α} {k : Nat} {x : α} (h : L.take k = L'.take k) (h1 : L[k]? = some x) (h2 : L'[k]? = some x) : L.take (k + 1) = L'.take (k + 1) := by
  rw [List.take_add_one, List.take_add_one, h, h1, h2]
theorem takeX_ne {α : Type} {L L' : List α} {k : Nat} {x y : α} (h1 : L[k]? = some x) (h2 : L'[k]? = some y) (hne : x ≠ y) : L ≠ L' := by
  intro e
  subst e
  rw [h1] at h2
  injection h2 with h2
  exact hne h2
theorem sameI_yes {w : World} {S S' : Nat → Prop} {A A' : Option Addr} {n c n' c' : Nat} {L : List Int} (hr : Row elInt 1 w S A n c L) (hr' : Row elInt 1 w S' A' n' c' L) (k : Nat) :
    Calls Try.prog 10 #[.slice A n c, .slice A' n' c'] (w.drewN k) fun e w' => e = .returned (.bool true) ∧ ∃ k', w' = (w.drewN k).drewN k' := by
  have := sameI_any (hr.hasI.drewN k) (hr'.hasI.drewN k)
  rwa [decide_eq_true rfl] at this
theorem sameI_no {w : World} {S S' : Nat → Prop} {A A' : Option Addr} {n c n' c' : Nat} {L L' : List Int} (hne : Hid (L ≠ L')) (hr : Row elInt 1 w S A n c L) (hr' : Row elInt 1 w S' A' n' c' L') (k : Nat) :
    Calls Try.prog 10 #[.slice A n c, .slice A' n' c'] (w.drewN k) fun e w' => e = .returned (.bool false) ∧ ∃ k', w' = (w.drewN k).drewN k' := by
  have := sameI_any (hr.hasI.drewN k) (hr'.hasI.drewN k)
  rwa [decide_eq_false hne.out] at this
theorem sameTx_yes {w : World} {S S' : Nat → Prop} {A A' : Option Addr} {n c n' c' : Nat} {L : List Txt} (hr : Row elText 1 w S A n c L) (hr' : Row elText 1 w S' A' n' c' L) (k : Nat) :
    Calls Try.prog 39 #[.slice A n c, .slice A' n' c'] (w.drewN k) fun e w' => e = .returned (.bool true) ∧ ∃ k', w' = (w.drewN k).drewN k' := by
  have := sameT_any (hr.hasT.drewN k) (hr'.hasT.drewN k)
  rwa [decide_eq_true rfl] at this
theorem sameTx_no {w : World} {S S' : Nat → Prop} {A A' : Option Addr} {n c n' c' : Nat} {L L' : List Txt} (hne : Hid (L ≠ L')) (hr : Row elText 1 w S A n c L) (hr' : Row elText 1 w S' A' n' c' L') (k : Nat) :
    Calls Try.prog 39 #[.slice A n c, .slice A' n' c'] (w.drewN k) fun e w' => e = .returned (.bool false) ∧ ∃ k', w' = (w.drewN k).drewN k' := by
  have := sameT_any (hr.hasT.drewN k) (hr'.hasT.drewN k)
  rwa [decide_eq_false hne.out] at this
set_option maxRecDepth 100000 in
set_option maxHeartbeats 2000000 in
theorem sameF_any {S S' : Nat → Prop} {A A' : Option Addr} {n c n' c' : Nat} {L L' : List Fct} {w : World} (h : HasF w S A n c L) (h' : HasF w S' A' n' c' L') :
    Calls Try.prog 18 #[.slice A n c, .slice A' n' c'] w fun e w' => e = .returned (.bool (decide (L = L'))) ∧ ∃ k, w' = w.drewN k := by
  have hn := h.lenMax
  have hll := h.len
  have hll' := h'.len
  by_cases hnn : n = n'
  · subst hnn
    have hne : ((n : Int) != (n : Int)) = false := by simp
    have HL := Lib.hid hll
    have HL' := Lib.hid hll'
    clear hll hll'
    go_enter Try.func18, Try.ntmps18
    go_wp2
    clear hne
    go_loopw [5] (fun i wr => ∃ k q : Nat, k ≤ n ∧ i = .int .i64 k ∧ wr = w.drewN q ∧ Hid (L.take k = L'.take k)) (fun i _ => n - (intOf i).toNat)
    case atStart => exact ⟨0, 0, Nat.zero_le _, rfl, rfl, rfl⟩
    case round =>
      obtain ⟨k, r, hk, rfl, hwr, ht⟩ := hrel
      have h1 : HasF wr S A n c L := by rw [hwr]; exact h.mv elFct_ok (Mv.drewN w r S)
      have h1' : HasF wr S' A' n c' L' := by rw [hwr]; exact h'.mv elFct_ok (Mv.drewN w r S')
      have HWR := Lib.hid hwr
      clear hwr
      by_cases hlt : k < n
      · obtain ⟨b, o, A1, n1, c1, A2, n2, c2, p, q, rfl, _, _, g0, g1, hp, hq, he⟩ := h1.at2 hlt
        obtain ⟨b', o', A1', n1', c1', A2', n2', c2', p', q', rfl, _, _, g0', g1', hp', hq', he'⟩ := h1'.at2 hlt
        have i0 : (0 : Int) ≤ (k : Int) := by omega
        have i1 : (k : Int) < (n : Int) := by omega
        have hnm1 := hp.lenMax
        have hnm2 := hp'.lenMax
        have HP := Lib.hid hp.len
        have HP' := Lib.hid hp'.len
        clear h1 h1'
        by_cases hqq : q = q'
        · subst hqq
          by_cases hnp : n1 = n1'
          · subst hnp
            have he0 : ((n1 : Int) != (n1 : Int)) = false := by simp
            go_wp2_with fail
            go_quiet ((go_at_call 10; exact Calls.quiet_of (sameI_yes hq hq' _)))
            go_wp2_with fail
            go_quiet (fail)
            go_wp2_with fail
            clear he0 hq hq'
            obtain ⟨wo, hwe⟩ : ∃ wo, Hid (wo = wr) := ⟨_, Lib.hid rfl⟩
            rw [← hwe.out] at hp hp' g0 g0' g1 g1' HWR
            rw [← hwe.out]
            clear hwe
            go_loopw [7] (fun j wr => ∃ m t : Nat, m ≤ n1 ∧ j = .int .i64 m ∧ wr = wo.drewN t ∧ Hid (p.take m = p'.take m)) (fun j _ => n1 - (intOf j).toNat)
            case atStart => exact ⟨0, _, Nat.zero_le _, rfl, (by first | rfl | exact World.drewN_drewN _ _ _), Lib.hid rfl⟩
            case round =>
              obtain ⟨m, t, hm, rfl, hwr, htp⟩ := hrel
              have hp1 : Row (elRow elText 1) 1 wr S A1 n1 c1 p := by rw [hwr]; exact hp.mv elPath_ok (Mv.drewN wo t S)
              have hp1' : Row (elRow elText 1) 1 wr S' A1' n1 c1' p' := by rw [hwr]; exact hp'.mv elPath_ok (Mv.drewN wo t S')
              have f0 : wr.cell? ⟨b, o + k * 2, none⟩ = some (.slice A1 n1 c1) := by rw [hwr]; exact g0
              have f0' : wr.cell? ⟨b', o' + k * 2, none⟩ = some (.slice A1' n1 c1') := by rw [hwr]; exact g0'
              have HWI := Lib.hid hwr
              clear hwr g0 g0' g1 g1'
              by_cases hlm : m < n1
              · obtain ⟨d, u, B1, m1, d1, x, rfl, _, _, j0, hx, hxe⟩ := hp1.at1 hlm
                obtain ⟨d', u', B1', m1', d1', x', rfl, _, _, j0', hx', hxe'⟩ := hp1'.at1 hlm
                have i2 : (0 : Int) ≤ (m : Int) := by omega
                have i3 : (m : Int) < (n1 : Int) := by omega
                clear hp1 hp1'
                by_cases hxx : x = x'
                · subst hxx
                  have HT := Lib.hid (takeX_same htp.out hxe.out hxe'.out)
                  go_wp2_with fail
                  go_quiet ((go_at_call 39; exact Calls.quiet_of (sameTx_yes hx hx' _)))
                  go_wp2_with fail
                  go_roundw
                  case rel => exact ⟨m + 1, t + nq, by omega, by go_num, by rw [HWI.out, World.drewN_drewN], HT⟩
                  case measure => simp [intOf]; omega
                · have HX := Lib.hid hxx
                  have H : Hid (decide (L = L') = false) := Lib.hid (by
                    rw [decide_eq_false_iff_not]
                    refine takeX_ne he.out he'.out fun e => ?_
                    injection e with e _
                    exact takeX_ne hxe.out hxe'.out HX.out e)
                  clear hxx
                  go_wp2_with fail
                  go_quiet ((go_at_call 39; exact Calls.quiet_of (sameTx_no HX hx hx' _)))
                  go_wp2_with fail
                  go_ret
                  exact ⟨by rw [H.out]; rfl, _, by rw [HWI.out, HWR.out, World.drewN_drewN, World.drewN_drewN]⟩
              · have HT : Hid (L.take (k + 1) = L'.take (k + 1)) := Lib.hid (by
                  have h1 := htp.out
                  rw [List.take_of_length_le (by have := HP.out; omega), List.take_of_length_le (by have := HP'.out; omega)] at h1
                  subst h1
                  exact takeX_same ht.out he.out he'.out)
                go_wp2_with fail
                go_roundw
                case rel => exact ⟨k + 1, r + t, by omega, by go_num, by rw [HWI.out, HWR.out, World.drewN_drewN], HT⟩
                case measure => simp [intOf]; omega
          · have he0 : ((n1 : Int) != (n1' : Int)) = true := by simp; omega
            have H : Hid (decide (L = L') = false) := Lib.hid (by
              rw [decide_eq_false_iff_not]
              refine takeX_ne he.out he'.out fun e => ?_
              injection e with e _
              have h1 := HP.out
              have h2 := HP'.out
              subst e
              omega)
            clear hnp
            go_wp2_with fail
            go_quiet ((go_at_call 10; exact Calls.quiet_of (sameI_yes hq hq' _)))
            go_wp2_with fail
            go_quiet (fail)
            go_wp2_with fail
            go_ret
            exact ⟨by rw [H.out]; rfl, _, by rw [HWR.out, World.drewN_drewN, World.drewN_drewN]⟩
        · have HX := Lib.hid hqq
          have H : Hid (decide (L = L') = false) := Lib.hid (by
            rw [decide_eq_false_iff_not]
            refine takeX_ne he.out he'.out fun e => ?_
            injection e with _ e
            exact HX.out e)
          clear hqq
          go_wp2_with fail
          go_quiet ((go_at_call 10; exact Calls.quiet_of (sameI_no HX hq hq' _)))
          go_wp2_with fail
          go_quiet (fail)
          go_wp2_with fail
          go_ret
          exact ⟨by rw [H.out]; rfl, _, by rw [HWR.out, World.drewN_drewN, World.drewN_drewN]⟩
      · have H : Hid (decide (L = L') = true) := Lib.hid (by
          have := ht.out
          rw [List.take_of_length_le (by have := HL.out; omega), List.take_of_length_le (by have := HL'.out; omega)] at this
          simp [this])
        go_wp2
        go_ret
        exact ⟨by rw [H.out]; rfl, r, HWR.out⟩
  · have H : Hid (decide (L = L') = false) := Lib.hid (by rw [decide_eq_false_iff_not]; intro e; subst e; omega)
    have hne : ((n : Int) != (n' : Int)) = true := by simp; omega
    have hn' := h'.lenMax
    clear hll hll'
    go_enter Try.func18, Try.ntmps18
    go_wp2
    go_ret
    exact ⟨by rw [H.out]; rfl, 0, rfl⟩
end Go.Proofs.Ytfddaegepmdohaa
