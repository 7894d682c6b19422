/- BatchC, BatchY, BatchG, QryR -/
import Derived.Test.YtmcccpbpijnbmaaJ2
import Derived.Test.YtmcccpbpijnbmaaJ7
import Derived.Test.YtmcccpbpijnbmaaJ19
import Derived.Test.YtmcccpbpijnbmaaJ24
import Derived.Test.YtmcccpbpijnbmaaJ29
import Derived.BigQuiet
import Derived.Deep.QuietTactic
import Derived.Deep.RegionHeld3
namespace Go.Proofs.Ytmcccpbpijnbmaa
set_option maxRecDepth 100000
open Go.RowKit

theorem OwnR.el0 {α : Type} {E : ElT α} {T : TypeId} {sz B : Nat} {w : World} {v : Value} {L : List α} (h : OwnR E T sz w B (fun k => B ≤ k) v L) : elOwn E T sz w (fun k => B ≤ k) [v] L :=
 ⟨v, rfl, h.low (Nat.zero_le _), fun k hk => (h.lt k hk).1⟩
end Go.Proofs.Ytmcccpbpijnbmaa
namespace Go.Proofs.Ytmcccpbpijnbmaa
set_option maxRecDepth 100000
open Go.RowKit

def Wr (w : World) (base top : Nat) (T : TypeId) (A : Option Addr) (n : Nat) : Prop := ∀ k, k < n → ∃ g o cs u, A = some ⟨g, o, none⟩ ∧ base ≤ g ∧ g < top ∧ Block w g T cs ∧ cs[o + k]? = some u
def TRow (w : World) (base top : Nat) (T : TypeId) (x : Value) : Prop := ∃ A n c, x = .slice A n c ∧ n ≤ c ∧ c ≤ 9223372036854775807 ∧ Wr w base top T A n
def TRows (w : World) (base top : Nat) (T T' : TypeId) (x : Value) : Prop := ∃ A n c, x = .slice A n c ∧ n ≤ c ∧ c ≤ 9223372036854775807 ∧ ∀ k, k < n → ∃ g o cs y, A = some ⟨g, o, none⟩ ∧ base ≤ g ∧ g < top ∧ Block w g T cs ∧ cs[o + k]? = some y ∧ TRow w base top T' y
section
variable {w w' : World} {base top : Nat} {T T' : TypeId} {A : Option Addr} {n : Nat} {x : Value}
theorem trow_none (w : World) (base top : Nat) (T : TypeId) : TRow w base top T (.slice none 0 0) := ⟨none, 0, 0, rfl, Nat.le_refl _, by omega, fun k hk => absurd hk (by omega)⟩
theorem get_set {cs : Array Value} {i j : Nat} {u v : Value} (h : cs[j]? = some v) : ∃ v', (cs.setIfInBounds i u)[j]? = some v' ∧ (v' = v ∨ v' = u) := by
 rw [Array.getElem?_setIfInBounds]
 by_cases e : i = j
 ·subst e
  have hl := (Array.getElem?_eq_some_iff.1 h).1
  exact ⟨u, by simp [hl], .inr rfl⟩
 ·exact ⟨v, by rw [if_neg e]; exact h, .inl rfl⟩
theorem Wr.set_ (h : Wr w base top T A n) (b i : Nat) (u : Value) : Wr (w.setCell ⟨b, i, none⟩ u) base top T A n := fun k hk => by
 obtain ⟨g, o, cs, v, h1, h2, h3, h4, h5⟩ := h k hk
 by_cases e : b = g
 ·subst e
  obtain ⟨v', e', _⟩ := get_set (i := i) (u := u) h5
  exact ⟨b, o, _, v', h1, h2, h3, h4.set_ i u, e'⟩
 ·exact ⟨g, o, cs, v, h1, h2, h3, h4.elsewhere b i u e, h5⟩
theorem TRow.set_ (h : TRow w base top T x) (b i : Nat) (u : Value) : TRow (w.setCell ⟨b, i, none⟩ u) base top T x := by
 obtain ⟨A, n, c, h1, h2, h3, h4⟩ := h
 exact ⟨A, n, c, h1, h2, h3, h4.set_ b i u⟩
theorem block_type {g : Nat} {cs cs' : Array Value} (h : Block w g T cs) (h' : Block w g T' cs') : T = T' := by
 have h1 : w.heap[g]? = some (.cells cs T (0, 0)) := h
 have h2 : w.heap[g]? = some (.cells cs' T' (0, 0)) := h'
 rw [h1] at h2
 simp only [Option.some.injEq, Obj.cells.injEq] at h2
 exact h2.2.1
theorem TRows.set_ {S : TypeId} (h : TRows w base top T T' x) {b : Nat} {cs : Array Value} (hb : Block w b S cs) (i : Nat) (u : Value) (hu : S ≠ T ∨ u = .slice none 0 0) : TRows (w.setCell ⟨b, i, none⟩ u) base top T T' x := by
 obtain ⟨A, n, c, h1, h2, h3, h4⟩ := h
 refine ⟨A, n, c, h1, h2, h3, fun k hk => ?_⟩
 obtain ⟨g, o, ds, y, e1, e2, e3, e4, e5, e6⟩ := h4 k hk
 by_cases e : b = g
 ·subst e
  obtain ⟨v', e', hv⟩ := get_set (i := i) (u := u) e5
  refine ⟨b, o, _, v', e1, e2, e3, e4.set_ i u, e', ?_⟩
  rcases hv with rfl | rfl
  ·exact e6.set_ b i u
  ·rcases hu with hu | hu
   ·exact absurd (block_type hb e4) hu
   ·subst hu
    exact trow_none _ _ _ _
 ·exact ⟨g, o, ds, y, e1, e2, e3, e4.elsewhere b i u e, e5, e6.set_ b i u⟩
/-! ### What is told is so -/
theorem OwnR.cells {α : Type} {E : ElT α} {S : Nat → Prop} {L : List α} {sz : Nat} (h : OwnR E T sz w base S x L) : ∃ A c, x = .slice A L.length c ∧ L.length ≤ c ∧ c ≤ 9223372036854775807 ∧ ∀ k y, L[k]? = some y → ∃ g cs, A = some ⟨g, 0, none⟩ ∧ base ≤ g ∧ g < w.heap.size ∧ x.ownBlock = some g ∧ Block w g T cs ∧ E w (fun b => S b ∧ x.ownBlock ≠ some b) ((cs.toList.drop (k * sz)).take sz) y := by
 obtain ⟨vs, h1, h2⟩ := h
 rcases h1.2 with ⟨rfl, h0⟩ | ⟨g, cap, cur, rfl, hb, hg, hnc, hcm, hcs, ht⟩
 ·refine ⟨none, 0, by rw [h0], by omega, by omega, fun k y hk => ?_⟩
  have := (List.getElem?_eq_some_iff.1 hk).1
  omega
 ·refine ⟨_, cap, rfl, hnc, by unfold maxLen at hcm; omega, fun k y hk => ⟨g, cur, rfl, hb, (Array.getElem?_eq_some_iff.1 hg).1, rfl, hg, ?_⟩⟩
  have h3 := h2 k y hk
  have hkl := (List.getElem?_eq_some_iff.1 hk).1
  rw [← ht, List.drop_take, List.take_take] at h3
  rw [Nat.min_eq_left] at h3
  ·exact h3
  ·have : k * sz + sz ≤ L.length * sz := by rw [← Nat.succ_mul]; exact Nat.mul_le_mul_right sz hkl
   omega
theorem take_one {cs : Array Value} {k : Nat} {y : Value} (h : (cs.toList.drop (k * 1)).take 1 = [y]) : cs[0 + k]? = some y := by
 have h1 := congrArg (fun l => l[0]?) h
 simpa [List.getElem?_take, List.getElem?_drop] using h1
theorem elOwn_trow {α : Type} {E : ElT α} {S : Nat → Prop} {L : List α} (hE : ∀ w S us y, E w S us y → ∃ u, us = [u]) (h : elOwn E T 1 w S [x] L) (hS : ∀ k, S k → base ≤ k) : TRow w base w.heap.size T x := by
 obtain ⟨v, e, h1, h2⟩ := h
 injection e with e _
 subst e
 obtain ⟨A, c, e, hc1, hc2, hk⟩ := h1.cells
 refine ⟨A, L.length, c, e, hc1, hc2, fun k hkl => ?_⟩
 obtain ⟨g, cs, e1, _, e3, e4, e5, e6⟩ := hk k _ (List.getElem?_eq_getElem hkl)
 obtain ⟨u, hu⟩ := hE _ _ _ _ e6
 exact ⟨g, 0, cs, u, e1, hS g (h2 g e4), e3, e5, take_one hu⟩
theorem elOwn_trows {α : Type} {E : ElT α} {S : Nat → Prop} {L : List (List α)} (hE : ∀ w S us y, E w S us y → ∃ u, us = [u]) (h : elOwn (elOwn E T' 1) T 1 w S [x] L) (hS : ∀ k, S k → base ≤ k) : TRows w base w.heap.size T T' x := by
 obtain ⟨v, e, h1, h2⟩ := h
 injection e with e _
 subst e
 obtain ⟨A, c, e, hc1, hc2, hk⟩ := h1.cells
 refine ⟨A, L.length, c, e, hc1, hc2, fun k hkl => ?_⟩
 obtain ⟨g, cs, e1, _, e3, e4, e5, e6⟩ := hk k _ (List.getElem?_eq_getElem hkl)
 obtain ⟨u, hu, _⟩ := id e6
 rw [hu] at e6
 exact ⟨g, 0, cs, u, e1, hS g (h2 g e4), e3, e5, take_one hu, elOwn_trow hE e6 fun b hb => hS b hb.1⟩
end
theorem elT_one : ∀ w S us y, elText w S us y → ∃ u, us = [u] := fun _ _ _ _ h => ⟨_, h⟩
theorem elI_one : ∀ w S us y, elInt w S us y → ∃ u, us = [u] := fun _ _ _ _ h => ⟨_, h⟩
/-! ### The k-th of each, for the walk -/
section
variable {w : World} {base top : Nat} {T T' : TypeId} {A : Option Addr} {n : Nat}
theorem Wr.at_ (h : Wr w base top T A n) {k : Nat} (hk : k < n) : ∃ g o u, A = some ⟨g, o, none⟩ ∧ w.cell? ⟨g, o + k, none⟩ = some u ∧ w.frozen? ⟨g, o + k, none⟩ = false ∧ base ≤ g ∧ g < top ∧ ∃ cs, Block w g T cs := by
 obtain ⟨g, o, cs, u, e1, e2, e3, e4, e5⟩ := h k hk
 exact ⟨g, o, u, e1, (e4.cell _).trans e5, e4.free _, e2, e3, cs, e4⟩
end
theorem Block.other {w : World} {g b : Nat} {T T' : TypeId} {cs ds : Array Value} (h : Block w g T cs) (hb : Block w b T' ds) (hT : T' ≠ T) (i : Nat) (u : Value) : Block (w.setCell ⟨b, i, none⟩ u) g T cs :=
 h.elsewhere b i u fun e => by
  subst e
  exact hT (block_type hb h)
section
variable {w : World} {base top : Nat} {T T' : TypeId} {A : Option Addr} {n c : Nat}
theorem block_cs {g : Nat} {cs cs' : Array Value} (h : Block w g T cs) (h' : Block w g T cs') : cs = cs' := by
 have h1 : w.heap[g]? = some (.cells cs T (0, 0)) := h
 have h2 : w.heap[g]? = some (.cells cs' T (0, 0)) := h'
 rw [h1] at h2
 simp only [Option.some.injEq, Obj.cells.injEq] at h2
 exact h2.1
theorem TRows.raw (h : TRows w base top T T' (.slice A n c)) {k : Nat} (hk : k < n) : ∃ g o cs P np cp, A = some ⟨g, o, none⟩ ∧ Block w g T cs ∧ cs[o + k]? = some (.slice P np cp) ∧ np ≤ cp ∧ cp ≤ 9223372036854775807 ∧ base ≤ g ∧ g < top := by
 obtain ⟨_, _, _, e, _, _, h4⟩ := h
 injection e with ea eb ec
 subst ea eb ec
 obtain ⟨g, o, cs, y, e1, e2, e3, e4, e5, P, np, cp, rfl, q1, q2, _⟩ := h4 k hk
 exact ⟨g, o, cs, P, np, cp, e1, e4, e5, q1, q2, e2, e3⟩
theorem TRows.atB {g o : Nat} (h : TRows w base top T T' (.slice (some ⟨g, o, none⟩) n c)) {k : Nat} (hk : k < n) {cs : Array Value} {y : Value} (hb : Block w g T cs) (hy : cs[o + k]? = some y) : TRow w base top T' y := by
 obtain ⟨_, _, _, e, _, _, h4⟩ := h
 injection e with ea eb ec
 subst ea eb ec
 obtain ⟨g', o', cs', y', e1, _, _, e4, e5, e6⟩ := h4 k hk
 injection e1 with e1
 injection e1 with e1 e2
 subst e1 e2
 obtain rfl := block_cs hb e4
 rw [hy] at e5
 obtain rfl := Option.some.inj e5
 exact e6
theorem TRow.wr {P : Option Addr} {np cp : Nat} (h : TRow w base top T (.slice P np cp)) : Wr w base top T P np := by
 obtain ⟨_, _, _, e, _, _, h4⟩ := h
 injection e with ea eb ec
 subst ea eb ec
 exact h4
end
end Go.Proofs.Ytmcccpbpijnbmaa
namespace Go.Proofs.Ytmcccpbpijnbmaa
set_option maxRecDepth 100000
open Go.RowKit

theorem takeX_same {α : Type} {L L' : List α} {k : Nat} {x : α} (h : L.take k = L'.take k) (h1 : L[k]? = some x) (h2 : L'[k]? = some x) : L.take (k + 1) = L'.take (k + 1) := by
 rw [List.take_add_one, List.take_add_one, h, h1, h2]
theorem takeX_ne {α : Type} {L L' : List α} {k : Nat} {x y : α} (h1 : L[k]? = some x) (h2 : L'[k]? = some y) (hne : x ≠ y) : L ≠ L' := by
 intro e
 subst e
 rw [h1] at h2
 injection h2 with h2
 exact hne h2
theorem sameTx_yes {w : World} {S S' : Nat → Prop} {A A' : Option Addr} {n c n' c' : Nat} {L : List Txt} (hr : Row elText 1 w S A n c L) (hr' : Row elText 1 w S' A' n' c' L) (k : Nat) :
  Calls Try.prog 32 #[.slice A n c, .slice A' n' c'] (w.drewN k) fun e w' => e = .returned (.bool true) ∧ ∃ k', w' = (w.drewN k).drewN k' := by
 have := sameT_any (hr.hasT.drewN k) (hr'.hasT.drewN k)
 rwa [decide_eq_true rfl] at this
theorem sameTx_no {w : World} {S S' : Nat → Prop} {A A' : Option Addr} {n c n' c' : Nat} {L L' : List Txt} (hne : Hid (L ≠ L')) (hr : Row elText 1 w S A n c L) (hr' : Row elText 1 w S' A' n' c' L') (k : Nat) :
  Calls Try.prog 32 #[.slice A n c, .slice A' n' c'] (w.drewN k) fun e w' => e = .returned (.bool false) ∧ ∃ k', w' = (w.drewN k).drewN k' := by
 have := sameT_any (hr.hasT.drewN k) (hr'.hasT.drewN k)
 rwa [decide_eq_false hne.out] at this
end Go.Proofs.Ytmcccpbpijnbmaa
namespace Go.Proofs.Ytmcccpbpijnbmaa
set_option maxRecDepth 100000
open Go.RowKit

set_option maxHeartbeats 2000000 in
theorem samePs_any {S S' : Nat → Prop} {A A' : Option Addr} {n c n' c' : Nat} {L L' : List (List Txt)} {w : World} (h : Row (elRow elText 1) 1 w S A n c L) (h' : Row (elRow elText 1) 1 w S' A' n' c' L') :
  Calls Try.prog 17 #[.slice A n c, .slice A' n' c'] w fun e w' => e = .returned (.bool (decide (L = L'))) ∧ ∃ k, w' = w.drewN k := by
 have hn := h.lenMax
 have hll := h.len
 have hll' := h'.len
 by_cases hnn : n = n'
 ·subst hnn
  have hne : ((n : Int) != (n : Int)) = false := by simp
  have HL := Lib.hid hll
  have HL' := Lib.hid hll'
  clear hll hll'
  go_enter Try.func17, Try.ntmps17
  go_wp2_with fail
  clear hne
  go_loopw [5] (fun i wr => ∃ k q : Nat, k ≤ n ∧ i = .int .i64 k ∧ wr = w.drewN q ∧ Hid (L.take k = L'.take k)) (fun i _ => n - (intOf i).toNat)
  case atStart => exact ⟨0, 0, Nat.zero_le _, rfl, rfl, Lib.hid rfl⟩
  case round =>
   obtain ⟨k, r, hk, rfl, hwr, ht⟩ := hrel
   have h1 : Row (elRow elText 1) 1 wr S A n c L := by rw [hwr]; exact h.mv elPath_ok (Mv.drewN w r S)
   have h1' : Row (elRow elText 1) 1 wr S' A' n c' L' := by rw [hwr]; exact h'.mv elPath_ok (Mv.drewN w r S')
   have HWR := Lib.hid hwr
   clear hwr
   by_cases hlt : k < n
   ·obtain ⟨d, u, B1, m1, d1, x, rfl, _, _, j0, hx, hxe⟩ := h1.at1 hlt
    obtain ⟨d', u', B1', m1', d1', x', rfl, _, _, j0', hx', hxe'⟩ := h1'.at1 hlt
    have i0 : (0 : Int) ≤ (k : Int) := by omega
    have i1 : (k : Int) < (n : Int) := by omega
    clear h1 h1'
    by_cases hxx : x = x'
    ·subst hxx
     have HT := Lib.hid (takeX_same ht.out hxe.out hxe'.out)
     go_wp2_with fail
     go_quiet ((go_at_call 32; exact Calls.quiet_of (sameTx_yes hx hx' _)))
     go_wp2_with fail
     go_roundw
     case rel => exact ⟨k + 1, r + nq, by omega, by go_num, by rw [HWR.out, World.drewN_drewN], HT⟩
     case measure => simp [intOf]; omega
    ·have HX := Lib.hid hxx
     have H : Hid (decide (L = L') = false) := Lib.hid (by
      rw [decide_eq_false_iff_not]
      exact takeX_ne hxe.out hxe'.out HX.out)
     clear hxx
     go_wp2_with fail
     go_quiet ((go_at_call 32; exact Calls.quiet_of (sameTx_no HX hx hx' _)))
     go_wp2_with fail
     go_ret
     exact ⟨by rw [H.out]; rfl, _, by rw [HWR.out, World.drewN_drewN]⟩
   ·have H : Hid (decide (L = L') = true) := Lib.hid (by
     have h1 := ht.out
     rw [List.take_of_length_le (by have := HL.out; omega), List.take_of_length_le (by have := HL'.out; omega)] at h1
     rw [decide_eq_true_iff]
     exact h1)
    go_wp2_with fail
    go_ret
    exact ⟨by rw [H.out]; rfl, _, HWR.out⟩
 ·have hne : ((n : Int) != (n' : Int)) = true := by simp; omega
  have H : Hid (decide (L = L') = false) := Lib.hid (by
   rw [decide_eq_false_iff_not]
   intro e
   subst e
   omega)
  go_enter Try.func17, Try.ntmps17
  go_wp2_with fail
  go_ret
  exact ⟨by rw [H.out]; rfl, 0, rfl⟩
theorem samePs_eq {w : World} {S S' : Nat → Prop} {A A' : Option Addr} {n c n' c' : Nat} {L : List (List Txt)} (h : Row (elRow elText 1) 1 w S A n c L) (h' : Row (elRow elText 1) 1 w S' A' n' c' L) :
  Calls Try.prog 17 #[.slice A n c, .slice A' n' c'] w fun e w' => e = .returned (.bool true) ∧ ∃ k, w' = w.drewN k := by
 have := samePs_any h h'
 rwa [decide_eq_true rfl] at this
end Go.Proofs.Ytmcccpbpijnbmaa
