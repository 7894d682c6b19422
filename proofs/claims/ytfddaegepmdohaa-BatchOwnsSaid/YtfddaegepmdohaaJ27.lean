/- BatchA -/
import Derived.Test.YtfddaegepmdohaaJ19
import Derived.Test.YtfddaegepmdohaaJ26
import Derived.BigQuiet
import Derived.Deep.QuietTactic
namespace Go.Proofs.Ytfddaegepmdohaa
set_option maxRecDepth 100000
open Go.RowKit

set_option maxRecDepth 100000 in
theorem ownI_any {S : Nat → Prop} {A : Option Addr} {n c : Nat} {l : List Int} {w : World} (h : Row elInt 1 w S A n c l) (hn : n ≤ 1000000) :
    Calls Try.prog 21 #[.slice A n c] w (Told elInt 3 1 w l) := by
  have hr := h.hasI
  clear h
  go_enter Try.func21, Try.ntmps21
  go_wp2_with (at_builtin; refine wpList_appIs rfl _ _ rfl w.heap.size _ [] rfl (OwnI.nil_ w _) _ A n c _ rfl hr (by simp; omega) (Nat.le_refl _) ?_)
  intro v' w' hO hG
  have hbel := Lib.hid (hG.below_ (Nat.le_refl _) (fun k hk => by cases hk))
  have hO' := Lib.hid (OwnI.ownR (S := fun k => w.heap.size ≤ k) hO)
  clear hO hG
  go_wp2_with fail
  go_ret
  exact ⟨v', rfl, hO'.out, hbel.out⟩
set_option maxRecDepth 100000 in
theorem ownT_any {S : Nat → Prop} {A : Option Addr} {n c : Nat} {l : List Txt} {w : World} (h : Row elText 1 w S A n c l) (hn : n ≤ 1000000) :
    Calls Try.prog 38 #[.slice A n c] w (Told elText 9 1 w l) := by
  have hr := h.hasT
  clear h
  go_enter Try.func38, Try.ntmps38
  go_wp2_with (at_builtin; refine wpList_appTs rfl _ _ rfl w.heap.size _ [] rfl (OwnT.nil_ w _) _ A n c _ rfl hr (by simp; omega) (Nat.le_refl _) ?_)
  intro v' w' hO hG
  have hbel := Lib.hid (hG.below_ (Nat.le_refl _) (fun k hk => by cases hk))
  have hO' := Lib.hid (OwnT.ownR (S := fun k => w.heap.size ≤ k) hO)
  clear hO hG
  go_wp2_with fail
  go_ret
  exact ⟨v', rfl, hO'.out, hbel.out⟩

theorem cell_litX (w : World) (y : Value) (t : TypeId) : ∀ j u, [y][j]? = some u → (w.alloc (.cells #[y] t)).cell? ((⟨w.heap.size, 0, none⟩ : Addr).add j) = some u := by
  intro j u hj
  match j, hj with
  | 0, hj => simp at hj; subst hj; simp [add_flat, cell_new]
  | j + 1, hj => simp at hj
theorem take_snoc {α : Type} {L : List α} {k : Nat} {x : α} (h : L[k]? = some x) : L.take k ++ [x] = L.take (k + 1) := by
  rw [List.take_add_one, h]; rfl
theorem ownOne_is {α : Type} {E : ElT α} {T : TypeId} {sz : Nat} {w : World} {S : Nat → Prop} {v : Value} {L : List α} (h : elOwn E T sz w S [v] L) : ∀ u ∈ [v], u.oneCell' = true := by
  intro u hu
  rw [List.mem_singleton.1 hu]
  obtain ⟨A, n, c, e⟩ := elOwn_one h
  injection e with e _
  rw [e]; rfl

set_option maxRecDepth 100000 in
set_option maxHeartbeats 1000000 in
/-- each of a path list, by own: paths of the call's own. -/
theorem eachP_any {S : Nat → Prop} {A : Option Addr} {n c : Nat} {L : List (List Txt)} {w : World} (h : Row (elRow elText 1) 1 w S A n c L) (hn : n ≤ 1000) (hL : ∀ p ∈ L, p.length ≤ 1000) :
    Calls Try.prog 37 #[.slice A n c, .func (.func 38) #[] #[]] w (Told (elOwn elText 9 1) 23 1 w L) := by
  have HL := Lib.hid h.len
  have HP := Lib.hid hL
  have hnm := h.lenMax
  have HS : ∀ b, (S b ∧ b < w.heap.size) → b < w.heap.size := fun b hb => hb.2
  have h1 : Row (elRow elText 1) 1 w (fun b => S b ∧ b < w.heap.size) A n c L := h.mv elPath_ok (Mv.to w fun b hb hl => ⟨hb, hl⟩)
  clear h hL
  go_enter Try.func37, Try.ntmps37
  go_wp2_with fail
  go_loopw [5, 10] (fun v i wr => ∃ k : Nat, k ≤ n ∧ i = .int .i64 k ∧ OwnR (elOwn elText 9 1) 23 1 wr w.heap.size (fun b => w.heap.size ≤ b) v (L.take k) ∧ Below w.heap.size w wr) (fun _ i _ => n - (intOf i).toNat)
  case atStart => exact ⟨0, Nat.zero_le _, rfl, OwnR.nil_ w _ _, Below.refl _ _⟩
  case round =>
    obtain ⟨k, hk, rfl, hO, hB⟩ := hrel
    by_cases hlt : k < n
    · obtain ⟨b, o, A', n', c', l, rfl, _, _, g0, hl, he⟩ := (h1.mv elPath_ok (Mv.below hB HS)).at1 hlt
      have i0 : (0 : Int) ≤ (k : Int) := by omega
      have i1 : (k : Int) < (n : Int) := by omega
      have hn' : n' ≤ 1000000 := by
        have := HP.out l (List.mem_of_getElem? he.out)
        have := hl.len
        omega
      have HC := Lib.hid (ownT_any hl hn')
      have HT := Lib.hid (take_snoc he.out)
      clear hl hn'
      go_wp2_with fail
      refine HC.out.mono ?_
      rintro e w5 ⟨y, rfl, hy, hb5⟩
      have hz := hB.size
      have hlo := fun g e => hO.lt g e
      have hy1 := OwnR.el elText_ok hy (fun g e => (hlo g e).2) hz
      have hO5 := hO.below elPathO_ok hb5
      have hB5 := hB.trans (hb5.mono hz)
      have hz5 := hB5.size
      obtain ⟨Ay, cy, rfl⟩ := hy.shape
      have hO6 := hO5.alloc elPathO_ok (.cells #[.slice Ay l.length cy] 23)
      have hy6 := elPathO_ok _ _ _ _ _ _ (Mv.alloc w5 (.cells #[.slice Ay l.length cy] 23) _) hy1
      have hone := ownOne_is hy1
      have hlb : Hid ((L.take k).length ≤ 1000000) := Lib.hid (Nat.le_trans (List.length_take_le k _) (by omega))
      have hB6 := hB5.alloc hz5 (.cells #[.slice Ay l.length cy] 23)
      have hbs : w.heap.size ≤ (w5.alloc (.cells #[.slice Ay l.length cy] 23)).heap.size := by rw [World.size_alloc]; omega
      clear hy hy1 hO5 hB5 hb5 HC hO hB g0
      go_wp2_with (at_builtin; refine wpList_appX elPathO_ok rfl _ _ rfl info_rowT Try.underlying33 rfl (by decide) w.heap.size _ _ _ rfl hO6 _ rfl [.slice Ay l.length cy] rfl l (cell_litX w5 _ _) hone hy6 hlb.out hbs ?_)
      intro v' w2 hO2 hG2
      have hF := Lib.hid (show OwnR (elOwn elText 9 1) 23 1 w2 w.heap.size (fun b => w.heap.size ≤ b) v' (L.take (k + 1)) ∧ Below w.heap.size w w2 from ⟨HT.out ▸ hO2, hB6.trans (hG2.below_ hbs (fun g e => (hlo g e).1))⟩)
      clear hO2 hG2 hO6 hy6 hB6 hlo hone
      go_wp2_with fail
      go_roundw
      case rel => exact ⟨k + 1, by omega, by go_num, hF.out.1, hF.out.2⟩
      case measure => simp [intOf]; omega
    · have hF := Lib.hid (show OwnR (elOwn elText 9 1) 23 1 wr w.heap.size (fun b => w.heap.size ≤ b) u5 L ∧ Below w.heap.size w wr from ⟨by rw [List.take_of_length_le (by have := HL.out; omega)] at hO; exact hO, hB⟩)
      clear hO hB
      go_wp2_with fail
      go_ret
      exact ⟨u5, rfl, hF.out.1, hF.out.2⟩
end Go.Proofs.Ytfddaegepmdohaa
