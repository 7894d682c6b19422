/- CloneI -/
import Derived.Test.YtmcccpbpijnbmaaDoorJ1
import Derived.Lib.SliceRun
namespace Go.Proofs.YtmcccpbpijnbmaaDoor
set_option maxRecDepth 100000
open Go.RowKit

def TellJ (w : World) (l : List Int) (e : Ending) (w' : World) : Prop := (∃ v, e = .returned v ∧ OwnI w' w.heap.size v l) ∧ Below w.heap.size w w'
theorem OwnI.empty (w : World) : OwnI (w.alloc (.cells #[] 3)) w.heap.size (.slice (some ⟨w.heap.size, 0, none⟩) 0 0) [] :=
 ⟨rfl, .inr ⟨w.heap.size, 0, #[], rfl, Nat.le_refl _, heap_alloc_new w _, Nat.le_refl _, Nat.zero_le _, rfl, rfl⟩⟩
set_option maxRecDepth 100000 in
theorem cloneI_any {A : Option Addr} {n c : Nat} {l : List Int} {w : World} (hr : HasI w w.heap.size A n c l) (hn : n ≤ 1000000) :
  Calls Tryd.prog 41 #[.slice A n c] w (TellJ w l) := by
 rcases A with _ | ad
 ·obtain rfl := hr.void rfl
  obtain rfl : n = 0 := by have := hr.cap; omega
  obtain rfl : l = [] := List.eq_nil_of_length_eq_zero hr.len
  have q : ∀ W, (binOp .eql 29 (.slice none 0 0) (.slice none 0 0)).run Tryd.prog W = .ok (.bool true) W := fun W => Lib.run_eql_slice_nil W _ _ none 0 0 0 0 Tryd.underlying29
  go_enter Tryd.func41, Tryd.ntmps41
  go_wp2
  go_ret
  exact ⟨⟨_, rfl, OwnI.nil_ _ _⟩, Below.refl _ _⟩
 ·have q : ∀ W, (binOp .eql 29 (.slice (some ad) n c) (.slice none 0 0)).run Tryd.prog W = .ok (.bool false) W := fun W => Lib.run_eql_slice_nil W _ _ (some ad) n c 0 0 Tryd.underlying29
  have hr1 := hr.alloc (Nat.le_refl _) (.cells #[] 3)
  have Hn := Lib.hid (show (([] : List Int).length + n) * 8 ≤ 140737488355328 by simp; omega)
  clear hn
  go_enter Tryd.func41, Tryd.ntmps41
  go_wp2_with (at_builtin; refine wpList_appIs rfl _ _ rfl w.heap.size _ [] rfl (OwnI.empty w) w.heap.size _ n _ l rfl hr1 Hn.out (by simp) ?_)
  intro v2 w2 ho2 hg2
  have hb2 : Below w.heap.size w w2 := ((Below.refl _ _).alloc (Nat.le_refl _) (.cells #[] 3)).trans (hg2.below_ (by simp) (fun k hk => by injection hk with hk; subst hk; exact Nat.le_refl _))
  have H := Lib.hid ho2
  clear ho2 hg2
  go_wp2
  go_ret
  exact ⟨⟨v2, rfl, H.out⟩, hb2⟩

end Go.Proofs.YtmcccpbpijnbmaaDoor
