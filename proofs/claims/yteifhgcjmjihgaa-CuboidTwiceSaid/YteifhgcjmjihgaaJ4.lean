/- Clone -/
import Derived.Test.YteifhgcjmjihgaaJ2
import Derived.Lib.SliceRun
import Derived.Test.YteifhgcjmjihgaaRows
namespace Go.Proofs.Yteifhgcjmjihgaa
set_option maxRecDepth 100000
open Go.RowKit

theorem info_u8 : (Try.prog.info? 5).map (fun i => (i.zero, i.size, i.bytes)) = some (some (.int .u8 0), 1, 1) := by kernel_rfl

theorem OwnB.empty (w : World) (e : TypeId) : OwnB (w.alloc (.cells #[] e)) w.heap.size e (.slice (some ⟨w.heap.size, 0, none⟩) 0 0) [] :=
  ⟨rfl, .inr ⟨w.heap.size, 0, #[], rfl, Nat.le_refl _, heap_alloc_new w _, Nat.le_refl _, Nat.zero_le _, rfl, rfl⟩⟩
/-- bytes.Clone: nothing stays nothing. -/
theorem clone_any (A : Option Addr) (n c : Nat) (l : List UInt8) (w : World) (hr : HasB w w.heap.size A n c l) (hn : n ≤ 140737488355328) :
    Calls Try.prog 22 #[.slice A n c] w fun x w' => (∃ v', x = .returned v' ∧ OwnB w' w.heap.size 5 v' l) ∧ Below w.heap.size w w' := by
  obtain ⟨i0, hi, hz0, hz1, hz2⟩ := info_parts info_u8
  rcases A with _ | ad
  · obtain rfl := hr.void rfl
    obtain rfl : n = 0 := by have := hr.cap; omega
    obtain rfl : l = [] := List.eq_nil_of_length_eq_zero hr.len
    have q : ∀ W, (binOp .eql 35 (.slice none 0 0) (.slice none 0 0)).run Try.prog W = .ok (.bool true) W := fun W => Lib.run_eql_slice_nil W _ _ none 0 0 0 0 Try.underlying35
    go_enter Try.func22, Try.ntmps22
    go_wp2
    go_ret
    exact ⟨⟨_, rfl, OwnB.nil_ _ _ _⟩, Below.refl _ _⟩
  · have q : ∀ W, (binOp .eql 35 (.slice (some ad) n c) (.slice none 0 0)).run Try.prog W = .ok (.bool false) W := fun W => Lib.run_eql_slice_nil W _ _ (some ad) n c 0 0 Try.underlying35
    have hr1 := hr.alloc (Nat.le_refl _) (.cells #[] 5)
    have Hn := Lib.hid hn
    clear hn
    go_enter Try.func22, Try.ntmps22
    go_wp2_with (at_builtin; refine wpList_app4 _ rfl _ _ 35 rfl w.heap.size 5 i0 (.int .u8 0) Try.underlying35 hi hz0 hz1 hz2 rfl _ [] rfl (OwnB.empty w 5) w.heap.size _ n _ l rfl hr1 (by simpa using Hn.out) (by simp) ?_)
    intro v2 w2 ho2 hg2
    have hb2 : Below w.heap.size w w2 := ((Below.refl _ _).alloc (Nat.le_refl _) (.cells #[] 5)).trans (hg2.below_ (by simp) (fun k hk => by injection hk with hk; subst hk; exact Nat.le_refl _))
    have H := Lib.hid ho2
    clear ho2 hg2
    go_wp2
    go_ret
    exact ⟨⟨v2, rfl, H.out⟩, hb2⟩
end Go.Proofs.Yteifhgcjmjihgaa
