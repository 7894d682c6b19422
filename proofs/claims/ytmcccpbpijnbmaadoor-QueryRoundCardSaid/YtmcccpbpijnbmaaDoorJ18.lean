/- WireNew -/
import Derived.Test.YtmcccpbpijnbmaaDoorJ1
import Derived.Test.YtmcccpbpijnbmaaDoorJ11
import Derived.Test.YtmcccpbpijnbmaaDoorJ16
import Derived.Lib.SliceRun
namespace Go.Proofs.YtmcccpbpijnbmaaDoor
set_option maxRecDepth 100000
open Go.RowKit

theorem wireNew_any (A : Option Addr) (n c : Nat) (l : List UInt8) (w : World) (hr : HasB w w.heap.size A n c l) (hn : n ≤ 140737488355328) :
  Calls Tryd.prog 5 #[.slice A n c] w fun x w' => ∃ g A' c', x = .returned (.pointer (some ⟨g, 0, none⟩)) ∧ Rd 53 w' g A' n c' l 0 0 ∧ w.heap.size ≤ g ∧ Below w.heap.size w w' := by
 go_enter Tryd.func5, Tryd.ntmps5
 go_wp2_with fail
 refine (clone_any _ _ _ _ _ hr hn).mono ?_
 rintro x w1 ⟨⟨v, rfl, ho⟩, hb⟩
 obtain ⟨A', c', rfl, hb1, _⟩ := ho.form
 have hl := hr.len
 have H : Hid (Rd 53 (w1.alloc (.cells #[.slice A' l.length c', .int .i64 ((0 : Nat) : Int), .int .i64 ((0 : Nat) : Int)] 53)) w1.heap.size A' l.length c' l 0 0) :=
  Lib.hid ⟨Block.new _ _ _, hb1.alloc (Nat.le_refl _) _, Nat.zero_le _, Nat.zero_le _⟩
 have hz := hb.size
 subst hl
 clear hr hb1
 go_wp2
 go_ret
 exact ⟨w1.heap.size, A', c', rfl, H.out, hz, hb.trans ((Below.refl _ _).alloc hz _)⟩
end Go.Proofs.YtmcccpbpijnbmaaDoor
