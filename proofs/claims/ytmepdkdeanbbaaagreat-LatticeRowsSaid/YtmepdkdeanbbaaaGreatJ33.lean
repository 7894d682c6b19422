/- BatchA -/
import Derived.Test.YtmepdkdeanbbaaaGreatJ19
import Derived.Test.YtmepdkdeanbbaaaGreatJ25
import Derived.BigQuiet
import Derived.Deep.QuietTactic
namespace Go.Proofs.YtmepdkdeanbbaaaGreat
set_option maxRecDepth 100000
open Go.RowKit

set_option maxRecDepth 100000 in
theorem ownI_any {S : Nat → Prop} {A : Option Addr} {n c : Nat} {l : List Int} {w : World} (h : Row elInt 1 w S A n c l) (hn : n ≤ 1000000) :
  Calls Tryz.prog 217 #[.slice A n c] w (Told elInt 3 1 w l) := by
 have hr := h.hasI
 clear h
 go_enter Tryz.func217, Tryz.ntmps217
 go_wp2_with (at_builtin; refine wpList_appIs rfl _ _ rfl w.heap.size _ [] rfl (OwnI.nil_ w _) _ A n c _ rfl hr (by simp; omega) (Nat.le_refl _) ?_)
 intro v' w' hO hG
 have hbel := Lib.hid (hG.below_ (Nat.le_refl _) (fun k hk => by cases hk))
 have hO' := Lib.hid (OwnI.ownR (S := fun k => w.heap.size ≤ k) hO)
 clear hO hG
 go_wp2_with fail
 go_ret
 exact ⟨v', rfl, hO'.out, hbel.out⟩
theorem cell_litX (w : World) (y : Value) (t : TypeId) : ∀ j u, [y][j]? = some u → (w.alloc (.cells #[y] t)).cell? ((⟨w.heap.size, 0, none⟩ : Addr).add j) = some u := by
 intro j u hj
 match j, hj with
 | 0, hj => simp at hj; subst hj; simp [add_flat, cell_new]
 | j + 1, hj => simp at hj
theorem take_snoc {α : Type} {L : List α} {k : Nat} {x : α} (h : L[k]? = some x) : L.take k ++ [x] = L.take (k + 1) := by
 rw [List.take_add_one, h]; rfl
theorem ownOne_is {α : Type} {E : ElT α} {T : TypeId} {sz : Nat} {w : World} {S : Nat → Prop} {v : Value} {L : List α} (h : elOwn E T sz w S [v] L) : ∀ u ∈ [v], u.oneCell' = true := by
 intro u hu
 rw [List.mem_singleton.1 hu]
 obtain ⟨A, n, c, e⟩ := elOwn_one h
 injection e with e _
 rw [e]; rfl

end Go.Proofs.YtmepdkdeanbbaaaGreat
