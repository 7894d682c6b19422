/- NamesU, UpO -/
import Derived.Test.YtmcccpbpijnbmaaDoorJ10
import Derived.Test.YtmcccpbpijnbmaaDoorJ20
namespace Go.Proofs.YtmcccpbpijnbmaaDoor
set_option maxRecDepth 100000
open Go.RowKit

theorem wpList_appTs {w : World} {ops : Array Oper} {rest : List Oper} {o : Oper} {a : Act} {Q : Exit → Act → World → Prop} (hgd : o.guard = none) (s x : Operand)
  (ho : o.op = .call { callee := .builtin .append, args := #[s, x], argTypes := #[41, 41] })
  (base : Nat) (v : Value) (l : List Txt) (hs : a.eval s = v) (hown : OwnT w base v l) (B : Nat) (A : Option Addr) (m c : Nat) (news : List Txt) (hx : a.eval x = .slice A m c) (hr : HasT w B A m c news) (hbytes : (l.length + m) * 16 ≤ 140737488355328) (hbase : base ≤ w.heap.size)
  (h : ∀ v' w', OwnT w' base v' (l ++ news) → Grew w v w' v' → wpList Tryd.prog ops Q rest (a.put o.dst v') w') : wpList Tryd.prog ops Q (o :: rest) a w := by
 obtain ⟨i, hi, hz0, hz1, hz2⟩ := info_parts info_string
 have hml := hr.len
 have hmap : (l ++ news).map strV = l.map strV ++ news.map strV := List.map_append
 have key : ∃ v' w', (Builtin.append_ #[41, 41] o.type #[v, .slice A m c]).run Tryd.prog w = .ok v' w' ∧ OwnT w' base v' (l ++ news) ∧ Grew w v w' v' := by
  rcases A with _ | ad
  ·obtain rfl := hr.void rfl
   have hc := hr.cap
   obtain rfl : m = 0 := by omega
   obtain rfl : news = [] := List.eq_nil_of_length_eq_zero hml
   exact ⟨v, w, run_append_owned_none (P := Tryd.prog) (w := w) base 41 o.type 9 i 1 Tryd.underlying41 hi v l.length (l.map strV) hown, by rw [List.append_nil]; exact hown, Grew.refl w v⟩
  ·have hcells : ∀ j u, (news.map strV)[j]? = some u → w.cell? (ad.add j) = some u := by
    intro j u hu
    have hj : j < (news.map strV).length := by
     rcases Nat.lt_or_ge j (news.map strV).length with h1 | h1
     ·exact h1
     ·rw [List.getElem?_eq_none h1] at hu; cases hu
    obtain ⟨b, o', e', _, hc⟩ := hr.has (by omega)
    injection e' with e'
    subst e'
    rw [add_flat]
    exact hc j u hu
   obtain ⟨v', w', h1, h2, h3, _, h5⟩ := run_append_own_at (P := Tryd.prog) w base 41 o.type 9 i _ 1 16 Tryd.underlying41 hi hz0 hz1 hz2 rfl (by decide) v l.length (l.map strV) hown ad m c (news.map strV) (by simp [hml]) hcells (strV_one news) (by unfold maxLen; omega) (by omega) hbase
   refine ⟨v', w', h1, by unfold OwnT; rw [hmap, List.length_append, hml]; exact h2, h3, fun k hk => ?_⟩
   rcases h5 with h5 | h5
   ·exact .inl (h5 ▸ hk)
   ·rw [h5] at hk
    injection hk with hk
    exact .inr (Nat.le_of_eq hk)
 obtain ⟨v', w', hrun, h2, h3⟩ := key
 refine wpList_plain hgd fun K hK => ?_
 unfold Oper.wp execOp
 simp only [ho, resolve, invoke, builtin, Sem.run_bind, Sem.run_pure, Result.andThen_ok, List.map_toArray, List.map_cons, List.map_nil, hs, hx, hrun]
 exact hK _ _ (h v' w' h2 h3)
theorem cell_litT (w : World) (y : Value) (t : TypeId) (g : Nat) (hg : g = w.heap.size) : (w.alloc (.cells #[y] t)).cell? ⟨g, 0, none⟩ = some y := by
 subst hg
 rw [cell_new]; rfl
end Go.Proofs.YtmcccpbpijnbmaaDoor
namespace Go.Proofs.YtmcccpbpijnbmaaDoor
set_option maxRecDepth 100000
open Go.RowKit

set_option maxRecDepth 100000 in
theorem upO_any {A : Option Addr} {n c : Nat} {L : List Txt} {w : World} (hr : HasT w w.heap.size A n c L) (m : Int) (hs : n ≤ 1000000) :
  Calls Tryd.prog 42 #[.slice A n c, .int .i64 m] w fun e w' => (∃ v, e = .returned v ∧ OwnT w' w.heap.size v (upP L m)) ∧ Below w.heap.size w w' := by
 go_enter Tryd.func42, Tryd.ntmps42
 go_wp2_with fail
 refine (cut_any hr m).mono ?_
 rintro e v ⟨⟨k, rfl, hk, hv⟩, rfl⟩
 go_wp2_with (at_builtin; refine wpList_appTs rfl _ _ rfl w.heap.size _ [] rfl (OwnT.nil_ w _) _ A k k _ rfl hv (by simp; omega) (Nat.le_refl _) ?_)
 intro v' w' hO hG
 have HO := Lib.hid hO
 have hbel := hG.below_ (Nat.le_refl _) (fun k hk => by cases hk)
 clear hO hG
 go_wp2_with fail
 go_ret
 exact ⟨⟨_, rfl, HO.out⟩, hbel⟩
end Go.Proofs.YtmcccpbpijnbmaaDoor
