/- CellQ, NamesU, UpO -/
import Derived.Test.YtmcccpbpijnbmaaJ9
import Derived.Test.YtmcccpbpijnbmaaJ17
import Derived.Test.YtmcccpbpijnbmaaJ19
import Derived.BigQuiet
import Derived.Deep.QuietTactic
namespace Go.Proofs.Ytmcccpbpijnbmaa
set_option maxRecDepth 100000
open Go.RowKit

end Go.Proofs.Ytmcccpbpijnbmaa
namespace Go.Proofs.Ytmcccpbpijnbmaa
set_option maxRecDepth 100000
open Go.RowKit

theorem wpList_appTs {w : World} {ops : Array Oper} {rest : List Oper} {o : Oper} {a : Act} {Q : Exit → Act → World → Prop} (hgd : o.guard = none) (s x : Operand)
  (ho : o.op = .call { callee := .builtin .append, args := #[s, x], argTypes := #[23, 23] })
  (base : Nat) (v : Value) (l : List Txt) (hs : a.eval s = v) (hown : OwnT w base v l) (B : Nat) (A : Option Addr) (m c : Nat) (news : List Txt) (hx : a.eval x = .slice A m c) (hr : HasT w B A m c news) (hbytes : (l.length + m) * 16 ≤ 140737488355328) (hbase : base ≤ w.heap.size)
  (h : ∀ v' w', OwnT w' base v' (l ++ news) → Grew w v w' v' → wpList Try.prog ops Q rest (a.put o.dst v') w') : wpList Try.prog ops Q (o :: rest) a w := by
 obtain ⟨i, hi, hz0, hz1, hz2⟩ := info_parts info_string
 have hml := hr.len
 have hmap : (l ++ news).map strV = l.map strV ++ news.map strV := List.map_append
 have key : ∃ v' w', (Builtin.append_ #[23, 23] o.type #[v, .slice A m c]).run Try.prog w = .ok v' w' ∧ OwnT w' base v' (l ++ news) ∧ Grew w v w' v' := by
  rcases A with _ | ad
  ·obtain rfl := hr.void rfl
   have hc := hr.cap
   obtain rfl : m = 0 := by omega
   obtain rfl : news = [] := List.eq_nil_of_length_eq_zero hml
   exact ⟨v, w, run_append_owned_none (P := Try.prog) (w := w) base 23 o.type 9 i 1 Try.underlying23 hi v l.length (l.map strV) hown, by rw [List.append_nil]; exact hown, Grew.refl w v⟩
  ·have hcells : ∀ j u, (news.map strV)[j]? = some u → w.cell? (ad.add j) = some u := by
    intro j u hu
    have hj : j < (news.map strV).length := by
     rcases Nat.lt_or_ge j (news.map strV).length with h1 | h1
     ·exact h1
     ·rw [List.getElem?_eq_none h1] at hu; cases hu
    obtain ⟨b, o', e', _, hc⟩ := hr.has (by omega)
    injection e' with e'
    subst e'
    rw [add_flat]
    exact hc j u hu
   obtain ⟨v', w', h1, h2, h3, _, h5⟩ := run_append_own_at (P := Try.prog) w base 23 o.type 9 i _ 1 16 Try.underlying23 hi hz0 hz1 hz2 rfl (by decide) v l.length (l.map strV) hown ad m c (news.map strV) (by simp [hml]) hcells (strV_one news) (by unfold maxLen; omega) (by omega) hbase
   refine ⟨v', w', h1, by unfold OwnT; rw [hmap, List.length_append, hml]; exact h2, h3, fun k hk => ?_⟩
   rcases h5 with h5 | h5
   ·exact .inl (h5 ▸ hk)
   ·rw [h5] at hk
    injection hk with hk
    exact .inr (Nat.le_of_eq hk)
 obtain ⟨v', w', hrun, h2, h3⟩ := key
 refine wpList_plain hgd fun K hK => ?_
 unfold Oper.wp execOp
 simp only [ho, resolve, invoke, builtin, Sem.run_bind, Sem.run_pure, Result.andThen_ok, List.map_toArray, List.map_cons, List.map_nil, hs, hx, hrun]
 exact hK _ _ (h v' w' h2 h3)
theorem cell_litT (w : World) (y : Value) (t : TypeId) (g : Nat) (hg : g = w.heap.size) : (w.alloc (.cells #[y] t)).cell? ⟨g, 0, none⟩ = some y := by
 subst hg
 rw [cell_new]; rfl
theorem takeT_snoc {L : List Txt} {k : Nat} (h : k < L.length) {x : Txt} (hx : x = L.getD k []) : L.take k ++ [x] = L.take (k + 1) := by
 rw [List.take_add_one, hx, List.getD_eq_getElem?_getD, List.getElem?_eq_getElem h]
 rfl

end Go.Proofs.Ytmcccpbpijnbmaa
namespace Go.Proofs.Ytmcccpbpijnbmaa
set_option maxRecDepth 100000
open Go.RowKit

set_option maxRecDepth 100000 in
set_option maxHeartbeats 1000000 in
theorem refUpO_any {A : Option Addr} {n c : Nat} {L : List Txt} {w : World} (hr : HasT w w.heap.size A n c L) (m : Int) (hs : n ≤ 1000000) :
  Calls Try.prog 25 #[.slice A n c, .int .i64 m] w fun e w' => (∃ v, e = .returned v ∧ OwnT w' w.heap.size v (upP L m)) ∧ Below w.heap.size w w' := by
 have hn := hr.lenMax
 have HL := Lib.hid hr.len
 go_enter Try.func25, Try.ntmps25
 go_wp2
 go_loopw [5, 6] (fun v i wr => ∃ k : Nat, k ≤ n ∧ k ≤ m.toNat ∧ i = .int .i64 k ∧ OwnT wr w.heap.size v (L.take k) ∧ Below w.heap.size w wr) (fun _ i _ => n - (intOf i).toNat)
 case atStart => exact ⟨0, Nat.zero_le _, Nat.zero_le _, rfl, OwnT.nil_ w _, Below.refl _ _⟩
 case round =>
  obtain ⟨k, hk, hkm, rfl, hO, hB⟩ := hrel
  by_cases hgo : k < n ∧ (k : Int) < m
  ·obtain ⟨hlt, hltm⟩ := hgo
   obtain ⟨b, o, x, rfl, hb, hc, ex⟩ := (hr.below hB (Nat.le_refl _)).at_ hlt
   have hz := hB.size
   have hlb : Hid ((L.take k).length ≤ 1000000) := Lib.hid (Nat.le_trans (List.length_take_le k _) (by omega))
   have HT := Lib.hid (takeT_snoc (by have := HL.out; omega) ex.out)
   have hlo := fun g e => (hO.lt g e).1
   have hO1 := hO.alloc (.cells #[.string ⟨x.toArray⟩] 9)
   go_wp2_with (at_builtin; refine wpList_appT rfl _ _ rfl w.heap.size _ _ rfl hO1 _ rfl x (cell_litT _ _ _ _ (by simp)) hlb.out (by rw [World.size_alloc]; omega) ?_)
   intro v' w2 hO2 hG2
   have hB2 := Lib.hid ((hB.alloc hz (.cells #[.string ⟨x.toArray⟩] 9)).trans (hG2.below_ (by rw [World.size_alloc]; omega) hlo))
   rw [HT.out] at hO2
   have hO3 := Lib.hid hO2
   clear hO hO1 hO2 hG2 hlo hB
   go_wp2_with fail
   go_roundw
   case rel => exact ⟨k + 1, by omega, by omega, by go_num, hO3.out, hB2.out⟩
   case measure => simp [intOf]; omega
  ·have HT : Hid (L.take k = L.take m.toNat) := Lib.hid (by
    have := HL.out
    by_cases h : k < n
    ·congr 1; omega
    ·rw [List.take_of_length_le (by omega), List.take_of_length_le (by omega)])
   have hv := hO
   rw [HT.out] at hv
   clear hO
   by_cases hlt : k < n
   ·have hm : ¬ (k : Int) < m := by omega
    clear hgo
    go_wp2
    go_ret
    exact ⟨⟨_, rfl, hv⟩, hB⟩
   ·clear hgo
    go_wp2
    go_ret
    exact ⟨⟨_, rfl, hv⟩, hB⟩
set_option maxRecDepth 100000 in
theorem upO_any {A : Option Addr} {n c : Nat} {L : List Txt} {w : World} (hr : HasT w w.heap.size A n c L) (m : Int) (hs : n ≤ 1000000) :
  Calls Try.prog 33 #[.slice A n c, .int .i64 m] w fun e w' => (∃ v, e = .returned v ∧ OwnT w' w.heap.size v (upP L m)) ∧ Below w.heap.size w w' := by
 go_enter Try.func33, Try.ntmps33
 go_wp2_with fail
 refine (cut_any hr m).mono ?_
 rintro e v ⟨⟨k, rfl, hk, hv⟩, rfl⟩
 go_wp2_with (at_builtin; refine wpList_appTs rfl _ _ rfl w.heap.size _ [] rfl (OwnT.nil_ w _) _ A k k _ rfl hv (by simp; omega) (Nat.le_refl _) ?_)
 intro v' w' hO hG
 have HO := Lib.hid hO
 have hbel := hG.below_ (Nat.le_refl _) (fun k hk => by cases hk)
 clear hO hG
 go_wp2_with fail
 go_ret
 exact ⟨⟨_, rfl, HO.out⟩, hbel⟩
end Go.Proofs.Ytmcccpbpijnbmaa
