/- WireRefP, WirePutT -/
import Derived.Test.YtmcccpbpijnbmaaDoorJ1
import Derived.Test.YtmcccpbpijnbmaaDoorJ11
import Derived.Lib.AppendStr
namespace Go.Proofs.YtmcccpbpijnbmaaDoor
set_option maxRecDepth 100000
open Go.RowKit

theorem strCells_is (t : List UInt8) : Lib.strCells ⟨t.toArray⟩ = t.map byt := by simp [Lib.strCells, byt]
end Go.Proofs.YtmcccpbpijnbmaaDoor
namespace Go.Proofs.YtmcccpbpijnbmaaDoor
set_option maxRecDepth 100000
open Go.RowKit

theorem wpList_appSg {w : World} {ops : Array Oper} {rest : List Oper} {o : Oper} {a : Act} {Q : Exit → Act → World → Prop} (hgd : o.guard = none) (s x : Operand)
  (ho : o.op = .call { callee := .builtin .append, args := #[s, x], argTypes := #[22, 9] })
  (base : Nat) (v : Value) (l : List UInt8) (hs : a.eval s = v) (hown : OwnB w base 5 v l) (t : List UInt8) (hx : a.eval x = .string ⟨t.toArray⟩) (hbytes : l.length + t.length ≤ 140737488355328) (hbase : base ≤ w.heap.size)
  (h : ∀ v' w', OwnB w' base 5 v' (l ++ t) → w.grownBy w' v.ownBlock → wpList Tryd.prog ops Q rest (a.put o.dst v') w') : wpList Tryd.prog ops Q (o :: rest) a w := by
 obtain ⟨i, hi, hz0, hz1, hz2⟩ := info_parts info_u8
 have hsz : (⟨t.toArray⟩ : ByteArray).size = t.length := by show t.toArray.size = _; simp
 refine Lib.wpList_append_own_string w hgd s x 22 9 ho base 5 i Tryd.underlying22 Tryd.underlying9 hi hz0 hz1 hz2 v l.length (l.map byt) hs hown ⟨t.toArray⟩ hx (by rw [hsz]; unfold maxLen; omega) (by rw [hsz]; omega) hbase fun v' w' h1 h2 _ => h v' w' ?_ h2
 rw [strCells_is, hsz, ← List.map_append, ← List.length_append] at h1
 exact h1
set_option maxRecDepth 100000 in
theorem putText_grown (v0 : Value) (l : List UInt8) (t : List UInt8) (w : World) (base : Nat) (ho : OwnB w base 5 v0 l) (hb : base ≤ w.heap.size) (hl : l.length + t.length + 10 ≤ 1000000000) :
  Calls Tryd.prog 48 #[v0, .string ⟨t.toArray⟩] w fun e w' => ∃ v', e = .returned v' ∧ OwnB w' base 5 v' (l ++ (enc (zig (t.length : Int)) ++ t)) ∧ w.grownBy w' v0.ownBlock := by
 have hz := zig_lt (n := (t.length : Int)) (by omega) (by omega)
 have hten := enc_ten hz
 have Hl := Lib.hid hl
 have Ht := Lib.hid hten
 have hp := putInt_own v0 l (t.length : Int) (by omega) (by omega) w base ho hb (by omega)
 go_enter Tryd.func48, Tryd.ntmps48
 go_wp2_with fail
 refine (show Calls _ _ _ _ _ from hp).mono ?_
 rintro e w1 ⟨v1, rfl, hO, hG⟩
 have hll : Hid ((l ++ enc (zig (t.length : Int))).length + t.length ≤ 140737488355328) := Lib.hid (by rw [List.length_append]; have := Hl.out; have := Ht.out; omega)
 have hs1 := hG.1.size
 clear hp hz hten
 go_wp2_with (at_builtin; refine wpList_appSg rfl _ _ rfl base _ _ rfl hO t rfl hll.out (Nat.le_trans hb hs1) ?_)
 intro v2 w2 hO2 hB2
 have hF := Lib.hid (show OwnB w2 base 5 v2 _ ∧ w.grownBy w2 v0.ownBlock from ⟨hO2, grownBy_trans hG.1 hB2 hG.2⟩)
 clear hO hO2 hG hB2
 go_wp2_with fail
 go_ret
 exact ⟨_, rfl, by first | exact hF.out.1 | (rw [← List.append_assoc]; exact hF.out.1), hF.out.2⟩
end Go.Proofs.YtmcccpbpijnbmaaDoor
