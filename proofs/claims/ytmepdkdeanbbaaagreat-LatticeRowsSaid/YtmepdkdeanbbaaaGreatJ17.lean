/- WireRefP -/
import Derived.Test.YtmepdkdeanbbaaaGreatJ2
import Derived.Test.YtmepdkdeanbbaaaGreatJ12
import Derived.Lib.AppendStr
namespace Go.Proofs.YtmepdkdeanbbaaaGreat
set_option maxRecDepth 100000
open Go.RowKit

theorem strCells_is (t : List UInt8) : Lib.strCells ⟨t.toArray⟩ = t.map byt := by simp [Lib.strCells, byt]
theorem wpList_appS {w : World} {ops : Array Oper} {rest : List Oper} {o : Oper} {a : Act} {Q : Exit → Act → World → Prop} (hgd : o.guard = none) (s x : Operand)
  (ho : o.op = .call { callee := .builtin .append, args := #[s, x], argTypes := #[50, 9] })
  (base : Nat) (v : Value) (l : List UInt8) (hs : a.eval s = v) (hown : OwnB w base 5 v l) (t : List UInt8) (hx : a.eval x = .string ⟨t.toArray⟩) (hbytes : l.length + t.length ≤ 140737488355328) (hbase : base ≤ w.heap.size)
  (h : ∀ v' w', OwnB w' base 5 v' (l ++ t) → Below base w w' → wpList Tryz.prog ops Q rest (a.put o.dst v') w') : wpList Tryz.prog ops Q (o :: rest) a w := by
 obtain ⟨i, hi, hz0, hz1, hz2⟩ := info_parts info_u8
 have hsz : (⟨t.toArray⟩ : ByteArray).size = t.length := by show t.toArray.size = _; simp
 refine Lib.wpList_append_own_string w hgd s x 50 9 ho base 5 i Tryz.underlying50 Tryz.underlying9 hi hz0 hz1 hz2 v l.length (l.map byt) hs hown ⟨t.toArray⟩ hx (by rw [hsz]; unfold maxLen; omega) (by rw [hsz]; omega) hbase fun v' w' h1 h2 _ => h v' w' ?_ ?_
 ·rw [strCells_is, hsz, ← List.map_append, ← List.length_append] at h1
  exact h1
 ·exact ⟨h2.os, h2.tape, h2.output, h2.size, fun k hk => h2.block k (by omega) fun e => by have := (hown.lt k e.symm).1; omega⟩
set_option maxRecDepth 100000 in
theorem putText_own (v0 : Value) (l : List UInt8) (t : List UInt8) (w : World) (base : Nat) (ho : OwnB w base 5 v0 l) (hb : base ≤ w.heap.size) (hl : l.length + t.length + 10 ≤ 1000000000) :
  Calls Tryz.prog 121 #[v0, .string ⟨t.toArray⟩] w fun e w' => ∃ v', e = .returned v' ∧ OwnB w' base 5 v' (l ++ (enc (zig (t.length : Int)) ++ t)) ∧ Below base w w' := by
 have hz := zig_lt (n := (t.length : Int)) (by omega) (by omega)
 have hten := enc_ten hz
 have Hl := Lib.hid hl
 have Ht := Lib.hid hten
 have hp := putInt_own v0 l (t.length : Int) (by omega) (by omega) w base ho hb (by omega)
 have hlo := fun k e => (ho.lt k e).1
 go_enter Tryz.func121, Tryz.ntmps121
 go_wp2_with fail
 refine (show Calls _ _ _ _ _ from hp).mono ?_
 rintro e w1 ⟨v1, rfl, hO, hG⟩
 have hB := hG.below_ hb hlo
 have hll : Hid ((l ++ enc (zig (t.length : Int))).length + t.length ≤ 140737488355328) := Lib.hid (by rw [List.length_append]; have := Hl.out; have := Ht.out; omega)
 have hs1 := hB.size
 clear hp hG hz hten
 go_wp2_with (at_builtin; refine wpList_appS rfl _ _ rfl base _ _ rfl hO t rfl hll.out (Nat.le_trans hb hs1) ?_)
 intro v2 w2 hO2 hB2
 have hF := Lib.hid (show OwnB w2 base 5 v2 _ ∧ Below base w w2 from ⟨hO2, hB.trans hB2⟩)
 clear hO hO2 hB hB2
 go_wp2_with fail
 go_ret
 exact ⟨_, rfl, by first | exact hF.out.1 | (rw [← List.append_assoc]; exact hF.out.1), hF.out.2⟩
end Go.Proofs.YtmepdkdeanbbaaaGreat
