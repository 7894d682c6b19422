/- DictW -/
import Derived.Test.YtmepdkdeanbbaaaGreatJ13
import Derived.Test.YtmepdkdeanbbaaaGreatJ17
import Derived.BigQuiet
import Derived.Deep.QuietTactic
import Derived.Deep.RegionLaw
namespace Go.Proofs.YtmepdkdeanbbaaaGreat
set_option maxRecDepth 100000
open Go.RowKit

def encE (e : Nat × Txt) : List UInt8 := enc (zig (e.1 : Int)) ++ (enc (zig (e.2.length : Int)) ++ e.2)
def encD (Q : List Pth) : List UInt8 := enc (zig (Q.length : Int)) ++ (ents Q).flatMap encE
theorem encE_len {e : Nat × Txt} (h1 : e.1 ≤ 1000) (h2 : e.2.length ≤ 12) : (encE e).length ≤ 32 := by
 have a := enc_ten (zig_lt (n := (e.1 : Int)) (by omega) (by omega))
 have b := enc_ten (zig_lt (n := (e.2.length : Int)) (by omega) (by omega))
 simp only [encE, List.length_append]
 omega
theorem flat_take {α β : Type} (f : α → List β) {l : List α} {k : Nat} {x : α} (h : l[k]? = some x) : (l.take (k + 1)).flatMap f = (l.take k).flatMap f ++ f x := by
 rw [List.take_add_one, h]
 simp
theorem Good.ent_bd {n : Nat} {Q : List Pth} (h : Good n Q) {i a : Nat} {s : Txt} (hi : (ents Q)[i]? = some (a, s)) : a ≤ 40 ∧ s.length ≤ 12 := by
 have hlt : i < Q.length := by have := (List.getElem?_eq_some_iff.1 hi).1; rwa [ents_len] at this
 have hq := ents_get (List.getElem?_eq_getElem hlt)
 rw [hi] at hq
 simp only [Option.some.injEq, Prod.mk.injEq] at hq
 obtain ⟨rfl, rfl⟩ := hq
 have hm := List.getElem_mem hlt
 have hs := h.size
 refine ⟨Nat.le_trans fnd_le hs, ?_⟩
 have hne : Q[i] ≠ [] := fun e => h.ne_nil (e ▸ hm)
 have h1 : Q[i].getLastD [] ∈ Q[i] := by
  rw [List.getLastD_eq_getLast?, List.getLast?_eq_some_getLast hne]
  exact List.getLast_mem hne
 exact (h.nam _ hm _ h1).2.1

set_option maxRecDepth 100000 in
set_option maxHeartbeats 2000000 in
theorem putD_any {w : World} {base g : Nat} {pv : Value} {bm n : Nat} {Q : List Pth} (h : Dc w base g pv bm n Q) {A : Option Addr} {m c : Nat} {l : List UInt8} (hb : HasB w w.heap.size A m c l) (hm : m ≤ 100000) :
  Calls Tryz.prog 62 #[.pointer (some ⟨g, 0, none⟩), .slice A m c] w fun e w' => ∃ v, e = .returned v ∧ OwnB w' w.heap.size 5 v (l ++ encD Q) ∧ Below w.heap.size w w' := by
 have hcl := clone_any A m c l w hb (by omega)
 obtain ⟨A2, cap, rfl, hE⟩ := h.form
 have hE' := Lib.hid hE
 have hcap := hE.cap
 clear hE
 have hD := Lib.hid h
 have hQ := h.good.size
 have hll : l.length = m := hb.len
 have hz := zig_lt (n := (Q.length : Int)) (by omega) (by omega)
 have hten := Lib.hid (enc_ten hz)
 have HL := Lib.hid hll
 clear hz hll
 go_enter Tryz.func62, Tryz.ntmps62
 go_wp2_with fail
 refine hcl.mono ?_
 rintro e w1 ⟨⟨v1, rfl, hO1⟩, hB1⟩
 have hs1 := hB1.size
 clear hcl
 go_wp2_with fail
 refine (len_any (hD.out.below hB1)).mono ?_
 rintro e w1' ⟨rfl, rfl⟩
 have hlo1 := fun k e => (hO1.lt k e).1
 go_wp2_with fail
 refine (putInt_own v1 l (Q.length : Int) (by omega) (by omega) w1 w.heap.size hO1 hs1 (by have := HL.out; omega)).mono ?_
 rintro e w2 ⟨v2, rfl, hO2, hG2⟩
 have hB2 := hB1.trans (hG2.below_ hs1 hlo1)
 have hs2 := hB2.size
 have hD2 := hD.out.below hB2
 have c1 := hD2.c1
 have HO2 := Lib.hid hO2
 clear hO1 hlo1 hG2 hB1 hD2 hO2 hs1
 go_wp2_with fail
 go_loopw [5, 18] (fun v i wr => ∃ k : Nat, k ≤ Q.length ∧ i = .int .i64 k ∧ OwnB wr w.heap.size 5 v (l ++ enc (zig (Q.length : Int)) ++ ((ents Q).take k).flatMap encE) ∧ Below w.heap.size w wr ∧ Hid ((((ents Q).take k).flatMap encE).length ≤ 32 * k)) (fun _ i _ => Q.length - (intOf i).toNat)
 case atStart => exact ⟨0, Nat.zero_le _, rfl, by simpa using HO2.out, hB2, Lib.hid (by simp)⟩
 case round =>
  obtain ⟨k, hk, rfl, hO, hB, hle⟩ := hrel
  by_cases hlt : k < Q.length
  ·obtain ⟨a, s, hent⟩ : ∃ a s, Hid ((ents Q)[k]? = some (a, s)) := by
    have := ents_get (List.getElem?_eq_getElem hlt)
    exact ⟨_, _, Lib.hid this⟩
   obtain ⟨ha40, hs12⟩ := hD.out.good.ent_bd hent.out
   obtain ⟨b, o, rfl, hb1, hc0, hc1⟩ := (hE'.out.below hB).has k a s hent.out
   have hlo := fun k e => (hO.lt k e)
   have hs := hB.size
   have hk0 : (0 : Int) ≤ (k : Int) := by omega
   have hk1 : (k : Int) < (Q.length : Int) := by omega
   have hft := Lib.hid (flat_take encE hent.out)
   have hel := Lib.hid (encE_len (e := (a, s)) (by omega) hs12)
   have Hle2 : Hid ((((ents Q).take (k + 1)).flatMap encE).length ≤ 32 * (k + 1)) := Lib.hid (by rw [hft.out, List.length_append]; have := hle.out; have := hel.out; omega)
   have Hll : Hid ((l ++ enc (zig (Q.length : Int)) ++ ((ents Q).take k).flatMap encE).length ≤ 200000) := Lib.hid (by
    simp only [List.length_append]
    have h1 := hle.out; have h2 := hten.out; have h3 := HL.out
    omega)
   have hbk := Block.new wr 168 #[.int .i64 (a : Int), .string ⟨s.toArray⟩]
   have hO3 := hO.alloc (.cells #[.int .i64 (a : Int), .string ⟨s.toArray⟩] 168)
   have hc1' : wr.cell? ⟨b, o + k * 2 + 1, none⟩ = some (.string ⟨s.toArray⟩) := hc1
   have hO3' : OwnB (wr.alloc (.cells #[.int .i64 (a : Int), .string ⟨s.toArray⟩] 168)).drew w.heap.size 5 u5 (l ++ enc (zig (Q.length : Int)) ++ ((ents Q).take k).flatMap encE) := hO3.drewN 1
   have hbs : w.heap.size ≤ (wr.alloc (.cells #[.int .i64 (a : Int), .string ⟨s.toArray⟩] 168)).drew.heap.size := by simp; omega
   have hne : u5.ownBlock ≠ some wr.heap.size := fun e => by have := (hlo _ e).2; omega
   have hbe : Below w.heap.size w (wr.alloc (.cells #[.int .i64 (a : Int), .string ⟨s.toArray⟩] 168)).drew := below_drewN (hB.alloc hs _) 1
   have hbk' : Block (wr.alloc (.cells #[.int .i64 (a : Int), .string ⟨s.toArray⟩] 168)).drew wr.heap.size 168 _ := hbk.drewN 1
   have Ha : Hid (((a : Int) ≤ 40 ∧ s.length ≤ 12)) := Lib.hid (by omega)
   have hput : ∀ v3 w3, w.heap.size ≤ w3.heap.size → OwnB w3 w.heap.size 5 v3 (l ++ enc (zig (Q.length : Int)) ++ ((ents Q).take k).flatMap encE ++ enc (zig (a : Int))) →
     Calls Tryz.prog 121 #[v3, .string ⟨s.toArray⟩] w3 fun e w' => ∃ v', e = .returned v' ∧ OwnB w' w.heap.size 5 v' (l ++ enc (zig (Q.length : Int)) ++ ((ents Q).take (k + 1)).flatMap encE) ∧ Below w.heap.size w3 w' := fun v3 w3 hs3 ho3 => by
    have h1 := putText_own v3 _ s w3 w.heap.size ho3 hs3 (by
     have h2 := Hll.out
     have h3 := enc_ten (zig_lt (n := (a : Int)) (by omega) (by omega))
     rw [List.length_append]
     omega)
    rw [hft.out]
    simpa only [encE, List.append_assoc] using h1
   have HP := Lib.hid hput
   have HI := Lib.hid (putInt_own u5 _ (a : Int) (by omega) (by omega) _ w.heap.size hO3' hbs (by have := Hll.out; omega))
   have Hbe := Lib.hid hbe
   have Hbk := Lib.hid hbk'
   have Hlo := Lib.hid (fun k e => (hlo k e).1)
   have Hbs := Lib.hid hbs
   clear hput hO3 hO3' hbe hbk hbk' hlo hbs hB hc1 hle hO
   go_wp2_with fail
   go_region_with (first
    | (go_at_call 119; refine HI.out.mono ?_; rintro e w3 ⟨v3, rfl, hO4, hG4⟩; have hbk3 := Hbk.out.grown hG4.1 hne; have d1 : w3.cell? ⟨wr.heap.size, 1, none⟩ = some (.string ⟨s.toArray⟩) := hbk3.cell 1; have hB3 := Hbe.out.trans (hG4.below_ Hbs.out Hlo.out))
    | (go_at_call 121; refine (HP.out v3 w3 hB3.size hO4).mono ?_; rintro e w4 ⟨v4, rfl, hO5, hB5⟩))
   all_goals
    have hF := Lib.hid (show OwnB w4 w.heap.size 5 v4 _ ∧ Below w.heap.size w w4 from ⟨hO5, hB3.trans hB5⟩)
    clear hO5 hB5 hB3 hO4 hG4 hbk3 d1
    go_wp2_with fail
    go_roundw
    case rel => exact ⟨k + 1, by omega, by go_num, hF.out.1, hF.out.2, Hle2⟩
    case measure => simp [intOf]; omega
  ·have hke : Hid (((ents Q).take k).flatMap encE = (ents Q).flatMap encE) := Lib.hid (by rw [List.take_of_length_le (by rw [ents_len]; omega)])
   go_wp2_with fail
   go_ret
   exact ⟨_, rfl, by rw [hke.out, List.append_assoc] at hO; exact hO, hB⟩
end Go.Proofs.YtmepdkdeanbbaaaGreat
