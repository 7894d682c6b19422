/- WirePut -/
import Derived.Test.YtmcccpbpijnbmaaDoorJ1
import Derived.Test.YtmcccpbpijnbmaaDoorJ9
import Derived.OwnWalk
namespace Go.Proofs.YtmcccpbpijnbmaaDoor
set_option maxRecDepth 100000
open Go.RowKit

theorem or128 : ∀ q : Fin 256, q.val ||| 128 = q.val % 128 + 128 := by decide +kernel
theorem on_is (u : Nat) : bits .or .u8 ((u : Int) % 256) 128 = ((u % 128 + 128 : Nat) : Int) := by
 rw [show (u : Int) % 256 = ((u % 256 : Nat) : Int) from by omega, show (128 : Int) = ((128 : Nat) : Int) from rfl, u8_or_nat _ _ (Nat.mod_lt _ (by decide)) (by decide), or128 ⟨u % 256, Nat.mod_lt _ (by decide)⟩]
 show (((u % 256 % 128 + 128 : Nat)) : Int) = _
 omega

def PutAt (w0 : World) (v0 : Value) (n : Int) (l L : List UInt8) (base : Nat) (a' : Act) (w' : World) : Prop :=
 ∃ (v : Value) (u : Nat) (u6 u7 u8 u9 u10 u11 u12 u13 u14 u15 u16 u17 u18 u19 u20 u21 u22 : Value), a' = { tmps := #[v, .int .i64 n, undef, undef, .slice none 0 0, .int .u64 u, u6, u7, u8, u9, u10, u11, u12, u13, u14, u15, u16, u17, u18, u19, u20, u21, u22], defers := [] } ∧ u < 18446744073709551616 ∧ Hid (∃ pre, OwnB w' base 5 v (l ++ pre) ∧ Grew w0 v0 w' v ∧ pre ++ enc u = L)
def putLeft (a' : Act) (_ : World) : Nat := (intOf (a'.tmps.getD 5 undef)).toNat
theorem one_is {w : World} {u : Nat} (h : u < 256) : HasB (w.alloc (.cells #[.int .u8 (u : Int)] 5)) (w.heap.size + 1) (some ⟨w.heap.size, 0, none⟩) 1 1 [UInt8.ofNat u] :=
 HasB.litAt w [UInt8.ofNat u] #[.int .u8 (u : Int)] (by simp only [List.map_cons, List.map_nil, byt, UInt8.toNat_ofNat', Nat.mod_eq_of_lt h]) 5 (0, 0) 1 rfl (by decide) w.heap.size rfl
set_option maxRecDepth 100000 in
set_option maxHeartbeats 1000000 in
theorem putInt_own (v0 : Value) (l : List UInt8) (n : Int) (h : -9223372036854775808 ≤ n) (h' : n ≤ 9223372036854775807) (w : World) (base : Nat) (ho : OwnB w base 5 v0 l) (hb : base ≤ w.heap.size) (hl : l.length + 10 ≤ 140737488355328) :
  Calls Tryd.prog 32 #[v0, .int .i64 n] w fun e w' => ∃ v', e = .returned v' ∧ OwnB w' base 5 v' (l ++ enc (zig n)) ∧ Grew w v0 w' v' := by
 obtain ⟨i0, hi, hz0, hz1, hz2⟩ := info_parts info_u8
 have hzl := Lib.hid (zig_lt h h')
 have Hl := Lib.hid hl
 clear hl
 go_enter Tryd.func32, Tryd.ntmps32
 go_wp2
 refine wp_scope_jumps 0 (PutAt w v0 n l (enc (zig n)) base) putLeft rfl ?_ ?_
 ·go_wp2_with fail
  refine (folded_any n h h' _).mono ?_
  rintro e w' ⟨rfl, rfl⟩
  have Hn := Lib.hid h
  have Hn' := Lib.hid h'
  clear h h'
  generalize hz : zig n = u at hzl ⊢
  have Hz := Lib.hid hz
  clear hz
  have hsz : base ≤ w.heap.size + 1 := by omega
  by_cases hu : u < 128
  ·obtain ⟨x, hxe, hone⟩ : ∃ x : UInt8, Hid (x = UInt8.ofNat u) ∧ Hid (HasB (w.alloc (.cells #[.int .u8 (u : Int)] 5)) (w.heap.size + 1) (some ⟨w.heap.size, 0, none⟩) 1 1 [x]) := ⟨_, Lib.hid rfl, Lib.hid (one_is (w := w) (u := u) (by omega))⟩
   go_wp2
   go_step3
   go_wp2_with (at_builtin; refine wpList_app4 _ rfl _ _ 22 rfl base 5 i0 (.int .u8 0) Tryd.underlying22 hi hz0 hz1 hz2 rfl v0 l rfl (ho.alloc _) (w.heap.size + 1) _ 1 1 _ rfl hone.out (by have := Hl.out; omega) (by simp; exact hsz) ?_)
   intro v2 w2 ho2 hg2
   have hfin : Hid (OwnB w2 base 5 v2 (l ++ enc u) ∧ Grew w v0 w2 v2) := Lib.hid ⟨by rw [enc_small hu, ← hxe.out]; exact ho2, ((Grew.refl w v0).alloc _).trans hg2⟩
   clear ho2 hg2
   go_wp2
   simp only [Exit.jump]
   go_ret
   exact ⟨v2, rfl, by rw [Hz.out]; exact hfin.out.1, hfin.out.2⟩
  ·have hon := on_is u
   obtain ⟨x, hxe, hone⟩ : ∃ x : UInt8, Hid (x = UInt8.ofNat (u % 128 + 128)) ∧ Hid (HasB (w.alloc (.cells #[.int .u8 ((u % 128 + 128 : Nat) : Int)] 5)) (w.heap.size + 1) (some ⟨w.heap.size, 0, none⟩) 1 1 [x]) := ⟨_, Lib.hid rfl, Lib.hid (one_is (w := w) (u := u % 128 + 128) (by omega))⟩
   go_wp2
   go_step3
   go_wp2_with (at_builtin; refine wpList_app4 _ rfl _ _ 22 rfl base 5 i0 (.int .u8 0) Tryd.underlying22 hi hz0 hz1 hz2 rfl v0 l rfl (ho.alloc _) (w.heap.size + 1) _ 1 1 _ rfl hone.out (by have := Hl.out; omega) (by simp; exact hsz) ?_)
   intro v2 w2 ho2 hg2
   have hfin : Hid (∃ pre, OwnB w2 base 5 v2 (l ++ pre) ∧ Grew w v0 w2 v2 ∧ pre ++ enc (u / 128) = enc (zig n)) := Lib.hid ⟨[x], ho2, ((Grew.refl w v0).alloc _).trans hg2, by rw [Hz.out, enc_big hu, ← hxe.out]; rfl⟩
   clear ho2 hg2
   go_wp2
   go_step3
   exact ⟨rfl, v2, u / 128, _, _, _, _, _, _, _, _, _, _, _, _, _, _, _, _, _, rfl, by have := hzl.out; omega, hfin⟩
 ·have Hn := Lib.hid h
  have Hn' := Lib.hid h'
  clear h h'
  rintro a' w' ⟨v, u, u6, u7, u8, u9, u10, u11, u12, u13, u14, u15, u16, u17, u18, u19, u20, u21, u22, rfl, hu, hx⟩
  obtain ⟨pre, ho1, hg1, hp⟩ := hx.out
  have Hu := Lib.hid hu
  have Hp := Lib.hid hp
  clear hu hp hx
  have hs1 := hg1.1.size
  have hsz : base ≤ w'.heap.size + 1 := by omega
  have Hpl : Hid ((l ++ pre).length + 1 ≤ 140737488355328) := Lib.hid (by
   have h1 := congrArg List.length Hp.out
   have h2 := enc_ten hzl.out
   have h3 := Hl.out
   have h4 := enc_pos u
   rw [List.length_append] at h1 ⊢
   omega)
  by_cases hs : u < 128
  ·obtain ⟨x, hxe, hone⟩ : ∃ x : UInt8, Hid (x = UInt8.ofNat u) ∧ Hid (HasB (w'.alloc (.cells #[.int .u8 (u : Int)] 5)) (w'.heap.size + 1) (some ⟨w'.heap.size, 0, none⟩) 1 1 [x]) := ⟨_, Lib.hid rfl, Lib.hid (one_is (w := w') (u := u) (by omega))⟩
   go_wp2_with (at_builtin; refine wpList_app4 _ rfl _ _ 22 rfl base 5 i0 (.int .u8 0) Tryd.underlying22 hi hz0 hz1 hz2 rfl v (l ++ pre) rfl (ho1.alloc _) (w'.heap.size + 1) _ 1 1 _ rfl hone.out Hpl.out (by simp; exact hsz) ?_)
   intro v2 w2 ho2 hg2
   have hfin : Hid (OwnB w2 base 5 v2 (l ++ enc (zig n)) ∧ Grew w v0 w2 v2) := Lib.hid ⟨by
    have h1 := Hp.out
    rw [enc_small hs, ← hxe.out] at h1
    rw [← h1]
    exact ho2, (hg1.alloc _).trans hg2⟩
   clear ho2 hg2
   go_wp2
   simp only [Exit.jump]
   go_ret
   exact ⟨v2, rfl, hfin.out.1, hfin.out.2⟩
  ·have hon := on_is u
   obtain ⟨x, hxe, hone⟩ : ∃ x : UInt8, Hid (x = UInt8.ofNat (u % 128 + 128)) ∧ Hid (HasB (w'.alloc (.cells #[.int .u8 ((u % 128 + 128 : Nat) : Int)] 5)) (w'.heap.size + 1) (some ⟨w'.heap.size, 0, none⟩) 1 1 [x]) := ⟨_, Lib.hid rfl, Lib.hid (one_is (w := w') (u := u % 128 + 128) (by omega))⟩
   go_wp2_with (at_builtin; refine wpList_app4 _ rfl _ _ 22 rfl base 5 i0 (.int .u8 0) Tryd.underlying22 hi hz0 hz1 hz2 rfl v (l ++ pre) rfl (ho1.alloc _) (w'.heap.size + 1) _ 1 1 _ rfl hone.out Hpl.out (by simp; exact hsz) ?_)
   intro v2 w2 ho2 hg2
   have hfin : Hid (∃ pre, OwnB w2 base 5 v2 (l ++ pre) ∧ Grew w v0 w2 v2 ∧ pre ++ enc (u / 128) = enc (zig n)) := Lib.hid ⟨pre ++ [x], ho2, (hg1.alloc _).trans hg2, by
    have h1 := Hp.out
    rw [enc_big hs, ← hxe.out] at h1
    rw [← h1, List.append_assoc]
    rfl⟩
   clear ho2 hg2
   go_wp2
   go_step3
   exact ⟨rfl, ⟨v2, u / 128, _, _, _, _, _, _, _, _, _, _, _, _, _, _, _, _, _, rfl, by have := Hu.out; omega, hfin⟩, by simp [putLeft, intOf]; omega⟩
end Go.Proofs.YtmcccpbpijnbmaaDoor
