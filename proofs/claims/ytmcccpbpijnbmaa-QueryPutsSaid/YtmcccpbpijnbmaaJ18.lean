/- WireRefP, WirePutT -/
import Derived.Test.YtmcccpbpijnbmaaJ2
import Derived.Test.YtmcccpbpijnbmaaJ11
import Derived.Lib.AppendStr
namespace Go.Proofs.Ytmcccpbpijnbmaa
set_option maxRecDepth 100000
open Go.RowKit

def bitsL (u k : Nat) : List Int := (List.range k).map fun i => ((u / 2 ^ i % 2 : Nat) : Int)
theorem bitsL_len (u k : Nat) : (bitsL u k).length = k := by simp [bitsL]
theorem bitsL_succ (u k : Nat) : bitsL u (k + 1) = bitsL u k ++ [((u / 2 ^ k % 2 : Nat) : Int)] := by simp [bitsL, List.range_succ]
theorem bitsL_get {u k i : Nat} (h : i < k) : (bitsL u k).getD i 0 = ((u / 2 ^ i % 2 : Nat) : Int) := by simp [bitsL, List.getD_eq_getElem?_getD, h]
theorem bit_next (u k : Nat) : u / 2 ^ (k + 1) % 2 = u / 2 / 2 ^ k % 2 := by rw [Nat.pow_succ, Nat.mul_comm, Nat.div_div_eq_div_mul]
theorem half_next (h k : Nat) : h / 2 ^ (k + 1) = h / 2 ^ k / 2 := by rw [Nat.pow_succ, Nat.div_div_eq_div_mul]
theorem group_step (u i r : Nat) : (u / 2 ^ (i + 1) % 2 ^ r) * 2 + u / 2 ^ i % 2 = u / 2 ^ i % 2 ^ (r + 1) := by
 have e : u / 2 ^ (i + 1) = u / 2 ^ i / 2 := half_next u i
 rw [e]
 generalize u / 2 ^ i = x
 have h1 : 2 ^ (r + 1) = 2 * 2 ^ r := by rw [Nat.pow_succ, Nat.mul_comm]
 rw [h1, Nat.mod_mul]
 omega
theorem enc_at {u G : Nat} (h1 : u < 128 ^ (G + 1)) (h2 : G = 0 ∨ 128 ^ G ≤ u) {g : Nat} (hg : g ≤ G) : enc (u / 128 ^ g) = if g < G then UInt8.ofNat (u / 128 ^ g % 128 + 128) :: enc (u / 128 ^ (g + 1)) else [UInt8.ofNat (u / 128 ^ g % 128)] := by
 have e : u / 128 ^ (g + 1) = u / 128 ^ g / 128 := by rw [Nat.pow_succ, Nat.div_div_eq_div_mul]
 by_cases hlt : g < G
 ·rw [if_pos hlt, enc_big, e]
  have hG : 128 ^ G ≤ u := by rcases h2 with h | h <;> omega
  have h3 : 128 ^ (g + 1) ≤ 128 ^ G := Nat.pow_le_pow_right (by decide) hlt
  have h4 : 0 < 128 ^ g := Nat.pos_of_ne_zero (by simp)
  have : 128 ≤ u / 128 ^ g := by
   rw [Nat.le_div_iff_mul_le h4, Nat.mul_comm, ← Nat.pow_succ]
   omega
  omega
 ·obtain rfl : g = G := by omega
  have h4 : 0 < 128 ^ g := Nat.pos_of_ne_zero (by simp)
  have : u / 128 ^ g < 128 := by
   rw [Nat.div_lt_iff_lt_mul h4, Nat.mul_comm, ← Nat.pow_succ]
   exact h1
  rw [if_neg hlt, enc_small this, Nat.mod_eq_of_lt this]
def TopAt (u k t : Nat) : Prop := t < 64 ∧ (t = 0 ∨ u / 2 ^ t % 2 = 1) ∧ ∀ i, i < k → t < i → u / 2 ^ i % 2 = 0
theorem lt_of_zeros {u : Nat} : ∀ (k t : Nat), u < 2 ^ k → t ≤ k → (∀ i, i < k → t ≤ i → u / 2 ^ i % 2 = 0) → u < 2 ^ t
 | 0, t, h, ht, _ => by
  obtain rfl : t = 0 := by omega
  exact h
 | k + 1, t, h, ht, hz => by
  rcases Nat.lt_or_ge t (k + 1) with hlt | hge
  ·have h0 := hz k (by omega) (by omega)
   have h2 : u / 2 ^ k < 2 := by
    rw [Nat.div_lt_iff_lt_mul (Nat.pos_of_ne_zero (by simp)), Nat.mul_comm, ← Nat.pow_succ]
    exact h
   have h3 : u / 2 ^ k = 0 := by
    generalize u / 2 ^ k = x at h0 h2
    omega
   have h4 : u < 2 ^ k := by
    rcases Nat.div_eq_zero_iff.1 h3 with h | h
    ·simp at h
    ·exact h
   exact lt_of_zeros k t h4 (by omega) fun i hi hti => hz i (by omega) hti
  ·obtain rfl : t = k + 1 := by omega
   exact h
theorem TopAt.bounds {u t : Nat} (h : TopAt u 64 t) (hu : u < 18446744073709551616) : u < 128 ^ (t / 7 + 1) ∧ (t / 7 = 0 ∨ 128 ^ (t / 7) ≤ u) ∧ t / 7 ≤ 9 := by
 obtain ⟨h1, h2, h3⟩ := h
 have e : ∀ g : Nat, 128 ^ g = 2 ^ (7 * g) := fun g => by rw [show (128 : Nat) = 2 ^ 7 from rfl, ← Nat.pow_mul]
 refine ⟨?_, ?_, by omega⟩
 ·have hlt : u < 2 ^ (t + 1) := lt_of_zeros 64 (t + 1) hu (by omega) fun i hi hti => h3 i hi (by omega)
  rw [e]
  exact Nat.lt_of_lt_of_le hlt (Nat.pow_le_pow_right (by decide) (by omega))
 ·rcases h2 with h | h
  ·left; rw [h]
  ·right
   rw [e]
   have h4 : 2 ^ t ≤ u := by
    rcases Nat.lt_or_ge u (2 ^ t) with h5 | h5
    ·rw [Nat.div_eq_of_lt h5] at h; simp at h
    ·exact h5
   exact Nat.le_trans (Nat.pow_le_pow_right (by decide) (by omega)) h4
theorem topAt_step {u k t : Nat} (hk : k < 64) (h : TopAt u k t) : TopAt u (k + 1) (if u / 2 ^ k % 2 = 1 then k else t) := by
 obtain ⟨h1, h2, h3⟩ := h
 by_cases hb : u / 2 ^ k % 2 = 1
 ·rw [if_pos hb]
  exact ⟨hk, .inr hb, fun i hi hki => by omega⟩
 ·rw [if_neg hb]
  refine ⟨h1, h2, fun i hi hti => ?_⟩
  rcases Nat.lt_or_ge i k with h4 | h4
  ·exact h3 i h4 hti
  ·obtain rfl : i = k := by omega
   omega

set_option maxRecDepth 100000 in
set_option maxHeartbeats 1000000 in
theorem double_any (n : Int) (h : -9223372036854775808 ≤ n) (h' : n ≤ 9223372036854775807) (w : World) :
  Calls Try.prog 59 #[.int .i64 n] w fun e w' => ∃ v, e = .returned v ∧ OwnI w' w.heap.size v (bitsL (zig n) 64) ∧ Below w.heap.size w w' := by
 have hhalf := Lib.hid (zig_half n)
 obtain ⟨u, hzu⟩ : ∃ u, Hid (zig n = u) := ⟨_, Lib.hid rfl⟩
 by_cases hn : n < 0
 ·obtain ⟨q, hq⟩ : ∃ q : Nat, -(n + 1) = (q : Int) := ⟨(-(n + 1)).toNat, by omega⟩
  have hz2 : Hid (u / 2 = q) := Lib.hid (by rw [← hzu.out, hhalf.out, if_pos hn, hq]; simp)
  have hz1 : Hid (bitsL u 1 = [1]) := Lib.hid (by
   have : zig n % 2 = 1 := by unfold zig; rw [if_neg (by omega)]; omega
   rw [hzu.out] at this
   simp [bitsL]; omega)
  have hqb : q ≤ 9223372036854775807 := by omega
  rw [hzu.out]
  clear hhalf hzu
  go_enter Try.func59, Try.ntmps59
  go_wp2_with (at_builtin; refine wpList_appI rfl _ _ rfl w.heap.size _ _ rfl (OwnI.nil_ _ _) _ rfl 1 (cell_lit _ _ _ _ (by simp)) (by simp) (by simp) ?_)
  intro v0 w1 hO0 hG0
  have hB1 : Below w.heap.size w w1 := (below_a1 w _).trans (hG0.below_ (by simp) (fun k hk => by cases hk))
  have hO1 : OwnI w1 w.heap.size v0 (bitsL u (0 + 1)) := by rw [Nat.zero_add, hz1.out]; simpa using hO0
  clear hO0 hG0
  go_wp2_with fail
  go_loopw [0, 4, 5] (fun x v i wr => ∃ k y : Nat, k ≤ 63 ∧ i = .int .i64 k ∧ x = .int .i64 y ∧ y ≤ 9223372036854775807 ∧ Hid (y = q / 2 ^ k) ∧ OwnI wr w.heap.size v (bitsL u (k + 1)) ∧ Below w.heap.size w wr) (fun _ _ i _ => 63 - (intOf i).toNat)
  case atStart => exact ⟨0, q, Nat.zero_le _, rfl, rfl, hqb, Lib.hid (by simp), hO1, hB1⟩
  case round =>
   obtain ⟨k, y, hk, rfl, rfl, hyb, hy, hO, hB⟩ := hrel
   by_cases hlt : k < 63
   ·have hy0 : (0 : Int) ≤ (y : Int) := by omega
    have hO2 := hO.alloc (.cells #[.int .i64 ((y : Int) % 2)] 3)
    have hs := hB.size
    have hlo := fun k e => (hO.lt k e).1
    have hll : Hid ((bitsL u (k + 1)).length ≤ 1000000) := Lib.hid (by rw [bitsL_len]; omega)
    have hbs : Hid (bitsL u (k + 1 + 1) = bitsL u (k + 1) ++ [(y : Int) % 2]) := Lib.hid (by rw [bitsL_succ, bit_next, hz2.out, ← hy.out]; rfl)
    have hyn : Hid (y / 2 = q / 2 ^ (k + 1)) := Lib.hid (by rw [half_next, ← hy.out])
    go_wp2_with (at_builtin; refine wpList_appI rfl _ _ rfl w.heap.size _ _ rfl hO2 _ rfl ((y : Int) % 2) (cell_lit _ _ _ _ (by simp)) hll.out (by rw [World.size_alloc]; omega) ?_)
    intro v2 w2 hO3 hG2
    have hB2 := Lib.hid ((hB.alloc hs (.cells #[.int .i64 ((y : Int) % 2)] 3)).trans (hG2.below_ (by rw [World.size_alloc]; omega) hlo))
    rw [← hbs.out] at hO3
    have hO4 := Lib.hid hO3
    clear hO hO2 hO3 hG2 hlo hB
    go_wp2_with fail
    go_roundw
    case rel => exact ⟨k + 1, y / 2, by omega, by go_num, rfl, by omega, hyn, hO4.out, hB2.out⟩
    case measure => simp [intOf]; omega
   ·have hk63 : Hid (k = 63) := Lib.hid (by omega)
    go_wp2_with fail
    go_ret
    exact ⟨_, rfl, by have e := hk63.out; subst e; exact hO, hB⟩
 ·obtain ⟨q, rfl⟩ : ∃ q : Nat, n = (q : Int) := ⟨n.toNat, by omega⟩
  have hz2 : Hid (u / 2 = q) := Lib.hid (by rw [← hzu.out, hhalf.out, if_neg hn]; simp)
  have hz1 : Hid (bitsL u 1 = [0]) := Lib.hid (by
   have : zig (q : Int) % 2 = 0 := by unfold zig; rw [if_pos (by omega)]; omega
   rw [hzu.out] at this
   simp [bitsL]; omega)
  have hqb : q ≤ 9223372036854775807 := by omega
  rw [hzu.out]
  clear hhalf hzu
  go_enter Try.func59, Try.ntmps59
  go_wp2_with (at_builtin; refine wpList_appI rfl _ _ rfl w.heap.size _ _ rfl (OwnI.nil_ _ _) _ rfl 0 (cell_lit _ _ _ _ (by simp)) (by simp) (by simp) ?_)
  intro v0 w1 hO0 hG0
  have hB1 : Below w.heap.size w w1 := (below_a1 w _).trans (hG0.below_ (by simp) (fun k hk => by cases hk))
  have hO1 : OwnI w1 w.heap.size v0 (bitsL u (0 + 1)) := by rw [Nat.zero_add, hz1.out]; simpa using hO0
  clear hO0 hG0
  go_wp2_with fail
  go_loopw [0, 4, 5] (fun x v i wr => ∃ k y : Nat, k ≤ 63 ∧ i = .int .i64 k ∧ x = .int .i64 y ∧ y ≤ 9223372036854775807 ∧ Hid (y = q / 2 ^ k) ∧ OwnI wr w.heap.size v (bitsL u (k + 1)) ∧ Below w.heap.size w wr) (fun _ _ i _ => 63 - (intOf i).toNat)
  case atStart => exact ⟨0, q, Nat.zero_le _, rfl, rfl, hqb, Lib.hid (by simp), hO1, hB1⟩
  case round =>
   obtain ⟨k, y, hk, rfl, rfl, hyb, hy, hO, hB⟩ := hrel
   by_cases hlt : k < 63
   ·have hy0 : (0 : Int) ≤ (y : Int) := by omega
    have hO2 := hO.alloc (.cells #[.int .i64 ((y : Int) % 2)] 3)
    have hs := hB.size
    have hlo := fun k e => (hO.lt k e).1
    have hll : Hid ((bitsL u (k + 1)).length ≤ 1000000) := Lib.hid (by rw [bitsL_len]; omega)
    have hbs : Hid (bitsL u (k + 1 + 1) = bitsL u (k + 1) ++ [(y : Int) % 2]) := Lib.hid (by rw [bitsL_succ, bit_next, hz2.out, ← hy.out]; rfl)
    have hyn : Hid (y / 2 = q / 2 ^ (k + 1)) := Lib.hid (by rw [half_next, ← hy.out])
    go_wp2_with (at_builtin; refine wpList_appI rfl _ _ rfl w.heap.size _ _ rfl hO2 _ rfl ((y : Int) % 2) (cell_lit _ _ _ _ (by simp)) hll.out (by rw [World.size_alloc]; omega) ?_)
    intro v2 w2 hO3 hG2
    have hB2 := Lib.hid ((hB.alloc hs (.cells #[.int .i64 ((y : Int) % 2)] 3)).trans (hG2.below_ (by rw [World.size_alloc]; omega) hlo))
    rw [← hbs.out] at hO3
    have hO4 := Lib.hid hO3
    clear hO hO2 hO3 hG2 hlo hB
    go_wp2_with fail
    go_roundw
    case rel => exact ⟨k + 1, y / 2, by omega, by go_num, rfl, by omega, hyn, hO4.out, hB2.out⟩
    case measure => simp [intOf]; omega
   ·have hk63 : Hid (k = 63) := Lib.hid (by omega)
    go_wp2_with fail
    go_ret
    exact ⟨_, rfl, by have e := hk63.out; subst e; exact hO, hB⟩

theorem bit_far {u q : Nat} (hu : u < 18446744073709551616) (hq : 64 ≤ q) : u / 2 ^ q = 0 :=
 Nat.div_eq_of_lt (Nat.lt_of_lt_of_le hu (Nat.le_trans (Nat.le_of_eq (by decide : (18446744073709551616 : Nat) = 2 ^ 64)) (Nat.pow_le_pow_right (by decide) hq)))
theorem group_all (u g : Nat) : u / 2 ^ (7 * g + 0) % 2 ^ 7 = u / 128 ^ g % 128 := by
 rw [Nat.add_zero, Nat.pow_mul]
set_option maxRecDepth 100000 in
set_option maxHeartbeats 2000000 in
theorem refPutInt_any {A : Option Addr} {m c : Nat} {l : List UInt8} {w : World} (hr : HasB w w.heap.size A m c l) (n : Int) (h : -9223372036854775808 ≤ n) (h' : n ≤ 9223372036854775807) (hl : m ≤ 1000000000) :
  Calls Try.prog 42 #[.slice A m c, .int .i64 n] w fun e w' => ∃ v, e = .returned v ∧ OwnB w' w.heap.size 5 v (l ++ enc (zig n)) ∧ Below w.heap.size w w' := by
 obtain ⟨i0, hi, hz0, hz1, hz2⟩ := info_parts info_u8
 have hdb := double_any n h h' w
 have hu := Lib.hid (zig_lt h h')
 obtain ⟨u, hzu⟩ : ∃ u, Hid (zig n = u) := ⟨_, Lib.hid rfl⟩
 rw [hzu.out] at hdb hu ⊢
 have Hl := Lib.hid hl
 have HL := Lib.hid hr.len
 clear hzu h h' hl
 go_enter Try.func42, Try.ntmps42
 go_wp2_with fail
 refine hdb.mono ?_
 rintro e w1 ⟨v, rfl, hO, hB1⟩
 obtain ⟨g2, c2, rfl, hg1, hg2, hcap, hcm, hcell⟩ := hO.formP (by rw [bitsL_len]; omega)
 rw [bitsL_len] at hcap hcell
 have e0 := bitsL_len u 64
 simp only [e0]
 clear e0 hO hdb
 have hcell2 : Hid (∀ j, j < 64 → w1.cell? ⟨g2, j, none⟩ = some (.int .i64 ((u / 2 ^ j % 2 : Nat) : Int))) := Lib.hid fun j hj => by
  have := hcell j hj
  rwa [bitsL_get hj] at this
 clear hcell
 go_wp2_with fail
 go_loop [6, 7] (fun x i => ∃ k t : Nat, k ≤ 64 ∧ i = .int .i64 k ∧ x = .int .i64 t ∧ Hid (TopAt u k t)) (fun _ i => 64 - (intOf i).toNat)
 case atStart => exact ⟨0, 0, Nat.zero_le _, rfl, rfl, Lib.hid ⟨by decide, .inl rfl, fun i hi => by omega⟩⟩
 case round =>
  obtain ⟨k, t, hk, rfl, rfl, ht⟩ := hrel
  by_cases hlt : k < 64
  ·have hc := hcell2.out k hlt
   have hst := Lib.hid (topAt_step hlt ht.out)
   have hk0 : (0 : Int) ≤ (k : Int) := by omega
   have hk1 : (k : Int) < 64 := by omega
   rcases Nat.mod_two_eq_zero_or_one (u / 2 ^ k) with hb | hb
   ·have hc0 : w1.cell? ⟨g2, k, none⟩ = some (.int .i64 0) := by rw [hc, hb]; rfl
    clear hc
    have hst2 : Hid (TopAt u (k + 1) t) := Lib.hid (by have := hst.out; rwa [if_neg (by omega)] at this)
    clear hb hst
    go_wp2_with fail
    go_round
    case rel => exact ⟨k + 1, t, by omega, by go_num, rfl, hst2⟩
    case measure => simp [intOf]; omega
   ·have hc0 : w1.cell? ⟨g2, k, none⟩ = some (.int .i64 1) := by rw [hc, hb]; rfl
    clear hc
    have hst2 : Hid (TopAt u (k + 1) k) := Lib.hid (by have := hst.out; rwa [if_pos hb] at this)
    clear hb hst
    go_wp2_with fail
    go_round
    case rel => exact ⟨k + 1, k, by omega, by go_num, rfl, hst2⟩
    case measure => simp [intOf]; omega
  ·have hk64 : Hid (k = 64) := Lib.hid (by omega)
   have htop : Hid (TopAt u 64 t) := Lib.hid (by have := ht.out; rwa [hk64.out] at this)
   obtain ⟨hb1, hb2, hb3⟩ := htop.out.bounds hu.out
   obtain ⟨G, hG⟩ : ∃ G, Hid (t / 7 = G) := ⟨_, Lib.hid rfl⟩
   rw [hG.out] at hb1 hb2 hb3
   have Henc := Lib.hid (fun g (hg : g ≤ G) => enc_at hb1 hb2 hg)
   have htG : (t : Int) / 7 = (G : Int) := by rw [← hG.out]; rfl
   have hr1 := hr.below hB1 (Nat.le_refl _)
   have hs1 := hB1.size
   clear hb1 hb2 ht
   go_wp2_with (at_builtin; refine wpList_app4 _ rfl _ _ 46 rfl w1.heap.size 5 i0 (.int .u8 0) Try.underlying46 hi hz0 hz1 hz2 rfl _ [] rfl (OwnB.nil_ w1 _ _) _ _ m _ _ rfl hr1 (by have := Hl.out; simp; omega) (Nat.le_refl _) ?_)
   intro v3 w3 hO3 hG3
   have hB3 := hG3.below_ (Nat.le_refl _) (fun k hk => by cases hk)
   clear hG3 hr1
   go_wp2_with fail
   go_loopw [8, 9] (fun v i wr => ∃ (g : Nat) (pre : List UInt8), g ≤ G + 1 ∧ i = .int .i64 g ∧ OwnB wr w1.heap.size 5 v (l ++ pre) ∧ Below w1.heap.size w1 wr ∧ Hid (pre.length = g ∧ (g ≤ G → pre ++ enc (u / 128 ^ g) = enc u) ∧ (g = G + 1 → pre = enc u))) (fun _ i _ => G + 1 - (intOf i).toNat)
   case atStart => exact ⟨0, [], Nat.zero_le _, rfl, by simpa using hO3, hB3, Lib.hid ⟨rfl, fun _ => by simp, fun h => by omega⟩⟩
   case round =>
    obtain ⟨g, pre, hg, rfl, hO, hB, hp⟩ := hrel
    by_cases hgG : g ≤ G
    ·have hgG' : (g : Int) ≤ (G : Int) := by omega
     go_wp2_with fail
     go_loop [10, 11] (fun x i => ∃ r y : Nat, r ≤ 7 ∧ x = .int .i64 y ∧ y < 128 ∧ ((i = .int .i64 (-1) ∧ r = 0) ∨ ∃ r', i = .int .i64 (r' : Nat) ∧ r = r' + 1) ∧ Hid (y = u / 2 ^ (7 * g + r) % 2 ^ (7 - r))) (fun _ i => (intOf i + 1).toNat)
     case atStart => exact ⟨7, 0, Nat.le_refl _, rfl, by decide, .inr ⟨6, rfl, rfl⟩, Lib.hid (by simp [Nat.mod_one])⟩
     case round =>
      obtain ⟨r, y, hr7, rfl, hy, hir, hyv⟩ := hrel
      rcases hir with ⟨rfl, rfl⟩ | ⟨r', rfl, rfl⟩
      ·have hyg : Hid (y = u / 128 ^ g % 128) := Lib.hid (by rw [hyv.out]; exact group_all u g)
       clear hyv
       have hs := hB.size
       have hlo := fun k e => (hO.lt k e).1
       have hpl : Hid ((l ++ pre).length + 1 ≤ 140737488355328) := Lib.hid (by rw [List.length_append, HL.out, hp.out.1]; have := Hl.out; omega)
       by_cases hlast : g < G
       ·have hlast' : (g : Int) < (G : Int) := by omega
        obtain ⟨x, hxe, hone⟩ : ∃ x : UInt8, Hid (x = UInt8.ofNat (y + 128)) ∧ Hid (HasB (wr.alloc (.cells #[.int .u8 ((y : Int) + 128)] 5)) (wr.heap.size + 1) (some ⟨wr.heap.size, 0, none⟩) 1 1 [x]) := ⟨_, Lib.hid rfl, Lib.hid (by have := one_is (w := wr) (u := y + 128) (by omega); simpa using this)⟩
        have hp2 : Hid ((pre ++ [x]).length = g + 1 ∧ (g + 1 ≤ G → (pre ++ [x]) ++ enc (u / 128 ^ (g + 1)) = enc u) ∧ (g + 1 = G + 1 → pre ++ [x] = enc u)) := Lib.hid ⟨by simp [hp.out.1], fun _ => by
         have h1 := hp.out.2.1 hgG
         rw [Henc.out g hgG, if_pos hlast] at h1
         rw [← h1, hxe.out, hyg.out, List.append_assoc]
         rfl, fun h => by omega⟩
        clear hyg hxe
        go_wp2_with (at_builtin; refine wpList_app4 _ rfl _ _ 46 rfl w1.heap.size 5 i0 (.int .u8 0) Try.underlying46 hi hz0 hz1 hz2 rfl _ (l ++ pre) rfl (hO.alloc _) (wr.heap.size + 1) _ 1 1 _ rfl hone.out hpl.out (by rw [World.size_alloc]; omega) ?_)
        intro v4 w4 hO4 hG4
        have hB4 := Lib.hid ((hB.alloc hs _).trans (hG4.below_ (by rw [World.size_alloc]; omega) hlo))
        have hO5 := Lib.hid hO4
        clear hO hO4 hG4 hlo hB hone
        go_wp2_with fail
        go_roundw
        case rel => exact ⟨g + 1, pre ++ [x], by omega, by go_num, hO5.out, hB4.out, hp2⟩
        case measure => simp [intOf]; omega
       ·have hlast' : ¬ (g : Int) < (G : Int) := by omega
        have hgl : g = G := by omega
        obtain ⟨x, hxe, hone⟩ : ∃ x : UInt8, Hid (x = UInt8.ofNat y) ∧ Hid (HasB (wr.alloc (.cells #[.int .u8 (y : Int)] 5)) (wr.heap.size + 1) (some ⟨wr.heap.size, 0, none⟩) 1 1 [x]) := ⟨_, Lib.hid rfl, Lib.hid (one_is (w := wr) (u := y) (by omega))⟩
        have hp2 : Hid ((pre ++ [x]).length = g + 1 ∧ (g + 1 ≤ G → (pre ++ [x]) ++ enc (u / 128 ^ (g + 1)) = enc u) ∧ (g + 1 = G + 1 → pre ++ [x] = enc u)) := Lib.hid ⟨by simp [hp.out.1], fun h => by omega, fun _ => by
         have h1 := hp.out.2.1 hgG
         rw [Henc.out g hgG, if_neg hlast] at h1
         rw [← h1, hxe.out, hyg.out]⟩
        clear hyg hxe hgl
        go_wp2_with (at_builtin; refine wpList_app4 _ rfl _ _ 46 rfl w1.heap.size 5 i0 (.int .u8 0) Try.underlying46 hi hz0 hz1 hz2 rfl _ (l ++ pre) rfl (hO.alloc _) (wr.heap.size + 1) _ 1 1 _ rfl hone.out hpl.out (by rw [World.size_alloc]; omega) ?_)
        intro v4 w4 hO4 hG4
        have hB4 := Lib.hid ((hB.alloc hs _).trans (hG4.below_ (by rw [World.size_alloc]; omega) hlo))
        have hO5 := Lib.hid hO4
        clear hO hO4 hG4 hlo hB hone
        go_wp2_with fail
        go_roundw
        case rel => exact ⟨g + 1, pre ++ [x], by omega, by go_num, hO5.out, hB4.out, hp2⟩
        case measure => simp [intOf]; omega
      ·obtain ⟨q, hq⟩ : ∃ q, Hid (7 * g + r' = q) := ⟨_, Lib.hid rfl⟩
       have hqi : 7 * (g : Int) + (r' : Int) = (q : Int) := by have := hq.out; omega
       have hg10 : g ≤ 9 := by omega
       have hstep := Lib.hid (group_step u q (6 - r'))
       have hy2 : Hid (y = u / 2 ^ (q + 1) % 2 ^ (6 - r')) := Lib.hid (by rw [hyv.out, ← hq.out, show 7 - (r' + 1) = 6 - r' by omega, Nat.add_assoc])
       rw [← hy2.out] at hstep
       have hr0 : (0 : Int) ≤ (r' : Int) := by omega
       by_cases h64 : q < 64
       ·have hc := (hB.cell (p := ⟨g2, q, none⟩) hg2).trans (hcell2.out q h64)
        obtain ⟨bt, hbt⟩ : ∃ bt, Hid (u / 2 ^ q % 2 = bt) := ⟨_, Lib.hid rfl⟩
        rw [hbt.out] at hc hstep
        have hbt1 : bt ≤ 1 := by have := hbt.out; omega
        have hq64 : (q : Int) < 64 := by omega
        have hq0 : (0 : Int) ≤ (q : Int) := by omega
        have hnew : Hid (y * 2 + bt = u / 2 ^ (7 * g + r') % 2 ^ (7 - r')) := Lib.hid (by rw [hstep.out, hq.out, show 6 - r' + 1 = 7 - r' by omega])
        have hnb : y * 2 + bt < 128 := by
         rw [hnew.out]
         exact Nat.lt_of_lt_of_le (Nat.mod_lt _ (Nat.pos_of_ne_zero (by simp))) (Nat.le_trans (Nat.pow_le_pow_right (by decide) (Nat.sub_le 7 r')) (by decide))
        clear hyv hstep hy2
        go_wp2_with fail
        go_round
        case rel =>
         refine ⟨r', y * 2 + bt, by omega, by go_num, hnb, ?_, hnew⟩
         rcases r' with _ | r2
         ·exact .inl ⟨rfl, rfl⟩
         ·exact .inr ⟨r2, by go_num, rfl⟩
        case measure => simp [intOf]
       ·have hnew : Hid (y * 2 = u / 2 ^ (7 * g + r') % 2 ^ (7 - r')) := Lib.hid (by
         have h1 := hstep.out
         have h0 : u / 2 ^ q % 2 = 0 := by rw [bit_far hu.out (by omega)]
         rw [h0] at h1
         rw [hq.out, show 7 - r' = 6 - r' + 1 by omega, ← h1]
         rfl)
        have hnb : y * 2 < 128 := by
         rw [hnew.out]
         exact Nat.lt_of_lt_of_le (Nat.mod_lt _ (Nat.pos_of_ne_zero (by simp))) (Nat.le_trans (Nat.pow_le_pow_right (by decide) (Nat.sub_le 7 r')) (by decide))
        have hq64 : ¬ (q : Int) < 64 := by omega
        clear hyv hstep hy2
        go_wp2_with fail
        go_round
        case rel =>
         refine ⟨r', y * 2, by omega, by go_num, hnb, ?_, hnew⟩
         rcases r' with _ | r2
         ·exact .inl ⟨rfl, rfl⟩
         ·exact .inr ⟨r2, by go_num, rfl⟩
        case measure => simp [intOf]
    ·have hge : Hid (pre = enc u) := Lib.hid (hp.out.2.2 (by omega))
     have hgG' : ¬ (g : Int) ≤ (G : Int) := by omega
     go_wp2_with fail
     go_ret
     exact ⟨_, rfl, by rw [← hge.out]; exact hO.low hs1, hB1.trans (hB.mono hs1)⟩
theorem strCells_is (t : List UInt8) : Lib.strCells ⟨t.toArray⟩ = t.map byt := by simp [Lib.strCells, byt]
theorem wpList_appS {w : World} {ops : Array Oper} {rest : List Oper} {o : Oper} {a : Act} {Q : Exit → Act → World → Prop} (hgd : o.guard = none) (s x : Operand)
  (ho : o.op = .call { callee := .builtin .append, args := #[s, x], argTypes := #[46, 9] })
  (base : Nat) (v : Value) (l : List UInt8) (hs : a.eval s = v) (hown : OwnB w base 5 v l) (t : List UInt8) (hx : a.eval x = .string ⟨t.toArray⟩) (hbytes : l.length + t.length ≤ 140737488355328) (hbase : base ≤ w.heap.size)
  (h : ∀ v' w', OwnB w' base 5 v' (l ++ t) → Below base w w' → wpList Try.prog ops Q rest (a.put o.dst v') w') : wpList Try.prog ops Q (o :: rest) a w := by
 obtain ⟨i, hi, hz0, hz1, hz2⟩ := info_parts info_u8
 have hsz : (⟨t.toArray⟩ : ByteArray).size = t.length := by show t.toArray.size = _; simp
 refine Lib.wpList_append_own_string w hgd s x 46 9 ho base 5 i Try.underlying46 Try.underlying9 hi hz0 hz1 hz2 v l.length (l.map byt) hs hown ⟨t.toArray⟩ hx (by rw [hsz]; unfold maxLen; omega) (by rw [hsz]; omega) hbase fun v' w' h1 h2 _ => h v' w' ?_ ?_
 ·rw [strCells_is, hsz, ← List.map_append, ← List.length_append] at h1
  exact h1
 ·exact ⟨h2.os, h2.tape, h2.output, h2.size, fun k hk => h2.block k (by omega) fun e => by have := (hown.lt k e.symm).1; omega⟩
set_option maxRecDepth 100000 in
theorem refPutText_any {A : Option Addr} {m c : Nat} {l : List UInt8} {w : World} (hr : HasB w w.heap.size A m c l) (t : List UInt8) (hl : m + t.length + 10 ≤ 1000000000) :
  Calls Try.prog 44 #[.slice A m c, .string ⟨t.toArray⟩] w fun e w' => ∃ v', e = .returned v' ∧ OwnB w' w.heap.size 5 v' (l ++ (enc (zig (t.length : Int)) ++ t)) ∧ Below w.heap.size w w' := by
 have hz := zig_lt (n := (t.length : Int)) (by omega) (by omega)
 have hten := enc_ten hz
 have Hl := Lib.hid hl
 have Ht := Lib.hid hten
 have HL := Lib.hid hr.len
 have hp := refPutInt_any hr (t.length : Int) (by omega) (by omega) (by omega)
 go_enter Try.func44, Try.ntmps44
 go_wp2_with fail
 refine (show Calls _ _ _ _ _ from hp).mono ?_
 rintro e w1 ⟨v1, rfl, hO, hB⟩
 have hll : Hid ((l ++ enc (zig (t.length : Int))).length + t.length ≤ 140737488355328) := Lib.hid (by rw [List.length_append, HL.out]; have := Hl.out; have := Ht.out; omega)
 have hs1 := hB.size
 clear hp hz hten
 go_wp2_with (at_builtin; refine wpList_appS rfl _ _ rfl w.heap.size _ _ rfl hO t rfl hll.out hs1 ?_)
 intro v2 w2 hO2 hB2
 have hF := Lib.hid (show OwnB w2 w.heap.size 5 v2 _ ∧ Below w.heap.size w w2 from ⟨hO2, hB.trans hB2⟩)
 clear hO hO2 hB hB2
 go_wp2_with fail
 go_ret
 exact ⟨_, rfl, by first | exact hF.out.1 | (rw [← List.append_assoc]; exact hF.out.1), hF.out.2⟩
end Go.Proofs.Ytmcccpbpijnbmaa
namespace Go.Proofs.Ytmcccpbpijnbmaa
set_option maxRecDepth 100000
open Go.RowKit

theorem wpList_appSg {w : World} {ops : Array Oper} {rest : List Oper} {o : Oper} {a : Act} {Q : Exit → Act → World → Prop} (hgd : o.guard = none) (s x : Operand)
  (ho : o.op = .call { callee := .builtin .append, args := #[s, x], argTypes := #[46, 9] })
  (base : Nat) (v : Value) (l : List UInt8) (hs : a.eval s = v) (hown : OwnB w base 5 v l) (t : List UInt8) (hx : a.eval x = .string ⟨t.toArray⟩) (hbytes : l.length + t.length ≤ 140737488355328) (hbase : base ≤ w.heap.size)
  (h : ∀ v' w', OwnB w' base 5 v' (l ++ t) → w.grownBy w' v.ownBlock → wpList Try.prog ops Q rest (a.put o.dst v') w') : wpList Try.prog ops Q (o :: rest) a w := by
 obtain ⟨i, hi, hz0, hz1, hz2⟩ := info_parts info_u8
 have hsz : (⟨t.toArray⟩ : ByteArray).size = t.length := by show t.toArray.size = _; simp
 refine Lib.wpList_append_own_string w hgd s x 46 9 ho base 5 i Try.underlying46 Try.underlying9 hi hz0 hz1 hz2 v l.length (l.map byt) hs hown ⟨t.toArray⟩ hx (by rw [hsz]; unfold maxLen; omega) (by rw [hsz]; omega) hbase fun v' w' h1 h2 _ => h v' w' ?_ h2
 rw [strCells_is, hsz, ← List.map_append, ← List.length_append] at h1
 exact h1
set_option maxRecDepth 100000 in
theorem putText_grown (v0 : Value) (l : List UInt8) (t : List UInt8) (w : World) (base : Nat) (ho : OwnB w base 5 v0 l) (hb : base ≤ w.heap.size) (hl : l.length + t.length + 10 ≤ 1000000000) :
  Calls Try.prog 58 #[v0, .string ⟨t.toArray⟩] w fun e w' => ∃ v', e = .returned v' ∧ OwnB w' base 5 v' (l ++ (enc (zig (t.length : Int)) ++ t)) ∧ w.grownBy w' v0.ownBlock := by
 have hz := zig_lt (n := (t.length : Int)) (by omega) (by omega)
 have hten := enc_ten hz
 have Hl := Lib.hid hl
 have Ht := Lib.hid hten
 have hp := putInt_own v0 l (t.length : Int) (by omega) (by omega) w base ho hb (by omega)
 go_enter Try.func58, Try.ntmps58
 go_wp2_with fail
 refine (show Calls _ _ _ _ _ from hp).mono ?_
 rintro e w1 ⟨v1, rfl, hO, hG⟩
 have hll : Hid ((l ++ enc (zig (t.length : Int))).length + t.length ≤ 140737488355328) := Lib.hid (by rw [List.length_append]; have := Hl.out; have := Ht.out; omega)
 have hs1 := hG.1.size
 clear hp hz hten
 go_wp2_with (at_builtin; refine wpList_appSg rfl _ _ rfl base _ _ rfl hO t rfl hll.out (Nat.le_trans hb hs1) ?_)
 intro v2 w2 hO2 hB2
 have hF := Lib.hid (show OwnB w2 base 5 v2 _ ∧ w.grownBy w2 v0.ownBlock from ⟨hO2, grownBy_trans hG.1 hB2 hG.2⟩)
 clear hO hO2 hG hB2
 go_wp2_with fail
 go_ret
 exact ⟨_, rfl, by first | exact hF.out.1 | (rw [← List.append_assoc]; exact hF.out.1), hF.out.2⟩
end Go.Proofs.Ytmcccpbpijnbmaa
