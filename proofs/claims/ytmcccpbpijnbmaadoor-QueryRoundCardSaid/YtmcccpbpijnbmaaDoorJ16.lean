/- WireRd, WireRefRd, WireS, BatchM, WireP, QryM, QryN -/
import Derived.Test.YtmcccpbpijnbmaaDoorJ1
import Derived.Test.YtmcccpbpijnbmaaDoorJ9
import Derived.BigQuiet
import Derived.Deep.QuietTactic
import Derived.Outline
namespace Go.Proofs.YtmcccpbpijnbmaaDoor
set_option maxRecDepth 100000
open Go.RowKit

structure Rd (T : TypeId) (w : World) (g : Nat) (A : Option Addr) (n c : Nat) (l : List UInt8) (p e : Nat) : Prop where
 block : Block w g T #[.slice A n c, .int .i64 (p : Int), .int .i64 (e : Int)]
 has : HasB w g A n c l
 at_le : p ≤ n
 err_le : e ≤ 3

section
variable {T : TypeId} {w w' : World} {g : Nat} {A : Option Addr} {n c : Nat} {l : List UInt8} {p e : Nat}
theorem Rd.c0 (h : Rd T w g A n c l p e) : w.cell? ⟨g, 0, none⟩ = some (.slice A n c) := h.block.cell 0
theorem Rd.c1 (h : Rd T w g A n c l p e) : w.cell? ⟨g, 1, none⟩ = some (.int .i64 (p : Int)) := h.block.cell 1
theorem Rd.c2 (h : Rd T w g A n c l p e) : w.cell? ⟨g, 2, none⟩ = some (.int .i64 (e : Int)) := h.block.cell 2
theorem Rd.free (h : Rd T w g A n c l p e) (i : Nat) : w.frozen? ⟨g, i, none⟩ = false := h.block.free i
theorem Rd.lt (h : Rd T w g A n c l p e) : g < w.heap.size := h.block.lt
theorem Rd.drewN (h : Rd T w g A n c l p e) (k : Nat) : Rd T (w.drewN k) g A n c l p e := ⟨h.block.drewN k, h.has.drewN k, h.at_le, h.err_le⟩
theorem Rd.grown {row : Option Nat} (h : Rd T w g A n c l p e) (hg : w.grownBy w' row) (hr : ∀ k, row = some k → g < k) : Rd T w' g A n c l p e :=
 ⟨h.block.grown hg (fun e => by have := hr _ e; omega), h.has.grown hg (Nat.le_of_lt h.lt) (fun k hk => Nat.le_of_lt (hr k hk)), h.at_le, h.err_le⟩
theorem HasB.setAbove {B i : Nat} {u : Value} (h : HasB w B A n c l) (hg : B ≤ g) : HasB (w.setCell ⟨g, i, none⟩ u) B A n c l :=
 h.keep fun b o hb => by
  apply World.cell?_of_block
  simp [World.setCell, Array.getElem?_modify]
  intro e; omega
theorem Rd.setE (h : Rd T w g A n c l p e) (e' : Nat) (he : e' ≤ 3) : Rd T (w.setCell ⟨g, 2, none⟩ (.int .i64 (e' : Int))) g A n c l p e' :=
 ⟨h.block.set_ 2 _, h.has.setAbove (Nat.le_refl _), h.at_le, he⟩
theorem Rd.setP (h : Rd T w g A n c l p e) (p' : Nat) (hp : p' ≤ n) : Rd T (w.setCell ⟨g, 1, none⟩ (.int .i64 (p' : Int))) g A n c l p' e :=
 ⟨h.block.set_ 1 _, h.has.setAbove (Nat.le_refl _), hp, h.err_le⟩
theorem Rd.below {C : Nat} (h : Rd T w g A n c l p e) (hb : Below C w w') (hg : g < C) : Rd T w' g A n c l p e :=
 ⟨h.block.below hb hg, h.has.below hb (Nat.le_of_lt hg), h.at_le, h.err_le⟩
theorem grown_set (w : World) (g i : Nat) (u : Value) : w.grownBy (w.setCell ⟨g, i, none⟩ u) (some g) :=
 ⟨rfl, rfl, rfl, by simp [World.setCell], fun k _ hk => by
  simp [World.setCell, Array.getElem?_modify]
  intro e; exact absurd (congrArg some e.symm) hk⟩
theorem grown_drewN {row : Option Nat} {a b : World} (h : a.grownBy b row) (k : Nat) : a.grownBy (b.drewN k) row := ⟨h.os, h.tape, h.output, h.size, h.block⟩
end

theorem failed_any (w : World) (g : Nat) (A : Option Addr) (n c : Nat) (l : List UInt8) (p e : Nat) (h : Rd 53 w g A n c l p e) :
  Calls Tryd.prog 20 #[.pointer (some ⟨g, 0, none⟩)] w fun x w' => x = .returned (.bool ((e : Int) != 0)) ∧ w = w' := by
 have h2 := h.c2
 go_enter Tryd.func20, Tryd.ntmps20
 go_wp2
 go_ret
 exact ⟨rfl, rfl⟩
theorem at_any (w : World) (g : Nat) (A : Option Addr) (n c : Nat) (l : List UInt8) (p e : Nat) (h : Rd 53 w g A n c l p e) :
  Calls Tryd.prog 9 #[.pointer (some ⟨g, 0, none⟩)] w fun x w' => x = .returned (.int .i64 p) ∧ w = w' := by
 have h1 := h.c1
 go_enter Tryd.func9, Tryd.ntmps9
 go_wp2
 go_ret
 exact ⟨rfl, rfl⟩

def lk (l : List UInt8) (p e : Nat) (lo hi : Int) : Int × Nat × Nat :=
 if e ≠ 0 then (0, 0, e) else if gE (l.drop p) ≠ 0 then (0, 0, gE (l.drop p)) else if gN (l.drop p) < lo ∨ hi < gN (l.drop p) then (0, 0, 2) else (gN (l.drop p), gK (l.drop p), 0)
theorem lk_err {l : List UInt8} {p e : Nat} {lo hi : Int} (h : e ≠ 0) : lk l p e lo hi = (0, 0, e) := if_pos h
theorem lk_none {l : List UInt8} {p : Nat} {lo hi : Int} (h : gE (l.drop p) ≠ 0) : lk l p 0 lo hi = (0, 0, gE (l.drop p)) := by
 unfold lk; rw [if_neg (by simp), if_pos h]
theorem lk_far {l : List UInt8} {p : Nat} {lo hi : Int} (h : gE (l.drop p) = 0) (h' : gN (l.drop p) < lo ∨ hi < gN (l.drop p)) : lk l p 0 lo hi = (0, 0, 2) := by
 unfold lk; rw [if_neg (by simp), if_neg (by simpa using h), if_pos h']
theorem lk_ok {l : List UInt8} {p : Nat} {lo hi : Int} (h : gE (l.drop p) = 0) (h' : ¬ (gN (l.drop p) < lo ∨ hi < gN (l.drop p))) : lk l p 0 lo hi = (gN (l.drop p), gK (l.drop p), 0) := by
 unfold lk; rw [if_neg (by simp), if_neg (by simpa using h), if_neg h']
theorem lk_k (l : List UInt8) (p e : Nat) (lo hi : Int) : (lk l p e lo hi).2.1 ≤ l.length - p := by
 have := (gK_le (l.drop p)).1
 rw [List.length_drop] at this
 unfold lk
 split
 ·simp
 ·split
  ·simp
  ·split
   ·simp
   ·exact this
theorem lk_n (l : List UInt8) (p e : Nat) (lo hi : Int) : -9223372036854775808 ≤ (lk l p e lo hi).1 ∧ (lk l p e lo hi).1 ≤ 9223372036854775807 := by
 have := gN_bd (l.drop p)
 unfold lk
 split
 ·simp
 ·split
  ·simp
  ·split
   ·simp
   ·exact this


def LookPost (T : TypeId) (w : World) (g : Nat) (A : Option Addr) (n c : Nat) (l : List UInt8) (p : Nat) (r : Int × Nat × Nat) (x : Ending) (w' : World) : Prop :=
 x = .returned (.tuple #[.int .i64 r.1, .int .i64 (r.2.1 : Nat)]) ∧ Rd T w' g A n c l p r.2.2 ∧ w.grownBy w' (some g)
theorem getInt_is {A : Option Addr} {n c : Nat} {l : List UInt8} {w : World} {B : Nat} (hr : HasB w B A n c l) {m : Int} {k e : Nat} (hm : gN l = m) (hk : gK l = k) (he : gE l = e) :
  Calls Tryd.prog 54 #[.slice A n c] w fun x w' => x = .returned (.tuple #[.int .i64 m, .int .i64 (k : Nat), .int .i64 (e : Nat)]) ∧ w = w' := by
 have := getInt_any A n c l w B hr
 rwa [hm, hk, he] at this
theorem at_two {r : Int × Nat × Nat} {m : Int} {k e : Nat} (h : r = (m, k, e)) : Ending.returned (.tuple #[.int .i64 m, .int .i64 (k : Nat)]) = .returned (.tuple #[.int .i64 r.1, .int .i64 (r.2.1 : Nat)]) := by rw [h]
set_option maxHeartbeats 2000000 in
theorem look_any (w : World) (g : Nat) (A : Option Addr) (n c : Nat) (l : List UInt8) (p e : Nat) (h : Rd 53 w g A n c l p e) (lo hi : Int) :
  Calls Tryd.prog 36 #[.pointer (some ⟨g, 0, none⟩), .int .i64 lo, .int .i64 hi] w (LookPost 53 w g A n c l p (lk l p e lo hi)) := by
 by_cases he : e = 0
 ·subst he
  have h0 := h.c0
  have h1 := h.c1
  have h2 : w.cell? ⟨g, 2, none⟩ = some (.int .i64 0) := h.c2
  have hf := h.free 2
  have hpn := h.at_le
  have hcap := h.has.cap
  have hcm := h.has.capMax
  have hb0 : (0 : Int) ≤ (p : Int) := by omega
  have hb1 : (p : Int) ≤ (n : Int) := by omega
  have hb2 : (n : Int) ≤ (c : Int) := by omega
  have hb3 : (p : Int) ≤ (c : Int) := by omega
  have HE := Lib.hid (gE_le (l.drop p))
  obtain ⟨m, hm⟩ : ∃ m, Hid (gN (l.drop p) = m) := ⟨_, Lib.hid rfl⟩
  obtain ⟨k, hk⟩ : ∃ k, Hid (gK (l.drop p) = k) := ⟨_, Lib.hid rfl⟩
  by_cases he0 : gE (l.drop p) = 0
  ·have He0 := Lib.hid he0
   clear he0
   by_cases hr : m < lo ∨ hi < m
   ·have Hl := Lib.hid (lk_far (lo := lo) (hi := hi) He0.out (by rw [hm.out]; exact hr))
    by_cases hcp : c = p
    case' pos => obtain rfl : n = p := by omega
    case' pos => subst hcp
    case' pos => have hd := Lib.hid (cut_all h.has)
    case' neg => have hd := Lib.hid (cut_is h.has hpn hcp)
    all_goals
     go_enter Tryd.func36, Tryd.ntmps36
     go_wp2_with fail
     refine (failed_any _ _ _ _ _ _ _ _ h).mono ?_
     rintro x w' ⟨rfl, rfl⟩
     go_wp2_with fail
     go_quiet ((go_at_call 54; exact quietS (getInt_is (hd.out.drewN _) hm.out hk.out He0.out)))
     go_wp2_with fail
     all_goals
      first
       | (exfalso; omega)
       | (go_ret2
          exact ⟨at_two (e := 2) Hl.out, by rw [Hl.out]; exact (h.setE 2 (by omega)).drewN _, grown_drewN (grown_set _ _ _ _) _⟩)
   ·have Hl := Lib.hid (lk_ok (lo := lo) (hi := hi) He0.out (by rw [hm.out]; exact hr))
    by_cases hcp : c = p
    case' pos => obtain rfl : n = p := by omega
    case' pos => subst hcp
    case' pos => have hd := Lib.hid (cut_all h.has)
    case' neg => have hd := Lib.hid (cut_is h.has hpn hcp)
    all_goals
     go_enter Tryd.func36, Tryd.ntmps36
     go_wp2_with fail
     refine (failed_any _ _ _ _ _ _ _ _ h).mono ?_
     rintro x w' ⟨rfl, rfl⟩
     go_wp2_with fail
     go_quiet ((go_at_call 54; exact quietS (getInt_is (hd.out.drewN _) hm.out hk.out He0.out)))
     go_wp2_with fail
     all_goals
      first
       | (exfalso; omega)
       | (go_ret2
          exact ⟨at_two (m := m) (k := k) (e := 0) (by rw [Hl.out, hm.out, hk.out]), by rw [Hl.out]; exact h.drewN _, grown_drewN (World.grownBy.refl _ _) _⟩)
  ·have Hl := Lib.hid (lk_none (lo := lo) (hi := hi) he0)
   have hz := Lib.hid (gE_or (l.drop p))
   obtain ⟨q, hq⟩ : ∃ q, Hid (gE (l.drop p) = q) := ⟨_, Lib.hid rfl⟩
   rw [hq.out] at he0 Hl HE
   have ht1 : ((q : Int) == 0) = false := by simpa using he0
   have ht2 : ((q : Int) != 0) = true := by simpa using he0
   by_cases hcp : c = p
   case' pos => obtain rfl : n = p := by omega
   case' pos => subst hcp
   case' pos => have hd := Lib.hid (cut_all h.has)
   case' neg => have hd := Lib.hid (cut_is h.has hpn hcp)
   all_goals
    go_enter Tryd.func36, Tryd.ntmps36
    go_wp2_with fail
    refine (failed_any _ _ _ _ _ _ _ _ h).mono ?_
    rintro x w' ⟨rfl, rfl⟩
    go_wp2_with fail
    go_quiet ((go_at_call 54; exact quietS (getInt_is (hd.out.drewN _) hm.out hk.out hq.out)))
    go_wp2_with fail
    go_ret2
    exact ⟨at_two (e := q) Hl.out, by rw [Hl.out]; exact (h.setE q HE.out).drewN _, grown_drewN (grown_set _ _ _ _) _⟩
 ·have h2 := h.c2
  have hne : ((e : Int) != 0) = true := by simpa using he
  have Hl := Lib.hid (lk_err (l := l) (p := p) (lo := lo) (hi := hi) he)
  go_enter Tryd.func36, Tryd.ntmps36
  go_wp2_with fail
  refine (failed_any _ _ _ _ _ _ _ _ h).mono ?_
  rintro x w' ⟨rfl, rfl⟩
  go_wp2_with fail
  go_ret2
  exact ⟨by rw [Hl.out]; rfl, by rw [Hl.out]; exact h, World.grownBy.refl _ _⟩

theorem int_any (w : World) (g : Nat) (A : Option Addr) (n c : Nat) (l : List UInt8) (p e : Nat) (h : Rd 53 w g A n c l p e) (lo hi : Int) :
  Calls Tryd.prog 18 #[.pointer (some ⟨g, 0, none⟩), .int .i64 lo, .int .i64 hi] w fun x w' => x = .returned (.int .i64 (lk l p e lo hi).1) ∧ Rd 53 w' g A n c l (p + (lk l p e lo hi).2.1) (lk l p e lo hi).2.2 ∧ w.grownBy w' (some g) := by
 have hk := lk_k l p e lo hi
 have hll := h.has.len
 have hnm := h.has.lenMax
 have hpn := h.at_le
 generalize hr : lk l p e lo hi = r at *
 have Hr := Lib.hid hr
 clear hr
 obtain ⟨m, k, e'⟩ := r
 have hk' : k ≤ n - p := by rw [← hll]; exact hk
 clear hk hll
 go_enter Tryd.func18, Tryd.ntmps18
 go_wp2_with fail
 refine (look_any _ _ _ _ _ _ _ _ h lo hi).mono ?_
 rw [Hr.out]
 rintro x w1 ⟨rfl, h', hg⟩
 have h1 := h'.c1
 have hf := h'.free 1
 go_wp2
 go_ret
 exact ⟨rfl, h'.setP (p + k) (by omega), grownBy_trans hg (grown_set _ _ _ _) (fun k hk => .inl hk)⟩
theorem bad_any (w : World) (g : Nat) (A : Option Addr) (n c : Nat) (l : List UInt8) (p e : Nat) (h : Rd 53 w g A n c l p e) :
  Calls Tryd.prog 57 #[.pointer (some ⟨g, 0, none⟩)] w fun x w' => x = .returned (.tuple #[]) ∧ Rd 53 w' g A n c l p (if e = 0 then 2 else e) ∧ w.grownBy w' (some g) := by
 have hf := h.free 2
 by_cases he : e = 0
 ·subst he
  have h2 : w.cell? ⟨g, 2, none⟩ = some (.int .i64 0) := h.c2
  have hR := Lib.hid (h.setE 2 (by omega))
  go_enter Tryd.func57, Tryd.ntmps57
  go_wp2_with fail
  refine (failed_any _ _ _ _ _ _ _ _ h).mono ?_
  rintro x w' ⟨rfl, rfl⟩
  go_wp2
  go_end0
  exact ⟨rfl, hR.out, grown_set _ _ _ _⟩
 ·have h2 := h.c2
  have ht2 : ((e : Int) != 0) = true := by simpa using he
  rw [if_neg he]
  go_enter Tryd.func57, Tryd.ntmps57
  go_wp2_with fail
  refine (failed_any _ _ _ _ _ _ _ _ h).mono ?_
  rintro x w' ⟨rfl, rfl⟩
  go_wp2
  go_end0
  exact ⟨rfl, h, World.grownBy.refl _ _⟩
def endE (n p e : Nat) : Nat := if e ≠ 0 then e else if p < n then 2 else 0
theorem end_any (w : World) (g : Nat) (A : Option Addr) (n c : Nat) (l : List UInt8) (p e : Nat) (h : Rd 53 w g A n c l p e) :
  Calls Tryd.prog 10 #[.pointer (some ⟨g, 0, none⟩)] w fun x w' => x = .returned (.int .i64 (endE n p e : Nat)) ∧ ∃ k, w' = w.drewN k := by
 have h0 := h.c0
 have h1 := h.c1
 have hnm := h.has.lenMax
 have hcap := h.has.cap
 have hcm := h.has.capMax
 have hpn := h.at_le
 by_cases he : e = 0
 ·subst he
  have h2 : w.cell? ⟨g, 2, none⟩ = some (.int .i64 0) := h.c2
  by_cases hp : p < n
  ·have hd : decide ((p : Nat) < n) = true := decide_eq_true hp
   have H : Hid (endE n p 0 = 2) := Lib.hid (by simp [endE, hp])
   go_enter Tryd.func10, Tryd.ntmps10
   go_wp2_with fail
   go_quiet ((go_at_call 20; exact quietS (failed_any _ _ _ _ _ _ _ _ (h.drewN _))))
   go_wp2
   go_ret
   exact ⟨by rw [H.out]; rfl, _, rfl⟩
  ·have hd : decide ((p : Nat) < n) = false := decide_eq_false hp
   have H : Hid (endE n p 0 = 0) := Lib.hid (by simp [endE, hp])
   go_enter Tryd.func10, Tryd.ntmps10
   go_wp2_with fail
   go_quiet ((go_at_call 20; exact quietS (failed_any _ _ _ _ _ _ _ _ (h.drewN _))))
   go_wp2
   go_ret
   exact ⟨by rw [H.out]; rfl, _, rfl⟩
 ·have h2 := h.c2
  have ht2 : ((e : Int) != 0) = true := by simpa using he
  have ht1 : ((e : Int) == 0) = false := by simpa using he
  have H : Hid (endE n p e = e) := Lib.hid (by simp [endE, he])
  go_enter Tryd.func10, Tryd.ntmps10
  go_wp2_with fail
  go_quiet ((go_at_call 20; exact quietS (failed_any _ _ _ _ _ _ _ _ (h.drewN _))))
  go_wp2
  go_ret
  exact ⟨by rw [H.out]; rfl, _, rfl⟩

def tx (l : List UInt8) (p e : Nat) (hi : Int) : List UInt8 × Nat × Nat :=
 let r := lk l p e 0 hi
 if r.2.2 ≠ 0 then ([], p, r.2.2) else if r.1.toNat ≤ l.length - p - r.2.1 then ((l.drop (p + r.2.1)).take r.1.toNat, p + r.2.1 + r.1.toNat, 0) else ([], p, 3)
theorem tx_err {l : List UInt8} {p e k e' : Nat} {hi m : Int} (h : lk l p e 0 hi = (m, k, e')) (he : e' ≠ 0) : tx l p e hi = ([], p, e') := by
 unfold tx; rw [h]; exact if_pos he
theorem tx_short {l : List UInt8} {p e k : Nat} {hi m : Int} (h : lk l p e 0 hi = (m, k, 0)) (hm : ¬ m.toNat ≤ l.length - p - k) : tx l p e hi = ([], p, 3) := by
 unfold tx; rw [h]; simp [hm]
theorem tx_ok {l : List UInt8} {p e k : Nat} {hi m : Int} (h : lk l p e 0 hi = (m, k, 0)) (hm : m.toNat ≤ l.length - p - k) : tx l p e hi = ((l.drop (p + k)).take m.toNat, p + k + m.toNat, 0) := by
 unfold tx; rw [h]; simp [hm]
theorem lk_pos (l : List UInt8) (p e : Nat) (hi : Int) : 0 ≤ (lk l p e 0 hi).1 := by
 unfold lk
 split
 ·simp
 ·split
  ·simp
  ·split
   ·simp
   ·show 0 ≤ gN _
    omega
def TextPost (T : TypeId) (w : World) (g : Nat) (A : Option Addr) (n c : Nat) (l : List UInt8) (r : List UInt8 × Nat × Nat) (x : Ending) (w' : World) : Prop :=
 x = .returned (.string ⟨r.1.toArray⟩) ∧ Rd T w' g A n c l r.2.1 r.2.2 ∧ w.grownBy w' (some g)
set_option maxHeartbeats 2000000 in
theorem text_any (w : World) (g : Nat) (A : Option Addr) (n c : Nat) (l : List UInt8) (p e : Nat) (h : Rd 53 w g A n c l p e) (hi : Int) :
  Calls Tryd.prog 56 #[.pointer (some ⟨g, 0, none⟩), .int .i64 hi] w (TextPost 53 w g A n c l (tx l p e hi)) := by
 have hk := lk_k l p e 0 hi
 have hm0 := lk_pos l p e hi
 have hm1 := (lk_n l p e 0 hi).2
 have hll := h.has.len
 have hnm := h.has.lenMax
 have hpn := h.at_le
 generalize hr : lk l p e 0 hi = r at *
 have Hr := Lib.hid hr
 clear hr
 obtain ⟨m, k, e'⟩ := r
 have hk' : k ≤ n - p := by rw [← hll]; exact hk
 have hm0' : 0 ≤ m := hm0
 have hm1' : m ≤ 9223372036854775807 := hm1
 have Hll := Lib.hid hll
 clear hk hll hm0 hm1
 by_cases he' : e' = 0
 ·subst he'
  by_cases hfit : m.toNat ≤ n - p - k
  ·have Ht := Lib.hid (tx_ok Hr.out (by rw [Hll.out]; exact hfit))
   by_cases hcp : c = p + k
   ·obtain rfl : n = p + k := by have := h.has.cap; omega
    subst hcp
    obtain rfl : m = 0 := by omega
    go_enter Tryd.func56, Tryd.ntmps56
    go_wp2_with fail
    refine (look_any _ _ _ _ _ _ _ _ h 0 hi).mono ?_
    rw [Hr.out]
    rintro x w1 ⟨rfl, h', hg⟩
    go_wp2_with fail
    refine (failed_any _ _ _ _ _ _ _ _ h').mono ?_
    rintro x w' ⟨rfl, rfl⟩
    have h0 := h'.c0
    have h1 := h'.c1
    have hf := h'.free 1
    have hcm := h'.has.capMax
    have hw : IntKind.i64.wrap ((p : Int) + (k : Int)) = (p : Int) + (k : Int) := IntWalk.i64_in _ (by omega)
    have hb0 : (0 : Int) ≤ (p : Int) + (k : Int) := by omega
    have hst : ∀ (u : Value) (q : Nat), (convert 22 9 (.slice A 0 0)).run Tryd.prog ((w1.drewN q).setCell ⟨g, 1, none⟩ u) = .ok (.string ⟨#[]⟩) ((w1.drewN q).setCell ⟨g, 1, none⟩ u) := fun u q =>
     run_convert_bytes_zero _ 22 5 Tryd.underlying22 Tryd.underlying5 A 0 9 Tryd.underlying9
    go_wp2_with fail
    go_quiet (fail)
    clear hw
    go_wp2_with fail
    go_ret
    exact ⟨by rw [Ht.out]; rfl, by rw [Ht.out]; exact (h'.drewN _).setP (p + k) (Nat.le_refl _), grownBy_trans (grown_drewN hg _) (grown_set _ _ _ _) (fun k hk => .inl hk)⟩
   ·obtain ⟨ad, rfl⟩ : ∃ ad, A = some ad := by
     rcases A with _ | ad
     ·have := h.has.void rfl; have := h.has.cap; omega
     ·exact ⟨ad, rfl⟩
    go_enter Tryd.func56, Tryd.ntmps56
    go_wp2_with fail
    refine (look_any _ _ _ _ _ _ _ _ h 0 hi).mono ?_
    rw [Hr.out]
    rintro x w1 ⟨rfl, h', hg⟩
    go_wp2_with fail
    refine (failed_any _ _ _ _ _ _ _ _ h').mono ?_
    rintro x w' ⟨rfl, rfl⟩
    have h0 := h'.c0
    have h1 := h'.c1
    have hf := h'.free 1
    have hcap := h'.has.cap
    have hcm := h'.has.capMax
    have hw : IntKind.i64.wrap ((p : Int) + (k : Int)) = (p : Int) + (k : Int) := IntWalk.i64_in _ (by omega)
    have hb0 : (0 : Int) ≤ (p : Int) + (k : Int) := by omega
    have hb1 : (p : Int) + (k : Int) ≤ (n : Int) := by omega
    have hb2 : (n : Int) ≤ (c : Int) := by omega
    have hb3 : (p : Int) + (k : Int) ≤ (c : Int) := by omega
    have hst : ∀ (u : Value) (q : Nat), (convert 22 9 (.slice (some (ad.add (p + k))) m.toNat (c - (p + k)))).run Tryd.prog ((w1.drewN q).setCell ⟨g, 1, none⟩ u) = .ok (.string ⟨((l.drop (p + k)).take m.toNat).toArray⟩) ((w1.drewN q).setCell ⟨g, 1, none⟩ u) := fun u q =>
     ((((cut_is h'.has (by omega) hcp).take_ m.toNat (by omega)).drewN q).setAbove (Nat.le_refl _)).string 22 5 9 Tryd.underlying22 Tryd.underlying5 Tryd.underlying9
    go_wp2_with fail
    go_quiet (fail)
    clear hw
    have hmz : m = (m.toNat : Int) := by omega
    have Hmz := Lib.hid hmz
    clear hmz
    go_wp2_with fail
    go_ret
    exact ⟨by rw [Ht.out]; rfl, by
     rw [Ht.out]
     have h3 := (h'.drewN nq).setP (p + k + m.toNat) (by omega)
     rwa [show ((p + k + m.toNat : Nat) : Int) = (p : Int) + ((k : Int) + m) from by omega] at h3, grownBy_trans (grown_drewN hg _) (grown_set _ _ _ _) (fun k hk => .inl hk)⟩
  ·have Ht := Lib.hid (tx_short Hr.out (by rw [Hll.out]; exact hfit))
   by_cases hcp : c = p + k
   ·obtain rfl : n = p + k := by have := h.has.cap; omega
    subst hcp
    have hmp : 0 < m := by omega
    go_enter Tryd.func56, Tryd.ntmps56
    go_wp2_with fail
    refine (look_any _ _ _ _ _ _ _ _ h 0 hi).mono ?_
    rw [Hr.out]
    rintro x w1 ⟨rfl, h', hg⟩
    go_wp2_with fail
    refine (failed_any _ _ _ _ _ _ _ _ h').mono ?_
    rintro x w' ⟨rfl, rfl⟩
    have h0 := h'.c0
    have h1 := h'.c1
    have hf := h'.free 2
    have h2 := h'.c2
    have hcm := h'.has.capMax
    have hw : IntKind.i64.wrap ((p : Int) + (k : Int)) = (p : Int) + (k : Int) := IntWalk.i64_in _ (by omega)
    have hb0 : (0 : Int) ≤ (p : Int) + (k : Int) := by omega
    go_wp2_with fail
    go_quiet (fail)
    clear hw
    go_wp2_with fail
    go_ret
    exact ⟨by rw [Ht.out]; rfl, by rw [Ht.out]; exact (h'.drewN _).setE 3 (by omega), grownBy_trans (grown_drewN hg _) (grown_set _ _ _ _) (fun k hk => .inl hk)⟩
   ·have hmp : ((n - (p + k) : Nat) : Int) < m := by omega
    go_enter Tryd.func56, Tryd.ntmps56
    go_wp2_with fail
    refine (look_any _ _ _ _ _ _ _ _ h 0 hi).mono ?_
    rw [Hr.out]
    rintro x w1 ⟨rfl, h', hg⟩
    go_wp2_with fail
    refine (failed_any _ _ _ _ _ _ _ _ h').mono ?_
    rintro x w' ⟨rfl, rfl⟩
    have h0 := h'.c0
    have h1 := h'.c1
    have hf := h'.free 2
    have h2 := h'.c2
    have hcap := h'.has.cap
    have hcm := h'.has.capMax
    have hw : IntKind.i64.wrap ((p : Int) + (k : Int)) = (p : Int) + (k : Int) := IntWalk.i64_in _ (by omega)
    have hb0 : (0 : Int) ≤ (p : Int) + (k : Int) := by omega
    have hb1 : (p : Int) + (k : Int) ≤ (n : Int) := by omega
    have hb2 : (n : Int) ≤ (c : Int) := by omega
    have hb3 : (p : Int) + (k : Int) ≤ (c : Int) := by omega
    go_wp2_with fail
    go_quiet (fail)
    clear hw
    go_wp2_with fail
    go_ret
    exact ⟨by rw [Ht.out]; rfl, by rw [Ht.out]; exact (h'.drewN _).setE 3 (by omega), grownBy_trans (grown_drewN hg _) (grown_set _ _ _ _) (fun k hk => .inl hk)⟩
 ·have Ht := Lib.hid (tx_err Hr.out he')
  have ht2 : ((e' : Int) != 0) = true := by simpa using he'
  go_enter Tryd.func56, Tryd.ntmps56
  go_wp2_with fail
  refine (look_any _ _ _ _ _ _ _ _ h 0 hi).mono ?_
  rw [Hr.out]
  rintro x w1 ⟨rfl, h', hg⟩
  go_wp2_with fail
  refine (failed_any _ _ _ _ _ _ _ _ h').mono ?_
  rintro x w' ⟨rfl, rfl⟩
  go_wp2_with fail
  go_ret
  exact ⟨by rw [Ht.out]; rfl, by rw [Ht.out]; exact h', hg⟩
end Go.Proofs.YtmcccpbpijnbmaaDoor
namespace Go.Proofs.YtmcccpbpijnbmaaDoor
set_option maxRecDepth 100000
open Go.RowKit

theorem refGet_is {A : Option Addr} {n c : Nat} {l : List UInt8} {w : World} {B : Nat} (hr : HasB w B A n c l) {m : Int} {k e : Nat} (hm : gN l = m) (hk : gK l = k) (he : gE l = e) :
  Calls Tryd.prog 38 #[.slice A n c] w fun x w' => x = .returned (.tuple #[.int .i64 m, .int .i64 (k : Nat), .int .i64 (e : Nat)]) ∧ w = w' := by
 have := refGet_any A n c l w B hr
 rwa [hm, hk, he] at this
theorem refBad_any (w : World) (g : Nat) (A : Option Addr) (n c : Nat) (l : List UInt8) (p e : Nat) (h : Rd 28 w g A n c l p e) :
  Calls Tryd.prog 24 #[.pointer (some ⟨g, 0, none⟩)] w fun x w' => x = .returned (.tuple #[]) ∧ Rd 28 w' g A n c l p (if e = 0 then 2 else e) ∧ w.grownBy w' (some g) := by
 have hf := h.free 2
 by_cases he : e = 0
 ·subst he
  have h2 : w.cell? ⟨g, 2, none⟩ = some (.int .i64 0) := h.c2
  have hR := Lib.hid (h.setE 2 (by omega))
  go_enter Tryd.func24, Tryd.ntmps24
  go_wp2
  go_end0
  exact ⟨rfl, hR.out, grown_set _ _ _ _⟩
 ·have h2 := h.c2
  have ht2 : ((e : Int) == 0) = false := by simpa using he
  rw [if_neg he]
  go_enter Tryd.func24, Tryd.ntmps24
  go_wp2
  go_end0
  exact ⟨rfl, h, World.grownBy.refl _ _⟩
theorem refEnd_any (w : World) (g : Nat) (A : Option Addr) (n c : Nat) (l : List UInt8) (p e : Nat) (h : Rd 28 w g A n c l p e) :
  Calls Tryd.prog 11 #[.pointer (some ⟨g, 0, none⟩)] w fun x w' => x = .returned (.int .i64 (endE n p e : Nat)) ∧ ∃ k, w' = w.drewN k := by
 have h0 := h.c0
 have h1 := h.c1
 have hnm := h.has.lenMax
 have hcap := h.has.cap
 have hcm := h.has.capMax
 have hpn := h.at_le
 by_cases he : e = 0
 ·subst he
  have h2 : w.cell? ⟨g, 2, none⟩ = some (.int .i64 0) := h.c2
  by_cases hp : p < n
  ·have hd : decide ((p : Nat) < n) = true := decide_eq_true hp
   have H : Hid (endE n p 0 = 2) := Lib.hid (by simp [endE, hp])
   go_enter Tryd.func11, Tryd.ntmps11
   go_wp2_with fail
   go_quiet (fail)
   go_wp2
   go_ret
   exact ⟨by rw [H.out]; rfl, _, rfl⟩
  ·have hd : decide ((p : Nat) < n) = false := decide_eq_false hp
   have H : Hid (endE n p 0 = 0) := Lib.hid (by simp [endE, hp])
   go_enter Tryd.func11, Tryd.ntmps11
   go_wp2_with fail
   go_quiet (fail)
   go_wp2
   go_ret
   exact ⟨by rw [H.out]; rfl, _, rfl⟩
 ·have h2 := h.c2
  have ht2 : ((e : Int) != 0) = true := by simpa using he
  have H : Hid (endE n p e = e) := Lib.hid (by simp [endE, he])
  go_enter Tryd.func11, Tryd.ntmps11
  go_wp2
  go_ret
  exact ⟨by rw [H.out]; rfl, 0, rfl⟩
def IntPost (T : TypeId) (w : World) (g : Nat) (A : Option Addr) (n c : Nat) (l : List UInt8) (p : Nat) (r : Int × Nat × Nat) (x : Ending) (w' : World) : Prop :=
 x = .returned (.int .i64 r.1) ∧ Rd T w' g A n c l (p + r.2.1) r.2.2 ∧ w.grownBy w' (some g)
set_option maxHeartbeats 2000000 in
theorem refInt_any (w : World) (g : Nat) (A : Option Addr) (n c : Nat) (l : List UInt8) (p e : Nat) (h : Rd 28 w g A n c l p e) (lo hi : Int) :
  Calls Tryd.prog 21 #[.pointer (some ⟨g, 0, none⟩), .int .i64 lo, .int .i64 hi] w (IntPost 28 w g A n c l p (lk l p e lo hi)) := by
 by_cases he : e = 0
 ·subst he
  have h0 := h.c0
  have h1 := h.c1
  have h2 : w.cell? ⟨g, 2, none⟩ = some (.int .i64 0) := h.c2
  have hf := h.free 2
  have hf1 := h.free 1
  have hpn := h.at_le
  have hcap := h.has.cap
  have hcm := h.has.capMax
  have hb0 : (0 : Int) ≤ (p : Int) := by omega
  have hb1 : (p : Int) ≤ (n : Int) := by omega
  have hb2 : (n : Int) ≤ (c : Int) := by omega
  have hb3 : (p : Int) ≤ (c : Int) := by omega
  have HE := Lib.hid (gE_le (l.drop p))
  have hkn : gK (l.drop p) ≤ n - p := by
   have h1 := (gK_le (l.drop p)).1
   rw [List.length_drop, h.has.len] at h1
   exact h1
  obtain ⟨m, hm⟩ : ∃ m, Hid (gN (l.drop p) = m) := ⟨_, Lib.hid rfl⟩
  obtain ⟨k, hk⟩ : ∃ k, Hid (gK (l.drop p) = k) := ⟨_, Lib.hid rfl⟩
  rw [hk.out] at hkn
  by_cases he0 : gE (l.drop p) = 0
  ·have He0 := Lib.hid he0
   clear he0
   by_cases hr : m < lo ∨ hi < m
   ·have Hl := Lib.hid (lk_far (lo := lo) (hi := hi) He0.out (by rw [hm.out]; exact hr))
    by_cases hcp : c = p
    case' pos => obtain rfl : n = p := by omega
    case' pos => subst hcp
    case' pos => have hd := Lib.hid (cut_all h.has)
    case' neg => have hd := Lib.hid (cut_is h.has hpn hcp)
    all_goals
     go_enter Tryd.func21, Tryd.ntmps21
     go_wp2_with fail
     go_quiet ((go_at_call 38; exact quietS (refGet_is (hd.out.drewN _) hm.out hk.out He0.out)))
     go_wp2_with fail
     all_goals
      first
       | (exfalso; omega)
       | (go_ret
          exact ⟨by rw [Hl.out]; rfl, by rw [Hl.out]; exact (h.setE 2 (by omega)).drewN _, grown_drewN (grown_set _ _ _ _) _⟩)
   ·have Hl := Lib.hid (lk_ok (lo := lo) (hi := hi) He0.out (by rw [hm.out]; exact hr))
    by_cases hcp : c = p
    case' pos => obtain rfl : n = p := by omega
    case' pos => subst hcp
    case' pos => have hd := Lib.hid (cut_all h.has)
    case' neg => have hd := Lib.hid (cut_is h.has hpn hcp)
    all_goals
     go_enter Tryd.func21, Tryd.ntmps21
     go_wp2_with fail
     go_quiet ((go_at_call 38; exact quietS (refGet_is (hd.out.drewN _) hm.out hk.out He0.out)))
     go_wp2_with fail
     all_goals
      first
       | (exfalso; omega)
       | (go_ret
          exact ⟨by rw [Hl.out, hm.out]; rfl, by rw [Hl.out, hk.out]; exact (h.setP (_ + k) (by omega)).drewN _, grown_drewN (grown_set _ _ _ _) _⟩)
  ·have Hl := Lib.hid (lk_none (lo := lo) (hi := hi) he0)
   obtain ⟨q, hq⟩ : ∃ q, Hid (gE (l.drop p) = q) := ⟨_, Lib.hid rfl⟩
   rw [hq.out] at he0 Hl HE
   have ht2 : ((q : Int) != 0) = true := by simpa using he0
   by_cases hcp : c = p
   case' pos => obtain rfl : n = p := by omega
   case' pos => subst hcp
   case' pos => have hd := Lib.hid (cut_all h.has)
   case' neg => have hd := Lib.hid (cut_is h.has hpn hcp)
   all_goals
    go_enter Tryd.func21, Tryd.ntmps21
    go_wp2_with fail
    go_quiet ((go_at_call 38; exact quietS (refGet_is (hd.out.drewN _) hm.out hk.out hq.out)))
    go_wp2_with fail
    go_ret
    exact ⟨by rw [Hl.out]; rfl, by rw [Hl.out]; exact (h.setE q HE.out).drewN _, grown_drewN (grown_set _ _ _ _) _⟩
 ·have h2 := h.c2
  have ht2 : ((e : Int) != 0) = true := by simpa using he
  have Hl := Lib.hid (lk_err (l := l) (p := p) (lo := lo) (hi := hi) he)
  go_enter Tryd.func21, Tryd.ntmps21
  go_wp2_with fail
  go_ret
  exact ⟨by rw [Hl.out]; rfl, by rw [Hl.out]; exact h, World.grownBy.refl _ _⟩
set_option maxHeartbeats 4000000 in
theorem refText_any (w : World) (g : Nat) (A : Option Addr) (n c : Nat) (l : List UInt8) (p e : Nat) (h : Rd 28 w g A n c l p e) (hi : Int) :
  Calls Tryd.prog 22 #[.pointer (some ⟨g, 0, none⟩), .int .i64 hi] w (TextPost 28 w g A n c l (tx l p e hi)) := by
 by_cases he : e = 0
 ·subst he
  have h0 := h.c0
  have h1 := h.c1
  have h2 : w.cell? ⟨g, 2, none⟩ = some (.int .i64 0) := h.c2
  have hf := h.free 2
  have hf1 := h.free 1
  have hpn := h.at_le
  have hcap := h.has.cap
  have hcm := h.has.capMax
  have Hll := Lib.hid h.has.len
  have hb0 : (0 : Int) ≤ (p : Int) := by omega
  have hb1 : (p : Int) ≤ (n : Int) := by omega
  have hb2 : (n : Int) ≤ (c : Int) := by omega
  have hb3 : (p : Int) ≤ (c : Int) := by omega
  have HE := Lib.hid (gE_le (l.drop p))
  have hkn : gK (l.drop p) ≤ n - p := by
   have h1 := (gK_le (l.drop p)).1
   rw [List.length_drop, h.has.len] at h1
   exact h1
  have hmx := (gN_bd (l.drop p)).2
  obtain ⟨m, hm⟩ : ∃ m, Hid (gN (l.drop p) = m) := ⟨_, Lib.hid rfl⟩
  obtain ⟨k, hk⟩ : ∃ k, Hid (gK (l.drop p) = k) := ⟨_, Lib.hid rfl⟩
  rw [hk.out] at hkn
  rw [hm.out] at hmx
  by_cases he0 : gE (l.drop p) = 0
  ·have He0 := Lib.hid he0
   clear he0
   by_cases hr : m < 0 ∨ hi < m
   ·have Hl := Lib.hid (tx_err (lk_far (lo := 0) (hi := hi) He0.out (by rw [hm.out]; exact hr)) (by omega))
    by_cases hcp : c = p
    case' pos => obtain rfl : n = p := by omega
    case' pos => subst hcp
    case' pos => have hd := Lib.hid (cut_all h.has)
    case' neg => have hd := Lib.hid (cut_is h.has hpn hcp)
    all_goals
     go_enter Tryd.func22, Tryd.ntmps22
     go_wp2_with fail
     go_quiet ((go_at_call 38; exact quietS (refGet_is (hd.out.drewN _) hm.out hk.out He0.out)))
     go_wp2_with fail
     all_goals
      first
       | (exfalso; omega)
       | (go_ret
          exact ⟨by rw [Hl.out]; rfl, by rw [Hl.out]; exact (h.setE 2 (by omega)).drewN _, grown_drewN (grown_set _ _ _ _) _⟩)
   ·have Hlk := Lib.hid (lk_ok (lo := 0) (hi := hi) He0.out (by rw [hm.out]; exact hr))
    have hm0 : 0 ≤ m := by omega
    have hmh : m ≤ hi := by omega
    have hlk : lk l p 0 0 hi = (m, k, 0) := by rw [Hlk.out, hm.out, hk.out]
    have Hw1 : Hid (IntKind.i64.wrap ((n : Int) - (p : Int)) = (n : Int) - (p : Int)) := Lib.hid (IntWalk.i64_in _ (by omega))
    have Hw2 : Hid (IntKind.i64.wrap ((n : Int) - (p : Int) - (k : Int)) = (n : Int) - (p : Int) - (k : Int)) := Lib.hid (IntWalk.i64_in _ (by omega))
    have hk1 : 1 ≤ k := by have := (g_tells He0.out).2.2.1; rwa [hk.out] at this
    have hcp : ¬ c = p := by omega
    have hd := Lib.hid (cut_is h.has hpn hcp)
    obtain ⟨mn, rfl⟩ := Int.eq_ofNat_of_zero_le hm0
    by_cases hfit : mn ≤ n - p - k
    ·have Ht := Lib.hid (tx_ok hlk (by rw [Hll.out]; exact hfit))
     clear hlk
     have hfm : (mn : Int) ≤ (n : Int) - (p : Int) - (k : Int) := by omega
     have hfd : decide ((n : Int) - (p : Int) - (k : Int) < (mn : Int)) = false := by simp; omega
     have Hw3 : Hid (IntKind.i64.wrap ((p : Int) + (k : Int)) = (p : Int) + (k : Int)) := Lib.hid (IntWalk.i64_in _ (by omega))
     have Hw4 : Hid (IntKind.i64.wrap ((p : Int) + (k : Int) + (mn : Int)) = (p : Int) + (k : Int) + (mn : Int)) := Lib.hid (IntWalk.i64_in _ (by omega))
     have hc0 : (0 : Int) ≤ (p : Int) + (k : Int) := by omega
     have hc1 : (p : Int) + (k : Int) ≤ (p : Int) + (k : Int) + (mn : Int) := by omega
     have hc2 : (p : Int) + (k : Int) + (mn : Int) ≤ (c : Int) := by omega
     have hc3 : (p : Int) + (k : Int) ≤ (c : Int) := by omega
     have hc4 : (p : Int) + (k : Int) + (mn : Int) ≤ (n : Int) := by omega
     by_cases hcq : c = p + k
     ·obtain rfl : n = p + k := by omega
      subst hcq
      obtain rfl : mn = 0 := by omega
      have hst : ∀ (q : Nat), (convert 22 9 (.slice A 0 0)).run Tryd.prog (w.drewN q) = .ok (.string ⟨#[]⟩) (w.drewN q) := fun q =>
       run_convert_bytes_zero _ 22 5 Tryd.underlying22 Tryd.underlying5 A 0 9 Tryd.underlying9
      have hd' : Hid (HasB w g (Option.map (fun x => x.add p) A) k k (l.drop p)) := Lib.hid (by have := hd.out; rwa [Nat.add_sub_cancel_left] at this)
      clear hd
      go_enter Tryd.func22, Tryd.ntmps22
      go_wp2_with fail
      go_quiet ((go_at_call 38; exact quietS (refGet_is (hd'.out.drewN _) hm.out hk.out He0.out)))
      go_wp2_with fail
      have hw1 := Hw1.out
      have hw2 := Hw2.out
      go_quiet (fail)
      clear hw1 hw2
      go_wp2_with fail
      have hw3 := Hw3.out
      have hw4 := Hw4.out
      go_quiet (fail)
      clear hw3 hw4
      go_wp2_with fail
      go_ret
      exact ⟨by rw [Ht.out]; rfl, by
       rw [Ht.out]
       exact (h.drewN _).setP (p + k) (Nat.le_refl _), grownBy_trans (grown_drewN (World.grownBy.refl _ _) _) (grown_set _ _ _ _) (fun k hk => .inl hk)⟩
     ·obtain ⟨ad, rfl⟩ : ∃ ad, A = some ad := by
       rcases A with _ | ad
       ·have := h.has.void rfl; have := h.has.cap; omega
       ·exact ⟨ad, rfl⟩
      have hst : ∀ (q : Nat), (convert 22 9 (.slice (some (ad.add (p + k))) mn (c - (p + k)))).run Tryd.prog (w.drewN q) = .ok (.string ⟨((l.drop (p + k)).take mn).toArray⟩) (w.drewN q) := fun q =>
       (((cut_is h.has (by omega) hcq).take_ mn (by omega)).drewN q).string 22 5 9 Tryd.underlying22 Tryd.underlying5 Tryd.underlying9
      go_enter Tryd.func22, Tryd.ntmps22
      go_wp2_with fail
      go_quiet ((go_at_call 38; exact quietS (refGet_is (hd.out.drewN _) hm.out hk.out He0.out)))
      go_wp2_with fail
      have hw1 := Hw1.out
      have hw2 := Hw2.out
      go_quiet (fail)
      clear hw1 hw2
      go_wp2_with fail
      have hw3 := Hw3.out
      have hw4 := Hw4.out
      go_quiet (fail)
      clear hw3 hw4
      go_wp2_with fail
      go_ret
      exact ⟨by rw [Ht.out]; rfl, by
       rw [Ht.out]
       exact (h.drewN _).setP (p + k + mn) (by omega), grownBy_trans (grown_drewN (World.grownBy.refl _ _) _) (grown_set _ _ _ _) (fun k hk => .inl hk)⟩
    ·have Ht := Lib.hid (tx_short hlk (by rw [Hll.out]; exact hfit))
     clear hlk
     have hfm : (n : Int) - (p : Int) - (k : Int) < (mn : Int) := by omega
     go_enter Tryd.func22, Tryd.ntmps22
     go_wp2_with fail
     go_quiet ((go_at_call 38; exact quietS (refGet_is (hd.out.drewN _) hm.out hk.out He0.out)))
     go_wp2_with fail
     have hw1 := Hw1.out
     have hw2 := Hw2.out
     go_quiet (fail)
     clear hw1 hw2
     go_wp2_with fail
     go_ret
     exact ⟨by rw [Ht.out]; rfl, by rw [Ht.out]; exact (h.drewN _).setE 3 (by omega), grownBy_trans (grown_drewN (World.grownBy.refl _ _) _) (grown_set _ _ _ _) (fun k hk => .inl hk)⟩
  ·obtain ⟨q, hq⟩ : ∃ q, Hid (gE (l.drop p) = q) := ⟨_, Lib.hid rfl⟩
   have Hl := Lib.hid (tx_err (lk_none (lo := 0) (hi := hi) he0) he0)
   rw [hq.out] at he0 Hl HE
   have ht2 : ((q : Int) != 0) = true := by simpa using he0
   by_cases hcp : c = p
   case' pos => obtain rfl : n = p := by omega
   case' pos => subst hcp
   case' pos => have hd := Lib.hid (cut_all h.has)
   case' neg => have hd := Lib.hid (cut_is h.has hpn hcp)
   all_goals
    go_enter Tryd.func22, Tryd.ntmps22
    go_wp2_with fail
    go_quiet ((go_at_call 38; exact quietS (refGet_is (hd.out.drewN _) hm.out hk.out hq.out)))
    go_wp2_with fail
    go_ret
    exact ⟨by rw [Hl.out]; rfl, by rw [Hl.out]; exact (h.setE q HE.out).drewN _, grown_drewN (grown_set _ _ _ _) _⟩
 ·have h2 := h.c2
  have ht2 : ((e : Int) != 0) = true := by simpa using he
  have Hl := Lib.hid (tx_err (lk_err (l := l) (p := p) (lo := 0) (hi := hi) he) he)
  go_enter Tryd.func22, Tryd.ntmps22
  go_wp2_with fail
  go_ret
  exact ⟨by rw [Hl.out]; rfl, by rw [Hl.out]; exact h, World.grownBy.refl _ _⟩
end Go.Proofs.YtmcccpbpijnbmaaDoor
namespace Go.Proofs.YtmcccpbpijnbmaaDoor
set_option maxRecDepth 100000

def encT (t : List UInt8) : List UInt8 := enc (zig (t.length : Int)) ++ t
def encI (x : Int) : List UInt8 := enc (zig x)
theorem encI_len {x : Int} (h : -9223372036854775808 ≤ x) (h' : x ≤ 9223372036854775807) : (encI x).length ≤ 10 := enc_ten (zig_lt h h')
theorem flat_len {α : Type} {f : α → List UInt8} {l : List α} {m : Nat} (h : ∀ x ∈ l, (f x).length ≤ m) : (l.flatMap f).length ≤ m * l.length := by
 induction l with
 | nil => simp
 | cons x r ih =>
  have h1 := h x (by simp)
  have h2 := ih fun y hy => h y (List.mem_cons_of_mem _ hy)
  rw [List.flatMap_cons, List.length_append, List.length_cons, Nat.mul_succ]
  omega
theorem flat_snoc {α : Type} {f : α → List UInt8} {l : List α} {k : Nat} {x : α} (h : l[k]? = some x) : (l.take (k + 1)).flatMap f = (l.take k).flatMap f ++ f x := by
 rw [List.take_add_one, h]
 simp
abbrev RdT (α : Type) := List UInt8 → Nat → Nat → α × Nat × Nat
def sevN {α : Type} (rd : RdT α) (l : List UInt8) (p e : Nat) : Nat → List α × Nat × Nat
 | 0 => ([], p, e)
 | k + 1 => ((sevN rd l p e k).1 ++ [(rd l (sevN rd l p e k).2.1 (sevN rd l p e k).2.2).1], (rd l (sevN rd l p e k).2.1 (sevN rd l p e k).2.2).2.1, (rd l (sevN rd l p e k).2.1 (sevN rd l p e k).2.2).2.2)
def sevA {α : Type} (rd : RdT α) (most : Nat) (l : List UInt8) (p e : Nat) : List α × Nat × Nat := sevN rd l (p + (lk l p e 0 most).2.1) (lk l p e 0 most).2.2 (lk l p e 0 most).1.toNat
theorem sevN_len {α : Type} {rd : RdT α} {l : List UInt8} {p e : Nat} : ∀ k, (sevN rd l p e k).1.length = k
 | 0 => rfl
 | k + 1 => by
  show ((sevN rd l p e k).1 ++ [_]).length = _
  rw [List.length_append, sevN_len k]; rfl
theorem sevN_step {α : Type} {rd : RdT α} {l : List UInt8} {p e k : Nat} {X : List α} {p1 e1 p2 e2 : Nat} {x : α} (h : sevN rd l p e k = (X, p1, e1)) (h2 : rd l p1 e1 = (x, p2, e2)) : sevN rd l p e (k + 1) = (X ++ [x], p2, e2) := by
 unfold sevN
 rw [h, h2]
theorem sevA_is {α : Type} {rd : RdT α} {most : Nat} {l : List UInt8} {p e a k1 e1 : Nat} (h : lk l p e 0 most = ((a : Int), k1, e1)) : sevA rd most l p e = sevN rd l (p + k1) e1 a := by
 unfold sevA
 rw [h, Int.toNat_natCast]
theorem lkN_le (l : List UInt8) (p e : Nat) {hi : Int} (h : 0 ≤ hi) : (lk l p e 0 hi).1 ≤ hi := by
 unfold lk
 split
 ·exact h
 ·split
  ·exact h
  ·split
   ·exact h
   ·show gN _ ≤ hi
    omega
theorem lkN_nat (l : List UInt8) (p e : Nat) {hi : Nat} : ∃ (a k1 e1 : Nat), lk l p e 0 (hi : Int) = ((a : Int), k1, e1) ∧ a ≤ hi := by
 have h1 := lk_pos l p e hi
 have h2 := lkN_le l p e (hi := (hi : Int)) (by omega)
 exact ⟨(lk l p e 0 hi).1.toNat, (lk l p e 0 hi).2.1, (lk l p e 0 hi).2.2, Prod.ext (by simp; omega) rfl, by omega⟩
theorem lkP {F R : List UInt8} {x lo hi : Int} (h1 : -9223372036854775808 ≤ x) (h2 : x ≤ 9223372036854775807) (hl : lo ≤ x) (hh : x ≤ hi) : lk (F ++ (encI x ++ R)) F.length 0 lo hi = (x, (encI x).length, 0) := by
 have hd : (F ++ (encI x ++ R)).drop F.length = enc (zig x) ++ R := List.drop_left
 obtain ⟨g1, g2, g3⟩ := g_put h1 h2 R
 rw [lk_ok (by rw [hd]; exact g3) (by rw [hd, g1]; omega), hd, g1, g2]
 rfl
def Back {α : Type} (rd : RdT α) (en : α → List UInt8) (x : α) : Prop := ∀ F R, rd (F ++ (en x ++ R)) F.length 0 = (x, F.length + (en x).length, 0)
theorem takeW_snoc {α : Type} {L : List α} {k : Nat} {x : α} (h : L[k]? = some x) : L.take k ++ [x] = L.take (k + 1) := by
 rw [List.take_add_one, h]; rfl
theorem sevN_back {α : Type} {rd : RdT α} {en : α → List UInt8} {L : List α} (h : ∀ x ∈ L, Back rd en x) (F R : List UInt8) : ∀ k, k ≤ L.length → sevN rd (F ++ (L.flatMap en ++ R)) F.length 0 k = (L.take k, F.length + ((L.take k).flatMap en).length, 0) := by
 intro k
 induction k with
 | zero => intro _; simp [sevN]
 | succ k ih =>
  intro hk
  have hx : L[k]? = some (L[k]'(by omega)) := List.getElem?_eq_getElem (by omega)
  generalize L[k]'(by omega) = x at hx
  have hB := h x (List.mem_of_getElem? hx)
  have e : F ++ (L.flatMap en ++ R) = (F ++ (L.take k).flatMap en) ++ (en x ++ ((L.drop (k + 1)).flatMap en ++ R)) := by
   have h1 : L.flatMap en = (L.take (k + 1)).flatMap en ++ (L.drop (k + 1)).flatMap en := by rw [← List.flatMap_append, List.take_append_drop]
   rw [h1, flat_snoc hx]
   simp only [List.append_assoc]
  have h2 := hB (F ++ (L.take k).flatMap en) ((L.drop (k + 1)).flatMap en ++ R)
  rw [← e, List.length_append] at h2
  rw [sevN_step (ih (by omega)) h2, takeW_snoc hx, flat_snoc hx, List.length_append]
  simp only [Prod.mk.injEq, true_and, and_true]
  omega
theorem sevA_back {α : Type} {rd : RdT α} {en : α → List UInt8} {L : List α} {most : Nat} (h : ∀ x ∈ L, Back rd en x) (hm : L.length ≤ most) (hm2 : most ≤ 100) (F R : List UInt8) :
  sevA rd most (F ++ (encI (L.length : Int) ++ (L.flatMap en ++ R))) F.length 0 = (L, F.length + (encI (L.length : Int) ++ L.flatMap en).length, 0) := by
 have h1 := lkP (F := F) (R := L.flatMap en ++ R) (x := (L.length : Int)) (lo := 0) (hi := (most : Int)) (by omega) (by omega) (by omega) (by omega)
 rw [sevA_is h1]
 have e : F ++ (encI (L.length : Int) ++ (L.flatMap en ++ R)) = (F ++ encI (L.length : Int)) ++ (L.flatMap en ++ R) := by rw [List.append_assoc]
 have h2 := sevN_back h (F ++ encI (L.length : Int)) R L.length (Nat.le_refl _)
 rw [List.take_of_length_le (Nat.le_refl _), List.length_append] at h2
 rw [e, h2, List.length_append]
 simp only [Prod.mk.injEq, true_and, and_true]
 omega
end Go.Proofs.YtmcccpbpijnbmaaDoor
namespace Go.Proofs.YtmcccpbpijnbmaaDoor
set_option maxRecDepth 100000

abbrev Fct := List (List Txt) × List Int
def plainF (f : Fct) : Prop := f.1.length ≤ 3 ∧ (∀ p ∈ f.1, mayP p) ∧ f.2.length ≤ 2 ∧ ∀ x ∈ f.2, inV x
instance (f : Fct) : Decidable (plainF f) := by unfold plainF; exact inferInstance
def fitF (D : List PDim) (m : Nat) (f : Fct) : Prop := plainF f ∧ f.1.length = D.length ∧ f.2.length = m ∧ ∀ i, i < D.length → (f.1.getD i []).length = (D.getD i zeroD).2.length
instance (D : List PDim) (m : Nat) (f : Fct) : Decidable (fitF D m f) := by unfold fitF; exact inferInstance
end Go.Proofs.YtmcccpbpijnbmaaDoor
namespace Go.Proofs.YtmcccpbpijnbmaaDoor
set_option maxRecDepth 100000

def encP (x : List Txt) : List UInt8 := encT (textP x)
theorem joinT_len38 : ∀ {L : List Txt}, L ≠ [] → (∀ s ∈ L, s.length ≤ 12) → (joinT L).length + 1 ≤ 13 * L.length := by
 intro L
 induction L with
 | nil => intro h; exact absurd rfl h
 | cons a p ih =>
  intro _ h
  have h1 := h a (by simp)
  by_cases hp : p = []
  ·subst hp
   simp [joinT]; omega
  ·have h2 := ih hp fun s hs => h s (List.mem_cons_of_mem _ hs)
   rw [joinT_cons a hp]
   simp; omega
theorem textP_38 {x : List Txt} (h : mayP x) : (textP x).length ≤ 38 := by
 unfold textP
 split
 ·simp
 ·rename_i hne
  have h1 := joinT_len38 hne fun s hs => (h.2 s hs).2.1
  have h2 := h.1
  omega
theorem textP_len {x : List Txt} (h : mayP x) : (textP x).length ≤ 39 := Nat.le_trans (textP_38 h) (by decide)
theorem encP_len {x : List Txt} (h : mayP x) : (encP x).length ≤ 49 := by
 have h1 := textP_len h
 have h2 := enc_ten (zig_lt (n := ((textP x).length : Int)) (by omega) (by omega))
 unfold encP encT
 rw [List.length_append]
 omega
def rdPath : RdT (List Txt) := fun l p e => ((pathP (tx l p e 38).1).getD [], (tx l p e 38).2.1, if (pathP (tx l p e 38).1).isSome then (tx l p e 38).2.2 else if (tx l p e 38).2.2 = 0 then 2 else (tx l p e 38).2.2)
theorem rdPath_yes {l : List UInt8} {p e p2 e2 : Nat} {s : Txt} {q : List Txt} (h : tx l p e 38 = (s, p2, e2)) (hq : pathP s = some q) : rdPath l p e = (q, p2, e2) := by
 unfold rdPath
 rw [h]
 simp only [hq]
 rfl
theorem rdPath_no {l : List UInt8} {p e p2 e2 : Nat} {s : Txt} (h : tx l p e 38 = (s, p2, e2)) (hq : pathP s = none) : rdPath l p e = ([], p2, if e2 = 0 then 2 else e2) := by
 unfold rdPath
 rw [h]
 simp only [hq]
 rfl
theorem tx38_len (l : List UInt8) (p e : Nat) : (tx l p e 38).1.length ≤ 38 := by
 have h := lkN_le l p e (hi := 38) (by decide)
 unfold tx
 simp only
 split
 ·simp
 ·split
  ·refine Nat.le_trans (List.length_take_le _ _) ?_
   omega
  ·simp
theorem txP {F R : List UInt8} {s : Txt} (hs : s.length ≤ 38) : tx (F ++ (encT s ++ R)) F.length 0 38 = (s, F.length + (encT s).length, 0) := by
 have e : F ++ (encT s ++ R) = F ++ (encI (s.length : Int) ++ (s ++ R)) := by unfold encT encI; simp only [List.append_assoc]
 have h1 := lkP (F := F) (R := s ++ R) (x := (s.length : Int)) (lo := 0) (hi := 38) (by omega) (by omega) (by omega) (by omega)
 have hd : (F ++ (encI (s.length : Int) ++ (s ++ R))).drop (F.length + (encI (s.length : Int)).length) = s ++ R := by
  rw [← List.append_assoc, ← List.length_append, List.drop_left]
 rw [e, tx_ok h1 (by simp), hd, Int.toNat_natCast, List.take_left]
 unfold encT encI
 rw [List.length_append, Nat.add_assoc]
theorem rdPath_back {x : List Txt} (h : mayP x) : Back rdPath encP x := fun F R => by
 exact rdPath_yes (txP (F := F) (R := R) (textP_38 h)) (pathP_text h)
end Go.Proofs.YtmcccpbpijnbmaaDoor
namespace Go.Proofs.YtmcccpbpijnbmaaDoor
set_option maxRecDepth 100000

abbrev Fil := Int × Int × List (List Txt)
abbrev Qry := List Int × List Fil
def plainFl (f : Fil) : Prop := (0 ≤ f.1 ∧ f.1 ≤ 2) ∧ (0 ≤ f.2.1 ∧ f.2.1 ≤ 3) ∧ f.2.2.length ≤ 6 ∧ ∀ p ∈ f.2.2, mayP p
instance (f : Fil) : Decidable (plainFl f) := by unfold plainFl; exact inferInstance
def plainQ (q : Qry) : Prop := q.1.length ≤ 3 ∧ q.2.length ≤ 3 ∧ (∀ n ∈ q.1, 0 ≤ n ∧ n ≤ 3) ∧ ∀ f ∈ q.2, plainFl f
instance (q : Qry) : Decidable (plainQ q) := by unfold plainQ; exact inferInstance
def fitFl (D : List PDim) (f : Fil) : Prop := (0 ≤ f.1 ∧ f.1 < (D.length : Int)) ∧ (1 ≤ f.2.1 ∧ f.2.1 ≤ (((D.getD f.1.toNat zeroD).2.length : Nat) : Int)) ∧ (1 ≤ f.2.2.length ∧ f.2.2.length ≤ 6) ∧ ∀ p ∈ f.2.2, mayP p ∧ (p.length : Int) = f.2.1
instance (D : List PDim) (f : Fil) : Decidable (fitFl D f) := by unfold fitFl; exact inferInstance
def fitQ (D : List PDim) (q : Qry) : Prop := cornerP D q.1 ∧ q.2.length ≤ 3 ∧ ∀ f ∈ q.2, fitFl D f
instance (D : List PDim) (q : Qry) : Decidable (fitQ D q) := by unfold fitQ; exact inferInstance
def mayQ (D : List PDim) (M : List Txt) (V : List (List Int)) (q : Qry) : Nat := if mayS D M V then if fitQ D q then 0 else 16 else 11
def needAt (F : List Fil) (i : Nat) (n : Int) : Int := F.foldl (fun n f => if f.1 = (i : Int) ∧ n < f.2.1 then f.2.1 else n) n
def needQ (q : Qry) : List Int := (List.range q.1.length).map fun i => needAt q.2 i (q.1.getD i 0)
def passF (P : List (List Txt)) (f : Fil) : Prop := 0 ≤ f.1 ∧ f.1 < (P.length : Int) ∧ ∃ m ∈ f.2.2, underP (P.getD f.1.toNat []) m
instance (P : List (List Txt)) (f : Fil) : Decidable (passF P f) := by unfold passF; exact inferInstance
def passQ (P : List (List Txt)) (q : Qry) : Prop := ∀ f ∈ q.2, passF P f
instance (P : List (List Txt)) (q : Qry) : Decidable (passQ P q) := by unfold passQ; exact inferInstance
def keyQ (q : Qry) (P : List (List Txt)) : List (List Txt) := (List.range q.1.length).map fun i => upP (P.getD i []) (q.1.getD i 0)
def encFl (f : Fil) : List UInt8 := encI f.1 ++ (encI f.2.1 ++ (encI f.2.2.length ++ f.2.2.flatMap encP))
def encQ (q : Qry) : List UInt8 := encI q.1.length ++ (q.1.flatMap encI ++ (encI q.2.length ++ q.2.flatMap encFl))
def putQ (b : List UInt8) (q : Qry) : List UInt8 := if plainQ q then b ++ encQ q else []
def rdNum (m : Nat) : RdT Int := fun l p e => ((lk l p e 0 m).1, p + (lk l p e 0 m).2.1, (lk l p e 0 m).2.2)
def rdFl : RdT Fil := fun l p e =>
 let a := rdNum 2 l p e
 let b := rdNum 3 l a.2.1 a.2.2
 let c := sevA rdPath 6 l b.2.1 b.2.2
 ((a.1, b.1, c.1), c.2)
def rdQ (l : List UInt8) (p e : Nat) : Qry × Nat × Nat :=
 let a := sevA (rdNum 3) 3 l p e
 let b := sevA rdFl 3 l a.2.1 a.2.2
 (if b.2.2 = 0 then (a.1, b.1) else ([], []), b.2)
theorem rdNum_is {l : List UInt8} {p e m k1 e1 : Nat} {x : Int} (h : lk l p e 0 m = (x, k1, e1)) : rdNum m l p e = (x, p + k1, e1) := by
 unfold rdNum
 rw [h]
theorem rdFl_is {l : List UInt8} {p e p1 e1 p2 e2 p3 e3 : Nat} {d v : Int} {M : List (List Txt)} (h1 : rdNum 2 l p e = (d, p1, e1)) (h2 : rdNum 3 l p1 e1 = (v, p2, e2)) (h3 : sevA rdPath 6 l p2 e2 = (M, p3, e3)) : rdFl l p e = ((d, v, M), p3, e3) := by
 unfold rdFl
 simp only [h1, h2, h3]
theorem rdQ_is {l : List UInt8} {p e p1 e1 p2 e2 : Nat} {G : List Int} {F : List Fil} (h1 : sevA (rdNum 3) 3 l p e = (G, p1, e1)) (h2 : sevA rdFl 3 l p1 e1 = (F, p2, e2)) : rdQ l p e = (if e2 = 0 then (G, F) else ([], []), p2, e2) := by
 unfold rdQ
 simp only [h1, h2]
/-! ### a query that may be is plain -/
theorem fitQ_plain {D : List PDim} {M : List Txt} {V : List (List Int)} {q : Qry} (hS : mayS D M V) (h : fitQ D q) : plainQ q := by
 obtain ⟨⟨hd1, hd2⟩, _, _⟩ := hS
 have hD : D.length ≤ 3 := by have := hd2.2.1; rwa [List.length_map] at this
 have hL : ∀ i, i < D.length → (D.getD i zeroD).2.length ≤ 3 := fun i hi => by
  have e : D.getD i zeroD = D[i] := by rw [List.getD_eq_getElem?_getD, List.getElem?_eq_getElem hi]; rfl
  rw [e]
  exact (hd1 _ (List.getElem_mem hi)).2.1
 obtain ⟨⟨hc1, hc2⟩, hf, hF⟩ := h
 refine ⟨by omega, hf, fun n hn => ?_, fun f hf => ?_⟩
 ·obtain ⟨i, hi, rfl⟩ := List.getElem_of_mem hn
  have h1 := hc2 i hi
  have h2 := hL i (by omega)
  rw [show q.1.getD i 0 = q.1[i] from by rw [List.getD_eq_getElem?_getD, List.getElem?_eq_getElem hi]; rfl] at h1
  omega
 ·obtain ⟨h1, h2, h3, h4⟩ := hF f hf
  have h5 := hL f.1.toNat (by omega)
  exact ⟨by omega, by omega, h3.2, fun p hp => (h4 p hp).1⟩
theorem mayQ_plain {D : List PDim} {M : List Txt} {V : List (List Int)} {q : Qry} (h : mayQ D M V q = 0) : mayS D M V ∧ fitQ D q ∧ plainQ q := by
 unfold mayQ at h
 split at h
 ·rename_i h1
  split at h
  ·rename_i h2
   exact ⟨h1, h2, fitQ_plain h1 h2⟩
  ·cases h
 ·cases h
/-! ### how many bytes -/
theorem encFl_len {f : Fil} (h : plainFl f) : (encFl f).length ≤ 330 := by
 obtain ⟨h1, h2, h3, h4⟩ := h
 have a := flat_len (f := encP) (l := f.2.2) (m := 49) fun x hx => encP_len (h4 x hx)
 have b := encI_len (x := f.1) (by omega) (by omega)
 have c := encI_len (x := f.2.1) (by omega) (by omega)
 have d := encI_len (x := (f.2.2.length : Int)) (by omega) (by omega)
 unfold encFl
 simp only [List.length_append]
 omega
theorem encQ_len {q : Qry} (h : plainQ q) : (encQ q).length ≤ 1100 := by
 obtain ⟨h1, h2, h3, h4⟩ := h
 have a := flat_len (f := encI) (l := q.1) (m := 10) fun x hx => by have := h3 x hx; exact encI_len (by omega) (by omega)
 have b := flat_len (f := encFl) (l := q.2) (m := 330) fun x hx => encFl_len (h4 x hx)
 have c := encI_len (x := (q.1.length : Int)) (by omega) (by omega)
 have d := encI_len (x := (q.2.length : Int)) (by omega) (by omega)
 unfold encQ
 simp only [List.length_append]
 omega
/-! ### what is put is read again -/
theorem rdNum_back {m : Nat} {x : Int} (h0 : 0 ≤ x) (h1 : x ≤ m) (hm : m ≤ 100) : Back (rdNum m) encI x := fun F R => by
 exact rdNum_is (lkP (F := F) (R := R) (by omega) (by omega) h0 h1)
theorem rdFl_back {f : Fil} (h : plainFl f) : Back rdFl encFl f := fun F R => by
 obtain ⟨d, v, M⟩ := f
 obtain ⟨h1, h2, h3, h4⟩ := h
 have a := rdNum_back (m := 2) h1.1 h1.2 (by decide) F (encI v ++ (encI (M.length : Int) ++ (M.flatMap encP ++ R)))
 have b := rdNum_back (m := 3) h2.1 h2.2 (by decide) (F ++ encI d) (encI (M.length : Int) ++ (M.flatMap encP ++ R))
 have c := sevA_back (rd := rdPath) (en := encP) (L := M) (most := 6) (fun x hx => rdPath_back (h4 x hx)) h3 (by decide) (F ++ encI d ++ encI v) R
 have e1 : F ++ (encFl (d, v, M) ++ R) = F ++ (encI d ++ (encI v ++ (encI (M.length : Int) ++ (M.flatMap encP ++ R)))) := by
  unfold encFl
  simp only [List.append_assoc]
 have e2 : F ++ (encI d ++ (encI v ++ (encI (M.length : Int) ++ (M.flatMap encP ++ R)))) = F ++ encI d ++ (encI v ++ (encI (M.length : Int) ++ (M.flatMap encP ++ R))) := by simp only [List.append_assoc]
 have e3 : F ++ encI d ++ (encI v ++ (encI (M.length : Int) ++ (M.flatMap encP ++ R))) = F ++ encI d ++ encI v ++ (encI (M.length : Int) ++ (M.flatMap encP ++ R)) := by simp only [List.append_assoc]
 have hl : (F ++ encI d).length = F.length + (encI d).length := List.length_append
 have hl2 : (F ++ encI d ++ encI v).length = F.length + (encI d).length + (encI v).length := by rw [List.length_append, hl]
 rw [← e2, hl] at b
 rw [← e3, ← e2, hl2] at c
 rw [e1, rdFl_is a b c]
 simp only [Prod.mk.injEq, true_and, and_true]
 unfold encFl
 simp only [List.length_append]
 omega
theorem rdQ_back {q : Qry} (h : plainQ q) (F R : List UInt8) : rdQ (F ++ (encQ q ++ R)) F.length 0 = (q, F.length + (encQ q).length, 0) := by
 obtain ⟨G, L⟩ := q
 obtain ⟨h1, h2, h3, h4⟩ := h
 have a := sevA_back (rd := rdNum 3) (en := encI) (L := G) (most := 3) (fun x hx => rdNum_back (h3 x hx).1 (h3 x hx).2 (by decide)) h1 (by decide) F (encI (L.length : Int) ++ (L.flatMap encFl ++ R))
 have b := sevA_back (rd := rdFl) (en := encFl) (L := L) (most := 3) (fun x hx => rdFl_back (h4 x hx)) h2 (by decide) (F ++ (encI (G.length : Int) ++ G.flatMap encI)) R
 have e1 : F ++ (encQ (G, L) ++ R) = F ++ (encI (G.length : Int) ++ (G.flatMap encI ++ (encI (L.length : Int) ++ (L.flatMap encFl ++ R)))) := by
  unfold encQ
  simp only [List.append_assoc]
 have e2 : F ++ (encI (G.length : Int) ++ (G.flatMap encI ++ (encI (L.length : Int) ++ (L.flatMap encFl ++ R)))) = (F ++ (encI (G.length : Int) ++ G.flatMap encI)) ++ (encI (L.length : Int) ++ (L.flatMap encFl ++ R)) := by
  simp only [List.append_assoc]
 rw [← e2, List.length_append] at b
 rw [e1, rdQ_is a b, if_pos rfl]
 simp only [Prod.mk.injEq, true_and, and_true]
 unfold encQ
 simp only [List.length_append]
 omega
/-! ### what it needs -/
theorem needAt_snoc (F : List Fil) (f : Fil) (i : Nat) (n : Int) : needAt (F ++ [f]) i n = if f.1 = (i : Int) ∧ needAt F i n < f.2.1 then f.2.1 else needAt F i n := by
 unfold needAt
 rw [List.foldl_append]
 rfl
theorem needQ_len (q : Qry) : (needQ q).length = q.1.length := by simp [needQ]
end Go.Proofs.YtmcccpbpijnbmaaDoor
namespace Go.Proofs.YtmcccpbpijnbmaaDoor
set_option maxRecDepth 100000

theorem fitFl_iff {D : List PDim} {k n' n : Nat} {v : Int} {L : List (List Txt)} {x : Txt} {l : List Txt} (hk : k < D.length) (he : D.getD k zeroD = (x, l)) (hl : l.length = n') (hn : L.length = n) :
  fitFl D ((k : Int), v, L) ↔ (1 ≤ v ∧ v ≤ (n' : Int)) ∧ (1 ≤ (n : Int) ∧ (n : Int) ≤ 6) ∧ ∀ p ∈ L, mayP p ∧ (p.length : Int) = v := by
 subst hl hn
 unfold fitFl
 simp only [Int.toNat_natCast, he]
 constructor
 ·rintro ⟨_, h2, h3, h4⟩
  exact ⟨h2, ⟨by omega, by omega⟩, h4⟩
 ·rintro ⟨h2, h3, h4⟩
  exact ⟨⟨by omega, by omega⟩, h2, ⟨by omega, by omega⟩, h4⟩
theorem fitFl_far {D : List PDim} {d v : Int} {n : Nat} {L : List (List Txt)} (hn : D.length = n) (h : ¬ (0 ≤ d ∧ d ≤ (n : Int) - 1)) : ¬ fitFl D (d, v, L) := fun h2 => h ⟨h2.1.1, by have := h2.1.2; simp only at this; omega⟩
theorem mem_takeX {α : Type} {L : List α} {k : Nat} {x : α} {P : α → Prop} (hx : L[k]? = some x) (h : P x) (ht : ∀ y ∈ L.take k, P y) : ∀ y ∈ L.take (k + 1), P y := by
 intro y hy
 rw [List.take_add_one, hx] at hy
 rcases List.mem_append.1 hy with hy | hy
 ·exact ht y hy
 ·have hy : y ∈ [x] := hy
  rw [List.mem_singleton.1 hy]; exact h
theorem fitQ_iff {D : List PDim} {G : List Int} {F : List Fil} {n : Nat} (hn : F.length = n) : fitQ D (G, F) ↔ cornerP D G ∧ (n : Int) ≤ 3 ∧ ∀ f ∈ F, fitFl D f := by
 subst hn
 unfold fitQ
 constructor
 ·rintro ⟨h1, h2, h3⟩; exact ⟨h1, by simp only at h2; omega, h3⟩
 ·rintro ⟨h1, h2, h3⟩; exact ⟨h1, by simp only; omega, h3⟩
theorem mayQ_s {D : List PDim} {M : List Txt} {V : List (List Int)} {q : Qry} (h : ¬ mayS D M V) : mayQ D M V q = 11 := if_neg h
theorem mayQ_f {D : List PDim} {M : List Txt} {V : List (List Int)} {q : Qry} (h : mayS D M V) (h' : ¬ fitQ D q) : mayQ D M V q = 16 := by
 unfold mayQ; rw [if_pos h, if_neg h']
theorem mayQ_y {D : List PDim} {M : List Txt} {V : List (List Int)} {q : Qry} (h : mayS D M V) (h' : fitQ D q) : mayQ D M V q = 0 := by
 unfold mayQ; rw [if_pos h, if_pos h']
/-! ### what it needs, filter by filter -/
theorem needQ_nil (G : List Int) : needQ (G, []) = G := by
 refine List.ext_getElem? fun i => ?_
 unfold needQ
 rw [List.getElem?_map]
 by_cases hi : i < G.length
 ·rw [List.getElem?_range hi, List.getElem?_eq_getElem hi]
  simp [needAt, List.getD_eq_getElem?_getD, List.getElem?_eq_getElem hi]
 ·rw [List.getElem?_eq_none (by simpa using hi), List.getElem?_eq_none (by omega)]
  rfl
theorem need_set {G : List Int} {F : List Fil} {k d : Nat} {v : Int} {M : List (List Txt)} (he : F[k]? = some ((d : Int), v, M)) :
  (needQ (G, F.take k)).set d (max ((needQ (G, F.take k)).getD d 0) v) = needQ (G, F.take (k + 1)) := by
 have ht : F.take (k + 1) = F.take k ++ [((d : Int), v, M)] := by rw [List.take_add_one, he]; rfl
 refine List.ext_getElem? fun i => ?_
 by_cases hi : i < G.length
 ·have h1 : ∀ F', (needQ (G, F'))[i]? = some (needAt F' i (G.getD i 0)) := fun F' => by
   unfold needQ
   rw [List.getElem?_map, List.getElem?_range hi]
   rfl
  rw [List.getElem?_set, h1, h1, ht, needAt_snoc]
  simp only
  by_cases hdi : d = i
  ·subst hdi
   have h2 : (needQ (G, F.take k)).getD d 0 = needAt (F.take k) d (G.getD d 0) := by rw [List.getD_eq_getElem?_getD, h1]; rfl
   rw [if_pos rfl, if_pos (by rw [needQ_len]; exact hi), h2]
   by_cases hlt : needAt (F.take k) d (G.getD d 0) < v
   ·rw [if_pos ⟨rfl, hlt⟩, Int.max_eq_right (by omega)]
   ·rw [if_neg (fun h => hlt h.2), Int.max_eq_left (by omega)]
  ·rw [if_neg hdi, if_neg (fun h => hdi (by have := h.1; omega))]
 ·rw [List.getElem?_eq_none (by rw [List.length_set, needQ_len]; exact Nat.le_of_not_lt hi), List.getElem?_eq_none (by rw [needQ_len]; exact Nat.le_of_not_lt hi)]
def needA (D : List PDim) (M : List Txt) (V : List (List Int)) (q : Qry) : List Int := if mayQ D M V q = 0 then needQ q else []
end Go.Proofs.YtmcccpbpijnbmaaDoor
