/- WireRd, WireRefRd -/
import Derived.Test.YtfddaegepmdohaaGreatDoorJ12
import Derived.BigQuiet
import Derived.Deep.QuietTactic
import Derived.Outline
namespace Go.Proofs.YtfddaegepmdohaaGreatDoor
set_option maxRecDepth 100000
open Go.RowKit

/-- Block g is a reader (of type T) of the bytes l, at a place, with an error. -/
structure Rd (T : TypeId) (w : World) (g : Nat) (A : Option Addr) (n c : Nat) (l : List UInt8) (p e : Nat) : Prop where
  block : Block w g T #[.slice A n c, .int .i64 (p : Int), .int .i64 (e : Int)]
  has : HasB w g A n c l
  at_le : p ≤ n
  err_le : e ≤ 3

section
variable {T : TypeId} {w w' : World} {g : Nat} {A : Option Addr} {n c : Nat} {l : List UInt8} {p e : Nat}
theorem Rd.c0 (h : Rd T w g A n c l p e) : w.cell? ⟨g, 0, none⟩ = some (.slice A n c) := h.block.cell 0
theorem Rd.c1 (h : Rd T w g A n c l p e) : w.cell? ⟨g, 1, none⟩ = some (.int .i64 (p : Int)) := h.block.cell 1
theorem Rd.c2 (h : Rd T w g A n c l p e) : w.cell? ⟨g, 2, none⟩ = some (.int .i64 (e : Int)) := h.block.cell 2
theorem Rd.free (h : Rd T w g A n c l p e) (i : Nat) : w.frozen? ⟨g, i, none⟩ = false := h.block.free i
theorem Rd.lt (h : Rd T w g A n c l p e) : g < w.heap.size := h.block.lt
theorem Rd.drewN (h : Rd T w g A n c l p e) (k : Nat) : Rd T (w.drewN k) g A n c l p e := ⟨h.block.drewN k, h.has.drewN k, h.at_le, h.err_le⟩
theorem Rd.grown {row : Option Nat} (h : Rd T w g A n c l p e) (hg : w.grownBy w' row) (hr : ∀ k, row = some k → g < k) : Rd T w' g A n c l p e :=
  ⟨h.block.grown hg (fun e => by have := hr _ e; omega), h.has.grown hg (Nat.le_of_lt h.lt) (fun k hk => Nat.le_of_lt (hr k hk)), h.at_le, h.err_le⟩
theorem HasB.setAbove {B i : Nat} {u : Value} (h : HasB w B A n c l) (hg : B ≤ g) : HasB (w.setCell ⟨g, i, none⟩ u) B A n c l :=
  h.keep fun b o hb => by
    apply World.cell?_of_block
    simp [World.setCell, Array.getElem?_modify]
    intro e; omega
theorem Rd.setE (h : Rd T w g A n c l p e) (e' : Nat) (he : e' ≤ 3) : Rd T (w.setCell ⟨g, 2, none⟩ (.int .i64 (e' : Int))) g A n c l p e' :=
  ⟨h.block.set_ 2 _, h.has.setAbove (Nat.le_refl _), h.at_le, he⟩
theorem Rd.setP (h : Rd T w g A n c l p e) (p' : Nat) (hp : p' ≤ n) : Rd T (w.setCell ⟨g, 1, none⟩ (.int .i64 (p' : Int))) g A n c l p' e :=
  ⟨h.block.set_ 1 _, h.has.setAbove (Nat.le_refl _), hp, h.err_le⟩
theorem grown_set (w : World) (g i : Nat) (u : Value) : w.grownBy (w.setCell ⟨g, i, none⟩ u) (some g) :=
  ⟨rfl, rfl, rfl, by simp [World.setCell], fun k _ hk => by
    simp [World.setCell, Array.getElem?_modify]
    intro e; exact absurd (congrArg some e.symm) hk⟩
theorem grown_drewN {row : Option Nat} {a b : World} (h : a.grownBy b row) (k : Nat) : a.grownBy (b.drewN k) row := ⟨h.os, h.tape, h.output, h.size, h.block⟩
end

theorem failed_any (w : World) (g : Nat) (A : Option Addr) (n c : Nat) (l : List UInt8) (p e : Nat) (h : Rd 43 w g A n c l p e) :
    Calls Tryz.prog 12 #[.pointer (some ⟨g, 0, none⟩)] w fun x w' => x = .returned (.bool ((e : Int) != 0)) ∧ w = w' := by
  have h2 := h.c2
  go_enter Tryz.func12, Tryz.ntmps12
  go_wp2
  go_ret
  exact ⟨rfl, rfl⟩
theorem at_any (w : World) (g : Nat) (A : Option Addr) (n c : Nat) (l : List UInt8) (p e : Nat) (h : Rd 43 w g A n c l p e) :
    Calls Tryz.prog 9 #[.pointer (some ⟨g, 0, none⟩)] w fun x w' => x = .returned (.int .i64 p) ∧ w = w' := by
  have h1 := h.c1
  go_enter Tryz.func9, Tryz.ntmps9
  go_wp2
  go_ret
  exact ⟨rfl, rfl⟩

/-- What is looked at: the number, its bytes, the error. -/
def lk (l : List UInt8) (p e : Nat) (lo hi : Int) : Int × Nat × Nat :=
  if e ≠ 0 then (0, 0, e) else if gE (l.drop p) ≠ 0 then (0, 0, gE (l.drop p)) else if gN (l.drop p) < lo ∨ hi < gN (l.drop p) then (0, 0, 2) else (gN (l.drop p), gK (l.drop p), 0)
theorem lk_err {l : List UInt8} {p e : Nat} {lo hi : Int} (h : e ≠ 0) : lk l p e lo hi = (0, 0, e) := if_pos h
theorem lk_none {l : List UInt8} {p : Nat} {lo hi : Int} (h : gE (l.drop p) ≠ 0) : lk l p 0 lo hi = (0, 0, gE (l.drop p)) := by
  unfold lk; rw [if_neg (by simp), if_pos h]
theorem lk_far {l : List UInt8} {p : Nat} {lo hi : Int} (h : gE (l.drop p) = 0) (h' : gN (l.drop p) < lo ∨ hi < gN (l.drop p)) : lk l p 0 lo hi = (0, 0, 2) := by
  unfold lk; rw [if_neg (by simp), if_neg (by simpa using h), if_pos h']
theorem lk_ok {l : List UInt8} {p : Nat} {lo hi : Int} (h : gE (l.drop p) = 0) (h' : ¬ (gN (l.drop p) < lo ∨ hi < gN (l.drop p))) : lk l p 0 lo hi = (gN (l.drop p), gK (l.drop p), 0) := by
  unfold lk; rw [if_neg (by simp), if_neg (by simpa using h), if_neg h']
theorem lk_e (l : List UInt8) (p e : Nat) (lo hi : Int) (he : e ≤ 3) : (lk l p e lo hi).2.2 ≤ 3 := by
  unfold lk
  split
  · exact he
  · split
    · exact gE_le _
    · split <;> simp
theorem lk_k (l : List UInt8) (p e : Nat) (lo hi : Int) : (lk l p e lo hi).2.1 ≤ l.length - p := by
  have := (gK_le (l.drop p)).1
  rw [List.length_drop] at this
  unfold lk
  split
  · simp
  · split
    · simp
    · split
      · simp
      · exact this
theorem lk_n (l : List UInt8) (p e : Nat) (lo hi : Int) : -9223372036854775808 ≤ (lk l p e lo hi).1 ∧ (lk l p e lo hi).1 ≤ 9223372036854775807 := by
  have := gN_bd (l.drop p)
  unfold lk
  split
  · simp
  · split
    · simp
    · split
      · simp
      · exact this


def LookPost (T : TypeId) (w : World) (g : Nat) (A : Option Addr) (n c : Nat) (l : List UInt8) (p : Nat) (r : Int × Nat × Nat) (x : Ending) (w' : World) : Prop :=
  x = .returned (.tuple #[.int .i64 r.1, .int .i64 (r.2.1 : Nat)]) ∧ Rd T w' g A n c l p r.2.2 ∧ w.grownBy w' (some g)
theorem getInt_is {A : Option Addr} {n c : Nat} {l : List UInt8} {w : World} {B : Nat} (hr : HasB w B A n c l) {m : Int} {k e : Nat} (hm : gN l = m) (hk : gK l = k) (he : gE l = e) :
    Calls Tryz.prog 56 #[.slice A n c] w fun x w' => x = .returned (.tuple #[.int .i64 m, .int .i64 (k : Nat), .int .i64 (e : Nat)]) ∧ w = w' := by
  have := getInt_any A n c l w B hr
  rwa [hm, hk, he] at this
theorem at_two {r : Int × Nat × Nat} {m : Int} {k e : Nat} (h : r = (m, k, e)) : Ending.returned (.tuple #[.int .i64 m, .int .i64 (k : Nat)]) = .returned (.tuple #[.int .i64 r.1, .int .i64 (r.2.1 : Nat)]) := by rw [h]
set_option maxHeartbeats 2000000 in
theorem look_any (w : World) (g : Nat) (A : Option Addr) (n c : Nat) (l : List UInt8) (p e : Nat) (h : Rd 43 w g A n c l p e) (lo hi : Int) :
    Calls Tryz.prog 41 #[.pointer (some ⟨g, 0, none⟩), .int .i64 lo, .int .i64 hi] w (LookPost 43 w g A n c l p (lk l p e lo hi)) := by
  by_cases he : e = 0
  · subst he
    have h0 := h.c0
    have h1 := h.c1
    have h2 : w.cell? ⟨g, 2, none⟩ = some (.int .i64 0) := h.c2
    have hf := h.free 2
    have hpn := h.at_le
    have hcap := h.has.cap
    have hcm := h.has.capMax
    have hb0 : (0 : Int) ≤ (p : Int) := by omega
    have hb1 : (p : Int) ≤ (n : Int) := by omega
    have hb2 : (n : Int) ≤ (c : Int) := by omega
    have hb3 : (p : Int) ≤ (c : Int) := by omega
    have HE := Lib.hid (gE_le (l.drop p))
    obtain ⟨m, hm⟩ : ∃ m, Hid (gN (l.drop p) = m) := ⟨_, Lib.hid rfl⟩
    obtain ⟨k, hk⟩ : ∃ k, Hid (gK (l.drop p) = k) := ⟨_, Lib.hid rfl⟩
    by_cases he0 : gE (l.drop p) = 0
    · have He0 := Lib.hid he0
      clear he0
      by_cases hr : m < lo ∨ hi < m
      · have Hl := Lib.hid (lk_far (lo := lo) (hi := hi) He0.out (by rw [hm.out]; exact hr))
        by_cases hcp : c = p
        case' pos => obtain rfl : n = p := by omega
        case' pos => subst hcp
        case' pos => have hd := Lib.hid (cut_all h.has)
        case' neg => have hd := Lib.hid (cut_is h.has hpn hcp)
        all_goals
          go_enter Tryz.func41, Tryz.ntmps41
          go_wp2_with fail
          refine (failed_any _ _ _ _ _ _ _ _ h).mono ?_
          rintro x w' ⟨rfl, rfl⟩
          go_wp2_with fail
          go_quiet ((go_at_call 56; exact quietS (getInt_is (hd.out.drewN _) hm.out hk.out He0.out)))
          go_wp2_with fail
          all_goals
            first
              | (exfalso; omega)
              | (go_ret2
                 exact ⟨at_two (e := 2) Hl.out, by rw [Hl.out]; exact (h.setE 2 (by omega)).drewN _, grown_drewN (grown_set _ _ _ _) _⟩)
      · have Hl := Lib.hid (lk_ok (lo := lo) (hi := hi) He0.out (by rw [hm.out]; exact hr))
        by_cases hcp : c = p
        case' pos => obtain rfl : n = p := by omega
        case' pos => subst hcp
        case' pos => have hd := Lib.hid (cut_all h.has)
        case' neg => have hd := Lib.hid (cut_is h.has hpn hcp)
        all_goals
          go_enter Tryz.func41, Tryz.ntmps41
          go_wp2_with fail
          refine (failed_any _ _ _ _ _ _ _ _ h).mono ?_
          rintro x w' ⟨rfl, rfl⟩
          go_wp2_with fail
          go_quiet ((go_at_call 56; exact quietS (getInt_is (hd.out.drewN _) hm.out hk.out He0.out)))
          go_wp2_with fail
          all_goals
            first
              | (exfalso; omega)
              | (go_ret2
                 exact ⟨at_two (m := m) (k := k) (e := 0) (by rw [Hl.out, hm.out, hk.out]), by rw [Hl.out]; exact h.drewN _, grown_drewN (World.grownBy.refl _ _) _⟩)
    · have Hl := Lib.hid (lk_none (lo := lo) (hi := hi) he0)
      have hz := Lib.hid (gE_or (l.drop p))
      obtain ⟨q, hq⟩ : ∃ q, Hid (gE (l.drop p) = q) := ⟨_, Lib.hid rfl⟩
      rw [hq.out] at he0 Hl HE
      have ht1 : ((q : Int) == 0) = false := by simpa using he0
      have ht2 : ((q : Int) != 0) = true := by simpa using he0
      by_cases hcp : c = p
      case' pos => obtain rfl : n = p := by omega
      case' pos => subst hcp
      case' pos => have hd := Lib.hid (cut_all h.has)
      case' neg => have hd := Lib.hid (cut_is h.has hpn hcp)
      all_goals
        go_enter Tryz.func41, Tryz.ntmps41
        go_wp2_with fail
        refine (failed_any _ _ _ _ _ _ _ _ h).mono ?_
        rintro x w' ⟨rfl, rfl⟩
        go_wp2_with fail
        go_quiet ((go_at_call 56; exact quietS (getInt_is (hd.out.drewN _) hm.out hk.out hq.out)))
        go_wp2_with fail
        go_ret2
        exact ⟨at_two (e := q) Hl.out, by rw [Hl.out]; exact (h.setE q HE.out).drewN _, grown_drewN (grown_set _ _ _ _) _⟩
  · have h2 := h.c2
    have hne : ((e : Int) != 0) = true := by simpa using he
    have Hl := Lib.hid (lk_err (l := l) (p := p) (lo := lo) (hi := hi) he)
    go_enter Tryz.func41, Tryz.ntmps41
    go_wp2_with fail
    refine (failed_any _ _ _ _ _ _ _ _ h).mono ?_
    rintro x w' ⟨rfl, rfl⟩
    go_wp2_with fail
    go_ret2
    exact ⟨by rw [Hl.out]; rfl, by rw [Hl.out]; exact h, World.grownBy.refl _ _⟩

/-- Int. -/
theorem int_any (w : World) (g : Nat) (A : Option Addr) (n c : Nat) (l : List UInt8) (p e : Nat) (h : Rd 43 w g A n c l p e) (lo hi : Int) :
    Calls Tryz.prog 24 #[.pointer (some ⟨g, 0, none⟩), .int .i64 lo, .int .i64 hi] w fun x w' => x = .returned (.int .i64 (lk l p e lo hi).1) ∧ Rd 43 w' g A n c l (p + (lk l p e lo hi).2.1) (lk l p e lo hi).2.2 ∧ w.grownBy w' (some g) := by
  have hk := lk_k l p e lo hi
  have hll := h.has.len
  have hnm := h.has.lenMax
  have hpn := h.at_le
  generalize hr : lk l p e lo hi = r at *
  have Hr := Lib.hid hr
  clear hr
  obtain ⟨m, k, e'⟩ := r
  have hk' : k ≤ n - p := by rw [← hll]; exact hk
  clear hk hll
  go_enter Tryz.func24, Tryz.ntmps24
  go_wp2_with fail
  refine (look_any _ _ _ _ _ _ _ _ h lo hi).mono ?_
  rw [Hr.out]
  rintro x w1 ⟨rfl, h', hg⟩
  have h1 := h'.c1
  have hf := h'.free 1
  go_wp2
  go_ret
  exact ⟨rfl, h'.setP (p + k) (by omega), grownBy_trans hg (grown_set _ _ _ _) (fun k hk => .inl hk)⟩
/-- Bad. -/
theorem bad_any (w : World) (g : Nat) (A : Option Addr) (n c : Nat) (l : List UInt8) (p e : Nat) (h : Rd 43 w g A n c l p e) :
    Calls Tryz.prog 40 #[.pointer (some ⟨g, 0, none⟩)] w fun x w' => x = .returned (.tuple #[]) ∧ Rd 43 w' g A n c l p (if e = 0 then 2 else e) ∧ w.grownBy w' (some g) := by
  have hf := h.free 2
  by_cases he : e = 0
  · subst he
    have h2 : w.cell? ⟨g, 2, none⟩ = some (.int .i64 0) := h.c2
    have hR := Lib.hid (h.setE 2 (by omega))
    go_enter Tryz.func40, Tryz.ntmps40
    go_wp2_with fail
    refine (failed_any _ _ _ _ _ _ _ _ h).mono ?_
    rintro x w' ⟨rfl, rfl⟩
    go_wp2
    go_end0
    exact ⟨rfl, hR.out, grown_set _ _ _ _⟩
  · have h2 := h.c2
    have ht2 : ((e : Int) != 0) = true := by simpa using he
    rw [if_neg he]
    go_enter Tryz.func40, Tryz.ntmps40
    go_wp2_with fail
    refine (failed_any _ _ _ _ _ _ _ _ h).mono ?_
    rintro x w' ⟨rfl, rfl⟩
    go_wp2
    go_end0
    exact ⟨rfl, h, World.grownBy.refl _ _⟩
/-- End. -/
def endE (n p e : Nat) : Nat := if e ≠ 0 then e else if p < n then 2 else 0
theorem end_any (w : World) (g : Nat) (A : Option Addr) (n c : Nat) (l : List UInt8) (p e : Nat) (h : Rd 43 w g A n c l p e) :
    Calls Tryz.prog 10 #[.pointer (some ⟨g, 0, none⟩)] w fun x w' => x = .returned (.int .i64 (endE n p e : Nat)) ∧ ∃ k, w' = w.drewN k := by
  have h0 := h.c0
  have h1 := h.c1
  have hnm := h.has.lenMax
  have hcap := h.has.cap
  have hcm := h.has.capMax
  have hpn := h.at_le
  by_cases he : e = 0
  · subst he
    have h2 : w.cell? ⟨g, 2, none⟩ = some (.int .i64 0) := h.c2
    by_cases hp : p < n
    · have hd : decide ((p : Nat) < n) = true := decide_eq_true hp
      have H : Hid (endE n p 0 = 2) := Lib.hid (by simp [endE, hp])
      go_enter Tryz.func10, Tryz.ntmps10
      go_wp2_with fail
      go_quiet ((go_at_call 12; exact quietS (failed_any _ _ _ _ _ _ _ _ (h.drewN _))))
      go_wp2
      go_ret
      exact ⟨by rw [H.out]; rfl, _, rfl⟩
    · have hd : decide ((p : Nat) < n) = false := decide_eq_false hp
      have H : Hid (endE n p 0 = 0) := Lib.hid (by simp [endE, hp])
      go_enter Tryz.func10, Tryz.ntmps10
      go_wp2_with fail
      go_quiet ((go_at_call 12; exact quietS (failed_any _ _ _ _ _ _ _ _ (h.drewN _))))
      go_wp2
      go_ret
      exact ⟨by rw [H.out]; rfl, _, rfl⟩
  · have h2 := h.c2
    have ht2 : ((e : Int) != 0) = true := by simpa using he
    have ht1 : ((e : Int) == 0) = false := by simpa using he
    have H : Hid (endE n p e = e) := Lib.hid (by simp [endE, he])
    go_enter Tryz.func10, Tryz.ntmps10
    go_wp2_with fail
    go_quiet ((go_at_call 12; exact quietS (failed_any _ _ _ _ _ _ _ _ (h.drewN _))))
    go_wp2
    go_ret
    exact ⟨by rw [H.out]; rfl, _, rfl⟩

/-- A text: its bytes, the place behind it, the error. -/
def tx (l : List UInt8) (p e : Nat) (hi : Int) : List UInt8 × Nat × Nat :=
  let r := lk l p e 0 hi
  if r.2.2 ≠ 0 then ([], p, r.2.2) else if r.1.toNat ≤ l.length - p - r.2.1 then ((l.drop (p + r.2.1)).take r.1.toNat, p + r.2.1 + r.1.toNat, 0) else ([], p, 3)
theorem tx_err {l : List UInt8} {p e k e' : Nat} {hi m : Int} (h : lk l p e 0 hi = (m, k, e')) (he : e' ≠ 0) : tx l p e hi = ([], p, e') := by
  unfold tx; rw [h]; exact if_pos he
theorem tx_short {l : List UInt8} {p e k : Nat} {hi m : Int} (h : lk l p e 0 hi = (m, k, 0)) (hm : ¬ m.toNat ≤ l.length - p - k) : tx l p e hi = ([], p, 3) := by
  unfold tx; rw [h]; simp [hm]
theorem tx_ok {l : List UInt8} {p e k : Nat} {hi m : Int} (h : lk l p e 0 hi = (m, k, 0)) (hm : m.toNat ≤ l.length - p - k) : tx l p e hi = ((l.drop (p + k)).take m.toNat, p + k + m.toNat, 0) := by
  unfold tx; rw [h]; simp [hm]
theorem lk_pos (l : List UInt8) (p e : Nat) (hi : Int) : 0 ≤ (lk l p e 0 hi).1 := by
  unfold lk
  split
  · simp
  · split
    · simp
    · split
      · simp
      · show 0 ≤ gN _
        omega
def TextPost (T : TypeId) (w : World) (g : Nat) (A : Option Addr) (n c : Nat) (l : List UInt8) (r : List UInt8 × Nat × Nat) (x : Ending) (w' : World) : Prop :=
  x = .returned (.string ⟨r.1.toArray⟩) ∧ Rd T w' g A n c l r.2.1 r.2.2 ∧ w.grownBy w' (some g)
set_option maxHeartbeats 2000000 in
theorem text_any (w : World) (g : Nat) (A : Option Addr) (n c : Nat) (l : List UInt8) (p e : Nat) (h : Rd 43 w g A n c l p e) (hi : Int) :
    Calls Tryz.prog 39 #[.pointer (some ⟨g, 0, none⟩), .int .i64 hi] w (TextPost 43 w g A n c l (tx l p e hi)) := by
  have hk := lk_k l p e 0 hi
  have hm0 := lk_pos l p e hi
  have hm1 := (lk_n l p e 0 hi).2
  have hll := h.has.len
  have hnm := h.has.lenMax
  have hpn := h.at_le
  generalize hr : lk l p e 0 hi = r at *
  have Hr := Lib.hid hr
  clear hr
  obtain ⟨m, k, e'⟩ := r
  have hk' : k ≤ n - p := by rw [← hll]; exact hk
  have hm0' : 0 ≤ m := hm0
  have hm1' : m ≤ 9223372036854775807 := hm1
  have Hll := Lib.hid hll
  clear hk hll hm0 hm1
  by_cases he' : e' = 0
  · subst he'
    by_cases hfit : m.toNat ≤ n - p - k
    · have Ht := Lib.hid (tx_ok Hr.out (by rw [Hll.out]; exact hfit))
      by_cases hcp : c = p + k
      · obtain rfl : n = p + k := by have := h.has.cap; omega
        subst hcp
        obtain rfl : m = 0 := by omega
        go_enter Tryz.func39, Tryz.ntmps39
        go_wp2_with fail
        refine (look_any _ _ _ _ _ _ _ _ h 0 hi).mono ?_
        rw [Hr.out]
        rintro x w1 ⟨rfl, h', hg⟩
        go_wp2_with fail
        refine (failed_any _ _ _ _ _ _ _ _ h').mono ?_
        rintro x w' ⟨rfl, rfl⟩
        have h0 := h'.c0
        have h1 := h'.c1
        have hf := h'.free 1
        have hcm := h'.has.capMax
        have hw : IntKind.i64.wrap ((p : Int) + (k : Int)) = (p : Int) + (k : Int) := IntWalk.i64_in _ (by omega)
        have hb0 : (0 : Int) ≤ (p : Int) + (k : Int) := by omega
        have hst : ∀ (u : Value) (q : Nat), (convert 22 9 (.slice A 0 0)).run Tryz.prog ((w1.drewN q).setCell ⟨g, 1, none⟩ u) = .ok (.string ⟨#[]⟩) ((w1.drewN q).setCell ⟨g, 1, none⟩ u) := fun u q =>
          run_convert_bytes_zero _ 22 5 Tryz.underlying22 Tryz.underlying5 A 0 9 Tryz.underlying9
        go_wp2_with fail
        go_quiet (fail)
        clear hw
        go_wp2_with fail
        go_ret
        exact ⟨by rw [Ht.out]; rfl, by rw [Ht.out]; exact (h'.drewN _).setP (p + k) (Nat.le_refl _), grownBy_trans (grown_drewN hg _) (grown_set _ _ _ _) (fun k hk => .inl hk)⟩
      · obtain ⟨ad, rfl⟩ : ∃ ad, A = some ad := by
          rcases A with _ | ad
          · have := h.has.void rfl; have := h.has.cap; omega
          · exact ⟨ad, rfl⟩
        go_enter Tryz.func39, Tryz.ntmps39
        go_wp2_with fail
        refine (look_any _ _ _ _ _ _ _ _ h 0 hi).mono ?_
        rw [Hr.out]
        rintro x w1 ⟨rfl, h', hg⟩
        go_wp2_with fail
        refine (failed_any _ _ _ _ _ _ _ _ h').mono ?_
        rintro x w' ⟨rfl, rfl⟩
        have h0 := h'.c0
        have h1 := h'.c1
        have hf := h'.free 1
        have hcap := h'.has.cap
        have hcm := h'.has.capMax
        have hw : IntKind.i64.wrap ((p : Int) + (k : Int)) = (p : Int) + (k : Int) := IntWalk.i64_in _ (by omega)
        have hb0 : (0 : Int) ≤ (p : Int) + (k : Int) := by omega
        have hb1 : (p : Int) + (k : Int) ≤ (n : Int) := by omega
        have hb2 : (n : Int) ≤ (c : Int) := by omega
        have hb3 : (p : Int) + (k : Int) ≤ (c : Int) := by omega
        have hst : ∀ (u : Value) (q : Nat), (convert 22 9 (.slice (some (ad.add (p + k))) m.toNat (c - (p + k)))).run Tryz.prog ((w1.drewN q).setCell ⟨g, 1, none⟩ u) = .ok (.string ⟨((l.drop (p + k)).take m.toNat).toArray⟩) ((w1.drewN q).setCell ⟨g, 1, none⟩ u) := fun u q =>
          ((((cut_is h'.has (by omega) hcp).take_ m.toNat (by omega)).drewN q).setAbove (Nat.le_refl _)).string 22 5 9 Tryz.underlying22 Tryz.underlying5 Tryz.underlying9
        go_wp2_with fail
        go_quiet (fail)
        clear hw
        have hmz : m = (m.toNat : Int) := by omega
        have Hmz := Lib.hid hmz
        clear hmz
        go_wp2_with fail
        go_ret
        exact ⟨by rw [Ht.out]; rfl, by
          rw [Ht.out]
          have h3 := (h'.drewN nq).setP (p + k + m.toNat) (by omega)
          rwa [show ((p + k + m.toNat : Nat) : Int) = (p : Int) + ((k : Int) + m) from by omega] at h3, grownBy_trans (grown_drewN hg _) (grown_set _ _ _ _) (fun k hk => .inl hk)⟩
    · have Ht := Lib.hid (tx_short Hr.out (by rw [Hll.out]; exact hfit))
      by_cases hcp : c = p + k
      · obtain rfl : n = p + k := by have := h.has.cap; omega
        subst hcp
        have hmp : 0 < m := by omega
        go_enter Tryz.func39, Tryz.ntmps39
        go_wp2_with fail
        refine (look_any _ _ _ _ _ _ _ _ h 0 hi).mono ?_
        rw [Hr.out]
        rintro x w1 ⟨rfl, h', hg⟩
        go_wp2_with fail
        refine (failed_any _ _ _ _ _ _ _ _ h').mono ?_
        rintro x w' ⟨rfl, rfl⟩
        have h0 := h'.c0
        have h1 := h'.c1
        have hf := h'.free 2
        have h2 := h'.c2
        have hcm := h'.has.capMax
        have hw : IntKind.i64.wrap ((p : Int) + (k : Int)) = (p : Int) + (k : Int) := IntWalk.i64_in _ (by omega)
        have hb0 : (0 : Int) ≤ (p : Int) + (k : Int) := by omega
        go_wp2_with fail
        go_quiet (fail)
        clear hw
        go_wp2_with fail
        go_ret
        exact ⟨by rw [Ht.out]; rfl, by rw [Ht.out]; exact (h'.drewN _).setE 3 (by omega), grownBy_trans (grown_drewN hg _) (grown_set _ _ _ _) (fun k hk => .inl hk)⟩
      · have hmp : ((n - (p + k) : Nat) : Int) < m := by omega
        go_enter Tryz.func39, Tryz.ntmps39
        go_wp2_with fail
        refine (look_any _ _ _ _ _ _ _ _ h 0 hi).mono ?_
        rw [Hr.out]
        rintro x w1 ⟨rfl, h', hg⟩
        go_wp2_with fail
        refine (failed_any _ _ _ _ _ _ _ _ h').mono ?_
        rintro x w' ⟨rfl, rfl⟩
        have h0 := h'.c0
        have h1 := h'.c1
        have hf := h'.free 2
        have h2 := h'.c2
        have hcap := h'.has.cap
        have hcm := h'.has.capMax
        have hw : IntKind.i64.wrap ((p : Int) + (k : Int)) = (p : Int) + (k : Int) := IntWalk.i64_in _ (by omega)
        have hb0 : (0 : Int) ≤ (p : Int) + (k : Int) := by omega
        have hb1 : (p : Int) + (k : Int) ≤ (n : Int) := by omega
        have hb2 : (n : Int) ≤ (c : Int) := by omega
        have hb3 : (p : Int) + (k : Int) ≤ (c : Int) := by omega
        go_wp2_with fail
        go_quiet (fail)
        clear hw
        go_wp2_with fail
        go_ret
        exact ⟨by rw [Ht.out]; rfl, by rw [Ht.out]; exact (h'.drewN _).setE 3 (by omega), grownBy_trans (grown_drewN hg _) (grown_set _ _ _ _) (fun k hk => .inl hk)⟩
  · have Ht := Lib.hid (tx_err Hr.out he')
    have ht2 : ((e' : Int) != 0) = true := by simpa using he'
    go_enter Tryz.func39, Tryz.ntmps39
    go_wp2_with fail
    refine (look_any _ _ _ _ _ _ _ _ h 0 hi).mono ?_
    rw [Hr.out]
    rintro x w1 ⟨rfl, h', hg⟩
    go_wp2_with fail
    refine (failed_any _ _ _ _ _ _ _ _ h').mono ?_
    rintro x w' ⟨rfl, rfl⟩
    go_wp2_with fail
    go_ret
    exact ⟨by rw [Ht.out]; rfl, by rw [Ht.out]; exact h', hg⟩
end Go.Proofs.YtfddaegepmdohaaGreatDoor
namespace Go.Proofs.YtfddaegepmdohaaGreatDoor
set_option maxRecDepth 100000
open Go.RowKit

theorem refGet_is {A : Option Addr} {n c : Nat} {l : List UInt8} {w : World} {B : Nat} (hr : HasB w B A n c l) {m : Int} {k e : Nat} (hm : gN l = m) (hk : gK l = k) (he : gE l = e) :
    Calls Tryz.prog 42 #[.slice A n c] w fun x w' => x = .returned (.tuple #[.int .i64 m, .int .i64 (k : Nat), .int .i64 (e : Nat)]) ∧ w = w' := by
  have := refGet_any A n c l w B hr
  rwa [hm, hk, he] at this
theorem refBad_any (w : World) (g : Nat) (A : Option Addr) (n c : Nat) (l : List UInt8) (p e : Nat) (h : Rd 28 w g A n c l p e) :
    Calls Tryz.prog 28 #[.pointer (some ⟨g, 0, none⟩)] w fun x w' => x = .returned (.tuple #[]) ∧ Rd 28 w' g A n c l p (if e = 0 then 2 else e) ∧ w.grownBy w' (some g) := by
  have hf := h.free 2
  by_cases he : e = 0
  · subst he
    have h2 : w.cell? ⟨g, 2, none⟩ = some (.int .i64 0) := h.c2
    have hR := Lib.hid (h.setE 2 (by omega))
    go_enter Tryz.func28, Tryz.ntmps28
    go_wp2
    go_end0
    exact ⟨rfl, hR.out, grown_set _ _ _ _⟩
  · have h2 := h.c2
    have ht2 : ((e : Int) == 0) = false := by simpa using he
    rw [if_neg he]
    go_enter Tryz.func28, Tryz.ntmps28
    go_wp2
    go_end0
    exact ⟨rfl, h, World.grownBy.refl _ _⟩
theorem refEnd_any (w : World) (g : Nat) (A : Option Addr) (n c : Nat) (l : List UInt8) (p e : Nat) (h : Rd 28 w g A n c l p e) :
    Calls Tryz.prog 11 #[.pointer (some ⟨g, 0, none⟩)] w fun x w' => x = .returned (.int .i64 (endE n p e : Nat)) ∧ ∃ k, w' = w.drewN k := by
  have h0 := h.c0
  have h1 := h.c1
  have hnm := h.has.lenMax
  have hcap := h.has.cap
  have hcm := h.has.capMax
  have hpn := h.at_le
  by_cases he : e = 0
  · subst he
    have h2 : w.cell? ⟨g, 2, none⟩ = some (.int .i64 0) := h.c2
    by_cases hp : p < n
    · have hd : decide ((p : Nat) < n) = true := decide_eq_true hp
      have H : Hid (endE n p 0 = 2) := Lib.hid (by simp [endE, hp])
      go_enter Tryz.func11, Tryz.ntmps11
      go_wp2_with fail
      go_quiet (fail)
      go_wp2
      go_ret
      exact ⟨by rw [H.out]; rfl, _, rfl⟩
    · have hd : decide ((p : Nat) < n) = false := decide_eq_false hp
      have H : Hid (endE n p 0 = 0) := Lib.hid (by simp [endE, hp])
      go_enter Tryz.func11, Tryz.ntmps11
      go_wp2_with fail
      go_quiet (fail)
      go_wp2
      go_ret
      exact ⟨by rw [H.out]; rfl, _, rfl⟩
  · have h2 := h.c2
    have ht2 : ((e : Int) != 0) = true := by simpa using he
    have H : Hid (endE n p e = e) := Lib.hid (by simp [endE, he])
    go_enter Tryz.func11, Tryz.ntmps11
    go_wp2
    go_ret
    exact ⟨by rw [H.out]; rfl, 0, rfl⟩
def IntPost (T : TypeId) (w : World) (g : Nat) (A : Option Addr) (n c : Nat) (l : List UInt8) (p : Nat) (r : Int × Nat × Nat) (x : Ending) (w' : World) : Prop :=
  x = .returned (.int .i64 r.1) ∧ Rd T w' g A n c l (p + r.2.1) r.2.2 ∧ w.grownBy w' (some g)
set_option maxHeartbeats 2000000 in
theorem refInt_any (w : World) (g : Nat) (A : Option Addr) (n c : Nat) (l : List UInt8) (p e : Nat) (h : Rd 28 w g A n c l p e) (lo hi : Int) :
    Calls Tryz.prog 25 #[.pointer (some ⟨g, 0, none⟩), .int .i64 lo, .int .i64 hi] w (IntPost 28 w g A n c l p (lk l p e lo hi)) := by
  by_cases he : e = 0
  · subst he
    have h0 := h.c0
    have h1 := h.c1
    have h2 : w.cell? ⟨g, 2, none⟩ = some (.int .i64 0) := h.c2
    have hf := h.free 2
    have hf1 := h.free 1
    have hpn := h.at_le
    have hcap := h.has.cap
    have hcm := h.has.capMax
    have hb0 : (0 : Int) ≤ (p : Int) := by omega
    have hb1 : (p : Int) ≤ (n : Int) := by omega
    have hb2 : (n : Int) ≤ (c : Int) := by omega
    have hb3 : (p : Int) ≤ (c : Int) := by omega
    have HE := Lib.hid (gE_le (l.drop p))
    have hkn : gK (l.drop p) ≤ n - p := by
      have h1 := (gK_le (l.drop p)).1
      rw [List.length_drop, h.has.len] at h1
      exact h1
    obtain ⟨m, hm⟩ : ∃ m, Hid (gN (l.drop p) = m) := ⟨_, Lib.hid rfl⟩
    obtain ⟨k, hk⟩ : ∃ k, Hid (gK (l.drop p) = k) := ⟨_, Lib.hid rfl⟩
    rw [hk.out] at hkn
    by_cases he0 : gE (l.drop p) = 0
    · have He0 := Lib.hid he0
      clear he0
      by_cases hr : m < lo ∨ hi < m
      · have Hl := Lib.hid (lk_far (lo := lo) (hi := hi) He0.out (by rw [hm.out]; exact hr))
        by_cases hcp : c = p
        case' pos => obtain rfl : n = p := by omega
        case' pos => subst hcp
        case' pos => have hd := Lib.hid (cut_all h.has)
        case' neg => have hd := Lib.hid (cut_is h.has hpn hcp)
        all_goals
          go_enter Tryz.func25, Tryz.ntmps25
          go_wp2_with fail
          go_quiet ((go_at_call 42; exact quietS (refGet_is (hd.out.drewN _) hm.out hk.out He0.out)))
          go_wp2_with fail
          all_goals
            first
              | (exfalso; omega)
              | (go_ret
                 exact ⟨by rw [Hl.out]; rfl, by rw [Hl.out]; exact (h.setE 2 (by omega)).drewN _, grown_drewN (grown_set _ _ _ _) _⟩)
      · have Hl := Lib.hid (lk_ok (lo := lo) (hi := hi) He0.out (by rw [hm.out]; exact hr))
        by_cases hcp : c = p
        case' pos => obtain rfl : n = p := by omega
        case' pos => subst hcp
        case' pos => have hd := Lib.hid (cut_all h.has)
        case' neg => have hd := Lib.hid (cut_is h.has hpn hcp)
        all_goals
          go_enter Tryz.func25, Tryz.ntmps25
          go_wp2_with fail
          go_quiet ((go_at_call 42; exact quietS (refGet_is (hd.out.drewN _) hm.out hk.out He0.out)))
          go_wp2_with fail
          all_goals
            first
              | (exfalso; omega)
              | (go_ret
                 exact ⟨by rw [Hl.out, hm.out]; rfl, by rw [Hl.out, hk.out]; exact (h.setP (_ + k) (by omega)).drewN _, grown_drewN (grown_set _ _ _ _) _⟩)
    · have Hl := Lib.hid (lk_none (lo := lo) (hi := hi) he0)
      obtain ⟨q, hq⟩ : ∃ q, Hid (gE (l.drop p) = q) := ⟨_, Lib.hid rfl⟩
      rw [hq.out] at he0 Hl HE
      have ht2 : ((q : Int) != 0) = true := by simpa using he0
      by_cases hcp : c = p
      case' pos => obtain rfl : n = p := by omega
      case' pos => subst hcp
      case' pos => have hd := Lib.hid (cut_all h.has)
      case' neg => have hd := Lib.hid (cut_is h.has hpn hcp)
      all_goals
        go_enter Tryz.func25, Tryz.ntmps25
        go_wp2_with fail
        go_quiet ((go_at_call 42; exact quietS (refGet_is (hd.out.drewN _) hm.out hk.out hq.out)))
        go_wp2_with fail
        go_ret
        exact ⟨by rw [Hl.out]; rfl, by rw [Hl.out]; exact (h.setE q HE.out).drewN _, grown_drewN (grown_set _ _ _ _) _⟩
  · have h2 := h.c2
    have ht2 : ((e : Int) != 0) = true := by simpa using he
    have Hl := Lib.hid (lk_err (l := l) (p := p) (lo := lo) (hi := hi) he)
    go_enter Tryz.func25, Tryz.ntmps25
    go_wp2_with fail
    go_ret
    exact ⟨by rw [Hl.out]; rfl, by rw [Hl.out]; exact h, World.grownBy.refl _ _⟩
set_option maxHeartbeats 4000000 in
theorem refText_any (w : World) (g : Nat) (A : Option Addr) (n c : Nat) (l : List UInt8) (p e : Nat) (h : Rd 28 w g A n c l p e) (hi : Int) :
    Calls Tryz.prog 26 #[.pointer (some ⟨g, 0, none⟩), .int .i64 hi] w (TextPost 28 w g A n c l (tx l p e hi)) := by
  by_cases he : e = 0
  · subst he
    have h0 := h.c0
    have h1 := h.c1
    have h2 : w.cell? ⟨g, 2, none⟩ = some (.int .i64 0) := h.c2
    have hf := h.free 2
    have hf1 := h.free 1
    have hpn := h.at_le
    have hcap := h.has.cap
    have hcm := h.has.capMax
    have Hll := Lib.hid h.has.len
    have hb0 : (0 : Int) ≤ (p : Int) := by omega
    have hb1 : (p : Int) ≤ (n : Int) := by omega
    have hb2 : (n : Int) ≤ (c : Int) := by omega
    have hb3 : (p : Int) ≤ (c : Int) := by omega
    have HE := Lib.hid (gE_le (l.drop p))
    have hkn : gK (l.drop p) ≤ n - p := by
      have h1 := (gK_le (l.drop p)).1
      rw [List.length_drop, h.has.len] at h1
      exact h1
    have hmx := (gN_bd (l.drop p)).2
    obtain ⟨m, hm⟩ : ∃ m, Hid (gN (l.drop p) = m) := ⟨_, Lib.hid rfl⟩
    obtain ⟨k, hk⟩ : ∃ k, Hid (gK (l.drop p) = k) := ⟨_, Lib.hid rfl⟩
    rw [hk.out] at hkn
    rw [hm.out] at hmx
    by_cases he0 : gE (l.drop p) = 0
    · have He0 := Lib.hid he0
      clear he0
      by_cases hr : m < 0 ∨ hi < m
      · have Hl := Lib.hid (tx_err (lk_far (lo := 0) (hi := hi) He0.out (by rw [hm.out]; exact hr)) (by omega))
        by_cases hcp : c = p
        case' pos => obtain rfl : n = p := by omega
        case' pos => subst hcp
        case' pos => have hd := Lib.hid (cut_all h.has)
        case' neg => have hd := Lib.hid (cut_is h.has hpn hcp)
        all_goals
          go_enter Tryz.func26, Tryz.ntmps26
          go_wp2_with fail
          go_quiet ((go_at_call 42; exact quietS (refGet_is (hd.out.drewN _) hm.out hk.out He0.out)))
          go_wp2_with fail
          all_goals
            first
              | (exfalso; omega)
              | (go_ret
                 exact ⟨by rw [Hl.out]; rfl, by rw [Hl.out]; exact (h.setE 2 (by omega)).drewN _, grown_drewN (grown_set _ _ _ _) _⟩)
      · have Hlk := Lib.hid (lk_ok (lo := 0) (hi := hi) He0.out (by rw [hm.out]; exact hr))
        have hm0 : 0 ≤ m := by omega
        have hmh : m ≤ hi := by omega
        have hlk : lk l p 0 0 hi = (m, k, 0) := by rw [Hlk.out, hm.out, hk.out]
        have Hw1 : Hid (IntKind.i64.wrap ((n : Int) - (p : Int)) = (n : Int) - (p : Int)) := Lib.hid (IntWalk.i64_in _ (by omega))
        have Hw2 : Hid (IntKind.i64.wrap ((n : Int) - (p : Int) - (k : Int)) = (n : Int) - (p : Int) - (k : Int)) := Lib.hid (IntWalk.i64_in _ (by omega))
        have hk1 : 1 ≤ k := by have := (g_tells He0.out).2.2.1; rwa [hk.out] at this
        have hcp : ¬ c = p := by omega
        have hd := Lib.hid (cut_is h.has hpn hcp)
        obtain ⟨mn, rfl⟩ := Int.eq_ofNat_of_zero_le hm0
        by_cases hfit : mn ≤ n - p - k
        · have Ht := Lib.hid (tx_ok hlk (by rw [Hll.out]; exact hfit))
          clear hlk
          have hfm : (mn : Int) ≤ (n : Int) - (p : Int) - (k : Int) := by omega
          have hfd : decide ((n : Int) - (p : Int) - (k : Int) < (mn : Int)) = false := by simp; omega
          have Hw3 : Hid (IntKind.i64.wrap ((p : Int) + (k : Int)) = (p : Int) + (k : Int)) := Lib.hid (IntWalk.i64_in _ (by omega))
          have Hw4 : Hid (IntKind.i64.wrap ((p : Int) + (k : Int) + (mn : Int)) = (p : Int) + (k : Int) + (mn : Int)) := Lib.hid (IntWalk.i64_in _ (by omega))
          have hc0 : (0 : Int) ≤ (p : Int) + (k : Int) := by omega
          have hc1 : (p : Int) + (k : Int) ≤ (p : Int) + (k : Int) + (mn : Int) := by omega
          have hc2 : (p : Int) + (k : Int) + (mn : Int) ≤ (c : Int) := by omega
          have hc3 : (p : Int) + (k : Int) ≤ (c : Int) := by omega
          have hc4 : (p : Int) + (k : Int) + (mn : Int) ≤ (n : Int) := by omega
          by_cases hcq : c = p + k
          · obtain rfl : n = p + k := by omega
            subst hcq
            obtain rfl : mn = 0 := by omega
            have hst : ∀ (q : Nat), (convert 22 9 (.slice A 0 0)).run Tryz.prog (w.drewN q) = .ok (.string ⟨#[]⟩) (w.drewN q) := fun q =>
              run_convert_bytes_zero _ 22 5 Tryz.underlying22 Tryz.underlying5 A 0 9 Tryz.underlying9
            have hd' : Hid (HasB w g (Option.map (fun x => x.add p) A) k k (l.drop p)) := Lib.hid (by have := hd.out; rwa [Nat.add_sub_cancel_left] at this)
            clear hd
            go_enter Tryz.func26, Tryz.ntmps26
            go_wp2_with fail
            go_quiet ((go_at_call 42; exact quietS (refGet_is (hd'.out.drewN _) hm.out hk.out He0.out)))
            go_wp2_with fail
            have hw1 := Hw1.out
            have hw2 := Hw2.out
            go_quiet (fail)
            clear hw1 hw2
            go_wp2_with fail
            have hw3 := Hw3.out
            have hw4 := Hw4.out
            go_quiet (fail)
            clear hw3 hw4
            go_wp2_with fail
            go_ret
            exact ⟨by rw [Ht.out]; rfl, by
              rw [Ht.out]
              exact (h.drewN _).setP (p + k) (Nat.le_refl _), grownBy_trans (grown_drewN (World.grownBy.refl _ _) _) (grown_set _ _ _ _) (fun k hk => .inl hk)⟩
          · obtain ⟨ad, rfl⟩ : ∃ ad, A = some ad := by
              rcases A with _ | ad
              · have := h.has.void rfl; have := h.has.cap; omega
              · exact ⟨ad, rfl⟩
            have hst : ∀ (q : Nat), (convert 22 9 (.slice (some (ad.add (p + k))) mn (c - (p + k)))).run Tryz.prog (w.drewN q) = .ok (.string ⟨((l.drop (p + k)).take mn).toArray⟩) (w.drewN q) := fun q =>
              (((cut_is h.has (by omega) hcq).take_ mn (by omega)).drewN q).string 22 5 9 Tryz.underlying22 Tryz.underlying5 Tryz.underlying9
            go_enter Tryz.func26, Tryz.ntmps26
            go_wp2_with fail
            go_quiet ((go_at_call 42; exact quietS (refGet_is (hd.out.drewN _) hm.out hk.out He0.out)))
            go_wp2_with fail
            have hw1 := Hw1.out
            have hw2 := Hw2.out
            go_quiet (fail)
            clear hw1 hw2
            go_wp2_with fail
            have hw3 := Hw3.out
            have hw4 := Hw4.out
            go_quiet (fail)
            clear hw3 hw4
            go_wp2_with fail
            go_ret
            exact ⟨by rw [Ht.out]; rfl, by
              rw [Ht.out]
              exact (h.drewN _).setP (p + k + mn) (by omega), grownBy_trans (grown_drewN (World.grownBy.refl _ _) _) (grown_set _ _ _ _) (fun k hk => .inl hk)⟩
        · have Ht := Lib.hid (tx_short hlk (by rw [Hll.out]; exact hfit))
          clear hlk
          have hfm : (n : Int) - (p : Int) - (k : Int) < (mn : Int) := by omega
          go_enter Tryz.func26, Tryz.ntmps26
          go_wp2_with fail
          go_quiet ((go_at_call 42; exact quietS (refGet_is (hd.out.drewN _) hm.out hk.out He0.out)))
          go_wp2_with fail
          have hw1 := Hw1.out
          have hw2 := Hw2.out
          go_quiet (fail)
          clear hw1 hw2
          go_wp2_with fail
          go_ret
          exact ⟨by rw [Ht.out]; rfl, by rw [Ht.out]; exact (h.drewN _).setE 3 (by omega), grownBy_trans (grown_drewN (World.grownBy.refl _ _) _) (grown_set _ _ _ _) (fun k hk => .inl hk)⟩
    · obtain ⟨q, hq⟩ : ∃ q, Hid (gE (l.drop p) = q) := ⟨_, Lib.hid rfl⟩
      have Hl := Lib.hid (tx_err (lk_none (lo := 0) (hi := hi) he0) he0)
      rw [hq.out] at he0 Hl HE
      have ht2 : ((q : Int) != 0) = true := by simpa using he0
      by_cases hcp : c = p
      case' pos => obtain rfl : n = p := by omega
      case' pos => subst hcp
      case' pos => have hd := Lib.hid (cut_all h.has)
      case' neg => have hd := Lib.hid (cut_is h.has hpn hcp)
      all_goals
        go_enter Tryz.func26, Tryz.ntmps26
        go_wp2_with fail
        go_quiet ((go_at_call 42; exact quietS (refGet_is (hd.out.drewN _) hm.out hk.out hq.out)))
        go_wp2_with fail
        go_ret
        exact ⟨by rw [Hl.out]; rfl, by rw [Hl.out]; exact (h.setE q HE.out).drewN _, grown_drewN (grown_set _ _ _ _) _⟩
  · have h2 := h.c2
    have ht2 : ((e : Int) != 0) = true := by simpa using he
    have Hl := Lib.hid (tx_err (lk_err (l := l) (p := p) (lo := 0) (hi := hi) he) he)
    go_enter Tryz.func26, Tryz.ntmps26
    go_wp2_with fail
    go_ret
    exact ⟨by rw [Hl.out]; rfl, by rw [Hl.out]; exact h, World.grownBy.refl _ _⟩
end Go.Proofs.YtfddaegepmdohaaGreatDoor
