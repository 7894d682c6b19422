/- WireRd, GrownOf, WireRefRd, WireS, CubW, CubR2 -/
import Derived.Test.YteifhgcjmjihgaaGreatJ2
import Derived.Test.YteifhgcjmjihgaaGreatJ14
import Derived.BigQuiet
import Derived.Deep.QuietTactic
import Derived.Outline
namespace Go.Proofs.YteifhgcjmjihgaaGreat
set_option maxRecDepth 100000
open Go.RowKit

/-- Block g is a reader (of type T) of the bytes l, at a place, with an error. -/
structure Rd (T : TypeId) (w : World) (g : Nat) (A : Option Addr) (n c : Nat) (l : List UInt8) (p e : Nat) : Prop where
  block : Block w g T #[.slice A n c, .int .i64 (p : Int), .int .i64 (e : Int)]
  has : HasB w g A n c l
  at_le : p ≤ n
  err_le : e ≤ 3

section
variable {T : TypeId} {w w' : World} {g : Nat} {A : Option Addr} {n c : Nat} {l : List UInt8} {p e : Nat}
theorem Rd.c0 (h : Rd T w g A n c l p e) : w.cell? ⟨g, 0, none⟩ = some (.slice A n c) := h.block.cell 0
theorem Rd.c1 (h : Rd T w g A n c l p e) : w.cell? ⟨g, 1, none⟩ = some (.int .i64 (p : Int)) := h.block.cell 1
theorem Rd.c2 (h : Rd T w g A n c l p e) : w.cell? ⟨g, 2, none⟩ = some (.int .i64 (e : Int)) := h.block.cell 2
theorem Rd.free (h : Rd T w g A n c l p e) (i : Nat) : w.frozen? ⟨g, i, none⟩ = false := h.block.free i
theorem Rd.lt (h : Rd T w g A n c l p e) : g < w.heap.size := h.block.lt
theorem Rd.drewN (h : Rd T w g A n c l p e) (k : Nat) : Rd T (w.drewN k) g A n c l p e := ⟨h.block.drewN k, h.has.drewN k, h.at_le, h.err_le⟩
theorem Rd.grown {row : Option Nat} (h : Rd T w g A n c l p e) (hg : w.grownBy w' row) (hr : ∀ k, row = some k → g < k) : Rd T w' g A n c l p e :=
  ⟨h.block.grown hg (fun e => by have := hr _ e; omega), h.has.grown hg (Nat.le_of_lt h.lt) (fun k hk => Nat.le_of_lt (hr k hk)), h.at_le, h.err_le⟩
theorem HasB.setAbove {B i : Nat} {u : Value} (h : HasB w B A n c l) (hg : B ≤ g) : HasB (w.setCell ⟨g, i, none⟩ u) B A n c l :=
  h.keep fun b o hb => by
    apply World.cell?_of_block
    simp [World.setCell, Array.getElem?_modify]
    intro e; omega
theorem Rd.setE (h : Rd T w g A n c l p e) (e' : Nat) (he : e' ≤ 3) : Rd T (w.setCell ⟨g, 2, none⟩ (.int .i64 (e' : Int))) g A n c l p e' :=
  ⟨h.block.set_ 2 _, h.has.setAbove (Nat.le_refl _), h.at_le, he⟩
theorem Rd.setP (h : Rd T w g A n c l p e) (p' : Nat) (hp : p' ≤ n) : Rd T (w.setCell ⟨g, 1, none⟩ (.int .i64 (p' : Int))) g A n c l p' e :=
  ⟨h.block.set_ 1 _, h.has.setAbove (Nat.le_refl _), hp, h.err_le⟩
theorem grown_set (w : World) (g i : Nat) (u : Value) : w.grownBy (w.setCell ⟨g, i, none⟩ u) (some g) :=
  ⟨rfl, rfl, rfl, by simp [World.setCell], fun k _ hk => by
    simp [World.setCell, Array.getElem?_modify]
    intro e; exact absurd (congrArg some e.symm) hk⟩
theorem grown_drewN {row : Option Nat} {a b : World} (h : a.grownBy b row) (k : Nat) : a.grownBy (b.drewN k) row := ⟨h.os, h.tape, h.output, h.size, h.block⟩
end

theorem failed_any (w : World) (g : Nat) (A : Option Addr) (n c : Nat) (l : List UInt8) (p e : Nat) (h : Rd 94 w g A n c l p e) :
    Calls Tryz.prog 45 #[.pointer (some ⟨g, 0, none⟩)] w fun x w' => x = .returned (.bool ((e : Int) != 0)) ∧ w = w' := by
  have h2 := h.c2
  go_enter Tryz.func45, Tryz.ntmps45
  go_wp2
  go_ret
  exact ⟨rfl, rfl⟩
theorem at_any (w : World) (g : Nat) (A : Option Addr) (n c : Nat) (l : List UInt8) (p e : Nat) (h : Rd 94 w g A n c l p e) :
    Calls Tryz.prog 21 #[.pointer (some ⟨g, 0, none⟩)] w fun x w' => x = .returned (.int .i64 p) ∧ w = w' := by
  have h1 := h.c1
  go_enter Tryz.func21, Tryz.ntmps21
  go_wp2
  go_ret
  exact ⟨rfl, rfl⟩

/-- What is looked at: the number, its bytes, the error. -/
def lk (l : List UInt8) (p e : Nat) (lo hi : Int) : Int × Nat × Nat :=
  if e ≠ 0 then (0, 0, e) else if gE (l.drop p) ≠ 0 then (0, 0, gE (l.drop p)) else if gN (l.drop p) < lo ∨ hi < gN (l.drop p) then (0, 0, 2) else (gN (l.drop p), gK (l.drop p), 0)
theorem lk_err {l : List UInt8} {p e : Nat} {lo hi : Int} (h : e ≠ 0) : lk l p e lo hi = (0, 0, e) := if_pos h
theorem lk_none {l : List UInt8} {p : Nat} {lo hi : Int} (h : gE (l.drop p) ≠ 0) : lk l p 0 lo hi = (0, 0, gE (l.drop p)) := by
  unfold lk; rw [if_neg (by simp), if_pos h]
theorem lk_far {l : List UInt8} {p : Nat} {lo hi : Int} (h : gE (l.drop p) = 0) (h' : gN (l.drop p) < lo ∨ hi < gN (l.drop p)) : lk l p 0 lo hi = (0, 0, 2) := by
  unfold lk; rw [if_neg (by simp), if_neg (by simpa using h), if_pos h']
theorem lk_ok {l : List UInt8} {p : Nat} {lo hi : Int} (h : gE (l.drop p) = 0) (h' : ¬ (gN (l.drop p) < lo ∨ hi < gN (l.drop p))) : lk l p 0 lo hi = (gN (l.drop p), gK (l.drop p), 0) := by
  unfold lk; rw [if_neg (by simp), if_neg (by simpa using h), if_neg h']
theorem lk_e (l : List UInt8) (p e : Nat) (lo hi : Int) (he : e ≤ 3) : (lk l p e lo hi).2.2 ≤ 3 := by
  unfold lk
  split
  · exact he
  · split
    · exact gE_le _
    · split <;> simp
theorem lk_k (l : List UInt8) (p e : Nat) (lo hi : Int) : (lk l p e lo hi).2.1 ≤ l.length - p := by
  have := (gK_le (l.drop p)).1
  rw [List.length_drop] at this
  unfold lk
  split
  · simp
  · split
    · simp
    · split
      · simp
      · exact this
theorem lk_n (l : List UInt8) (p e : Nat) (lo hi : Int) : -9223372036854775808 ≤ (lk l p e lo hi).1 ∧ (lk l p e lo hi).1 ≤ 9223372036854775807 := by
  have := gN_bd (l.drop p)
  unfold lk
  split
  · simp
  · split
    · simp
    · split
      · simp
      · exact this


def LookPost (T : TypeId) (w : World) (g : Nat) (A : Option Addr) (n c : Nat) (l : List UInt8) (p : Nat) (r : Int × Nat × Nat) (x : Ending) (w' : World) : Prop :=
  x = .returned (.tuple #[.int .i64 r.1, .int .i64 (r.2.1 : Nat)]) ∧ Rd T w' g A n c l p r.2.2 ∧ w.grownBy w' (some g)
theorem getInt_is {A : Option Addr} {n c : Nat} {l : List UInt8} {w : World} {B : Nat} (hr : HasB w B A n c l) {m : Int} {k e : Nat} (hm : gN l = m) (hk : gK l = k) (he : gE l = e) :
    Calls Tryz.prog 92 #[.slice A n c] w fun x w' => x = .returned (.tuple #[.int .i64 m, .int .i64 (k : Nat), .int .i64 (e : Nat)]) ∧ w = w' := by
  have := getInt_any A n c l w B hr
  rwa [hm, hk, he] at this
theorem at_two {r : Int × Nat × Nat} {m : Int} {k e : Nat} (h : r = (m, k, e)) : Ending.returned (.tuple #[.int .i64 m, .int .i64 (k : Nat)]) = .returned (.tuple #[.int .i64 r.1, .int .i64 (r.2.1 : Nat)]) := by rw [h]
set_option maxHeartbeats 2000000 in
theorem look_any (w : World) (g : Nat) (A : Option Addr) (n c : Nat) (l : List UInt8) (p e : Nat) (h : Rd 94 w g A n c l p e) (lo hi : Int) :
    Calls Tryz.prog 71 #[.pointer (some ⟨g, 0, none⟩), .int .i64 lo, .int .i64 hi] w (LookPost 94 w g A n c l p (lk l p e lo hi)) := by
  by_cases he : e = 0
  · subst he
    have h0 := h.c0
    have h1 := h.c1
    have h2 : w.cell? ⟨g, 2, none⟩ = some (.int .i64 0) := h.c2
    have hf := h.free 2
    have hpn := h.at_le
    have hcap := h.has.cap
    have hcm := h.has.capMax
    have hb0 : (0 : Int) ≤ (p : Int) := by omega
    have hb1 : (p : Int) ≤ (n : Int) := by omega
    have hb2 : (n : Int) ≤ (c : Int) := by omega
    have hb3 : (p : Int) ≤ (c : Int) := by omega
    have HE := Lib.hid (gE_le (l.drop p))
    obtain ⟨m, hm⟩ : ∃ m, Hid (gN (l.drop p) = m) := ⟨_, Lib.hid rfl⟩
    obtain ⟨k, hk⟩ : ∃ k, Hid (gK (l.drop p) = k) := ⟨_, Lib.hid rfl⟩
    by_cases he0 : gE (l.drop p) = 0
    · have He0 := Lib.hid he0
      clear he0
      by_cases hr : m < lo ∨ hi < m
      · have Hl := Lib.hid (lk_far (lo := lo) (hi := hi) He0.out (by rw [hm.out]; exact hr))
        by_cases hcp : c = p
        case' pos => obtain rfl : n = p := by omega
        case' pos => subst hcp
        case' pos => have hd := Lib.hid (cut_all h.has)
        case' neg => have hd := Lib.hid (cut_is h.has hpn hcp)
        all_goals
          go_enter Tryz.func71, Tryz.ntmps71
          go_wp2_with fail
          refine (failed_any _ _ _ _ _ _ _ _ h).mono ?_
          rintro x w' ⟨rfl, rfl⟩
          go_wp2_with fail
          go_quiet ((go_at_call 92; exact quietS (getInt_is (hd.out.drewN _) hm.out hk.out He0.out)))
          go_wp2_with fail
          all_goals
            first
              | (exfalso; omega)
              | (go_ret2
                 exact ⟨at_two (e := 2) Hl.out, by rw [Hl.out]; exact (h.setE 2 (by omega)).drewN _, grown_drewN (grown_set _ _ _ _) _⟩)
      · have Hl := Lib.hid (lk_ok (lo := lo) (hi := hi) He0.out (by rw [hm.out]; exact hr))
        by_cases hcp : c = p
        case' pos => obtain rfl : n = p := by omega
        case' pos => subst hcp
        case' pos => have hd := Lib.hid (cut_all h.has)
        case' neg => have hd := Lib.hid (cut_is h.has hpn hcp)
        all_goals
          go_enter Tryz.func71, Tryz.ntmps71
          go_wp2_with fail
          refine (failed_any _ _ _ _ _ _ _ _ h).mono ?_
          rintro x w' ⟨rfl, rfl⟩
          go_wp2_with fail
          go_quiet ((go_at_call 92; exact quietS (getInt_is (hd.out.drewN _) hm.out hk.out He0.out)))
          go_wp2_with fail
          all_goals
            first
              | (exfalso; omega)
              | (go_ret2
                 exact ⟨at_two (m := m) (k := k) (e := 0) (by rw [Hl.out, hm.out, hk.out]), by rw [Hl.out]; exact h.drewN _, grown_drewN (World.grownBy.refl _ _) _⟩)
    · have Hl := Lib.hid (lk_none (lo := lo) (hi := hi) he0)
      have hz := Lib.hid (gE_or (l.drop p))
      obtain ⟨q, hq⟩ : ∃ q, Hid (gE (l.drop p) = q) := ⟨_, Lib.hid rfl⟩
      rw [hq.out] at he0 Hl HE
      have ht1 : ((q : Int) == 0) = false := by simpa using he0
      have ht2 : ((q : Int) != 0) = true := by simpa using he0
      by_cases hcp : c = p
      case' pos => obtain rfl : n = p := by omega
      case' pos => subst hcp
      case' pos => have hd := Lib.hid (cut_all h.has)
      case' neg => have hd := Lib.hid (cut_is h.has hpn hcp)
      all_goals
        go_enter Tryz.func71, Tryz.ntmps71
        go_wp2_with fail
        refine (failed_any _ _ _ _ _ _ _ _ h).mono ?_
        rintro x w' ⟨rfl, rfl⟩
        go_wp2_with fail
        go_quiet ((go_at_call 92; exact quietS (getInt_is (hd.out.drewN _) hm.out hk.out hq.out)))
        go_wp2_with fail
        go_ret2
        exact ⟨at_two (e := q) Hl.out, by rw [Hl.out]; exact (h.setE q HE.out).drewN _, grown_drewN (grown_set _ _ _ _) _⟩
  · have h2 := h.c2
    have hne : ((e : Int) != 0) = true := by simpa using he
    have Hl := Lib.hid (lk_err (l := l) (p := p) (lo := lo) (hi := hi) he)
    go_enter Tryz.func71, Tryz.ntmps71
    go_wp2_with fail
    refine (failed_any _ _ _ _ _ _ _ _ h).mono ?_
    rintro x w' ⟨rfl, rfl⟩
    go_wp2_with fail
    go_ret2
    exact ⟨by rw [Hl.out]; rfl, by rw [Hl.out]; exact h, World.grownBy.refl _ _⟩

/-- Int. -/
theorem int_any (w : World) (g : Nat) (A : Option Addr) (n c : Nat) (l : List UInt8) (p e : Nat) (h : Rd 94 w g A n c l p e) (lo hi : Int) :
    Calls Tryz.prog 44 #[.pointer (some ⟨g, 0, none⟩), .int .i64 lo, .int .i64 hi] w fun x w' => x = .returned (.int .i64 (lk l p e lo hi).1) ∧ Rd 94 w' g A n c l (p + (lk l p e lo hi).2.1) (lk l p e lo hi).2.2 ∧ w.grownBy w' (some g) := by
  have hk := lk_k l p e lo hi
  have hll := h.has.len
  have hnm := h.has.lenMax
  have hpn := h.at_le
  generalize hr : lk l p e lo hi = r at *
  have Hr := Lib.hid hr
  clear hr
  obtain ⟨m, k, e'⟩ := r
  have hk' : k ≤ n - p := by rw [← hll]; exact hk
  clear hk hll
  go_enter Tryz.func44, Tryz.ntmps44
  go_wp2_with fail
  refine (look_any _ _ _ _ _ _ _ _ h lo hi).mono ?_
  rw [Hr.out]
  rintro x w1 ⟨rfl, h', hg⟩
  have h1 := h'.c1
  have hf := h'.free 1
  go_wp2
  go_ret
  exact ⟨rfl, h'.setP (p + k) (by omega), grownBy_trans hg (grown_set _ _ _ _) (fun k hk => .inl hk)⟩
/-- Bad. -/
theorem bad_any (w : World) (g : Nat) (A : Option Addr) (n c : Nat) (l : List UInt8) (p e : Nat) (h : Rd 94 w g A n c l p e) :
    Calls Tryz.prog 74 #[.pointer (some ⟨g, 0, none⟩)] w fun x w' => x = .returned (.tuple #[]) ∧ Rd 94 w' g A n c l p (if e = 0 then 2 else e) ∧ w.grownBy w' (some g) := by
  have hf := h.free 2
  by_cases he : e = 0
  · subst he
    have h2 : w.cell? ⟨g, 2, none⟩ = some (.int .i64 0) := h.c2
    have hR := Lib.hid (h.setE 2 (by omega))
    go_enter Tryz.func74, Tryz.ntmps74
    go_wp2_with fail
    refine (failed_any _ _ _ _ _ _ _ _ h).mono ?_
    rintro x w' ⟨rfl, rfl⟩
    go_wp2
    go_end0
    exact ⟨rfl, hR.out, grown_set _ _ _ _⟩
  · have h2 := h.c2
    have ht2 : ((e : Int) != 0) = true := by simpa using he
    rw [if_neg he]
    go_enter Tryz.func74, Tryz.ntmps74
    go_wp2_with fail
    refine (failed_any _ _ _ _ _ _ _ _ h).mono ?_
    rintro x w' ⟨rfl, rfl⟩
    go_wp2
    go_end0
    exact ⟨rfl, h, World.grownBy.refl _ _⟩
/-- End. -/
def endE (n p e : Nat) : Nat := if e ≠ 0 then e else if p < n then 2 else 0
theorem end_any (w : World) (g : Nat) (A : Option Addr) (n c : Nat) (l : List UInt8) (p e : Nat) (h : Rd 94 w g A n c l p e) :
    Calls Tryz.prog 22 #[.pointer (some ⟨g, 0, none⟩)] w fun x w' => x = .returned (.int .i64 (endE n p e : Nat)) ∧ ∃ k, w' = w.drewN k := by
  have h0 := h.c0
  have h1 := h.c1
  have hnm := h.has.lenMax
  have hcap := h.has.cap
  have hcm := h.has.capMax
  have hpn := h.at_le
  by_cases he : e = 0
  · subst he
    have h2 : w.cell? ⟨g, 2, none⟩ = some (.int .i64 0) := h.c2
    by_cases hp : p < n
    · have hd : decide ((p : Nat) < n) = true := decide_eq_true hp
      have H : Hid (endE n p 0 = 2) := Lib.hid (by simp [endE, hp])
      go_enter Tryz.func22, Tryz.ntmps22
      go_wp2_with fail
      go_quiet ((go_at_call 45; exact quietS (failed_any _ _ _ _ _ _ _ _ (h.drewN _))))
      go_wp2
      go_ret
      exact ⟨by rw [H.out]; rfl, _, rfl⟩
    · have hd : decide ((p : Nat) < n) = false := decide_eq_false hp
      have H : Hid (endE n p 0 = 0) := Lib.hid (by simp [endE, hp])
      go_enter Tryz.func22, Tryz.ntmps22
      go_wp2_with fail
      go_quiet ((go_at_call 45; exact quietS (failed_any _ _ _ _ _ _ _ _ (h.drewN _))))
      go_wp2
      go_ret
      exact ⟨by rw [H.out]; rfl, _, rfl⟩
  · have h2 := h.c2
    have ht2 : ((e : Int) != 0) = true := by simpa using he
    have ht1 : ((e : Int) == 0) = false := by simpa using he
    have H : Hid (endE n p e = e) := Lib.hid (by simp [endE, he])
    go_enter Tryz.func22, Tryz.ntmps22
    go_wp2_with fail
    go_quiet ((go_at_call 45; exact quietS (failed_any _ _ _ _ _ _ _ _ (h.drewN _))))
    go_wp2
    go_ret
    exact ⟨by rw [H.out]; rfl, _, rfl⟩

/-- A text: its bytes, the place behind it, the error. -/
def tx (l : List UInt8) (p e : Nat) (hi : Int) : List UInt8 × Nat × Nat :=
  let r := lk l p e 0 hi
  if r.2.2 ≠ 0 then ([], p, r.2.2) else if r.1.toNat ≤ l.length - p - r.2.1 then ((l.drop (p + r.2.1)).take r.1.toNat, p + r.2.1 + r.1.toNat, 0) else ([], p, 3)
theorem tx_err {l : List UInt8} {p e k e' : Nat} {hi m : Int} (h : lk l p e 0 hi = (m, k, e')) (he : e' ≠ 0) : tx l p e hi = ([], p, e') := by
  unfold tx; rw [h]; exact if_pos he
theorem tx_short {l : List UInt8} {p e k : Nat} {hi m : Int} (h : lk l p e 0 hi = (m, k, 0)) (hm : ¬ m.toNat ≤ l.length - p - k) : tx l p e hi = ([], p, 3) := by
  unfold tx; rw [h]; simp [hm]
theorem tx_ok {l : List UInt8} {p e k : Nat} {hi m : Int} (h : lk l p e 0 hi = (m, k, 0)) (hm : m.toNat ≤ l.length - p - k) : tx l p e hi = ((l.drop (p + k)).take m.toNat, p + k + m.toNat, 0) := by
  unfold tx; rw [h]; simp [hm]
theorem lk_pos (l : List UInt8) (p e : Nat) (hi : Int) : 0 ≤ (lk l p e 0 hi).1 := by
  unfold lk
  split
  · simp
  · split
    · simp
    · split
      · simp
      · show 0 ≤ gN _
        omega
def TextPost (T : TypeId) (w : World) (g : Nat) (A : Option Addr) (n c : Nat) (l : List UInt8) (r : List UInt8 × Nat × Nat) (x : Ending) (w' : World) : Prop :=
  x = .returned (.string ⟨r.1.toArray⟩) ∧ Rd T w' g A n c l r.2.1 r.2.2 ∧ w.grownBy w' (some g)
end Go.Proofs.YteifhgcjmjihgaaGreat
namespace Go.Proofs.YteifhgcjmjihgaaGreat
set_option maxRecDepth 100000
open Go.RowKit

theorem grown_of {w a : World} (hb : Below w.heap.size w a) (r : Option Nat) : w.grownBy a r := ⟨hb.os, hb.tape, hb.output, hb.size, fun k hk _ => hb.block k hk⟩
theorem below_grown {w a c : World} {b : Nat} (hb : Below w.heap.size w a) (hg : a.grownBy c (some b)) : w.grownBy c (some b) := grownBy_trans (grown_of hb _) hg fun _ h => .inl h
end Go.Proofs.YteifhgcjmjihgaaGreat
namespace Go.Proofs.YteifhgcjmjihgaaGreat
set_option maxRecDepth 100000
open Go.RowKit

theorem refGet_is {A : Option Addr} {n c : Nat} {l : List UInt8} {w : World} {B : Nat} (hr : HasB w B A n c l) {m : Int} {k e : Nat} (hm : gN l = m) (hk : gK l = k) (he : gE l = e) :
    Calls Tryz.prog 75 #[.slice A n c] w fun x w' => x = .returned (.tuple #[.int .i64 m, .int .i64 (k : Nat), .int .i64 (e : Nat)]) ∧ w = w' := by
  have := refGet_any A n c l w B hr
  rwa [hm, hk, he] at this
theorem refBad_any (w : World) (g : Nat) (A : Option Addr) (n c : Nat) (l : List UInt8) (p e : Nat) (h : Rd 49 w g A n c l p e) :
    Calls Tryz.prog 50 #[.pointer (some ⟨g, 0, none⟩)] w fun x w' => x = .returned (.tuple #[]) ∧ Rd 49 w' g A n c l p (if e = 0 then 2 else e) ∧ w.grownBy w' (some g) := by
  have hf := h.free 2
  by_cases he : e = 0
  · subst he
    have h2 : w.cell? ⟨g, 2, none⟩ = some (.int .i64 0) := h.c2
    have hR := Lib.hid (h.setE 2 (by omega))
    go_enter Tryz.func50, Tryz.ntmps50
    go_wp2
    go_end0
    exact ⟨rfl, hR.out, grown_set _ _ _ _⟩
  · have h2 := h.c2
    have ht2 : ((e : Int) == 0) = false := by simpa using he
    rw [if_neg he]
    go_enter Tryz.func50, Tryz.ntmps50
    go_wp2
    go_end0
    exact ⟨rfl, h, World.grownBy.refl _ _⟩
theorem refEnd_any (w : World) (g : Nat) (A : Option Addr) (n c : Nat) (l : List UInt8) (p e : Nat) (h : Rd 49 w g A n c l p e) :
    Calls Tryz.prog 23 #[.pointer (some ⟨g, 0, none⟩)] w fun x w' => x = .returned (.int .i64 (endE n p e : Nat)) ∧ ∃ k, w' = w.drewN k := by
  have h0 := h.c0
  have h1 := h.c1
  have hnm := h.has.lenMax
  have hcap := h.has.cap
  have hcm := h.has.capMax
  have hpn := h.at_le
  by_cases he : e = 0
  · subst he
    have h2 : w.cell? ⟨g, 2, none⟩ = some (.int .i64 0) := h.c2
    by_cases hp : p < n
    · have hd : decide ((p : Nat) < n) = true := decide_eq_true hp
      have H : Hid (endE n p 0 = 2) := Lib.hid (by simp [endE, hp])
      go_enter Tryz.func23, Tryz.ntmps23
      go_wp2_with fail
      go_quiet (fail)
      go_wp2
      go_ret
      exact ⟨by rw [H.out]; rfl, _, rfl⟩
    · have hd : decide ((p : Nat) < n) = false := decide_eq_false hp
      have H : Hid (endE n p 0 = 0) := Lib.hid (by simp [endE, hp])
      go_enter Tryz.func23, Tryz.ntmps23
      go_wp2_with fail
      go_quiet (fail)
      go_wp2
      go_ret
      exact ⟨by rw [H.out]; rfl, _, rfl⟩
  · have h2 := h.c2
    have ht2 : ((e : Int) != 0) = true := by simpa using he
    have H : Hid (endE n p e = e) := Lib.hid (by simp [endE, he])
    go_enter Tryz.func23, Tryz.ntmps23
    go_wp2
    go_ret
    exact ⟨by rw [H.out]; rfl, 0, rfl⟩
def IntPost (T : TypeId) (w : World) (g : Nat) (A : Option Addr) (n c : Nat) (l : List UInt8) (p : Nat) (r : Int × Nat × Nat) (x : Ending) (w' : World) : Prop :=
  x = .returned (.int .i64 r.1) ∧ Rd T w' g A n c l (p + r.2.1) r.2.2 ∧ w.grownBy w' (some g)
set_option maxHeartbeats 2000000 in
theorem refInt_any (w : World) (g : Nat) (A : Option Addr) (n c : Nat) (l : List UInt8) (p e : Nat) (h : Rd 49 w g A n c l p e) (lo hi : Int) :
    Calls Tryz.prog 47 #[.pointer (some ⟨g, 0, none⟩), .int .i64 lo, .int .i64 hi] w (IntPost 49 w g A n c l p (lk l p e lo hi)) := by
  by_cases he : e = 0
  · subst he
    have h0 := h.c0
    have h1 := h.c1
    have h2 : w.cell? ⟨g, 2, none⟩ = some (.int .i64 0) := h.c2
    have hf := h.free 2
    have hf1 := h.free 1
    have hpn := h.at_le
    have hcap := h.has.cap
    have hcm := h.has.capMax
    have hb0 : (0 : Int) ≤ (p : Int) := by omega
    have hb1 : (p : Int) ≤ (n : Int) := by omega
    have hb2 : (n : Int) ≤ (c : Int) := by omega
    have hb3 : (p : Int) ≤ (c : Int) := by omega
    have HE := Lib.hid (gE_le (l.drop p))
    have hkn : gK (l.drop p) ≤ n - p := by
      have h1 := (gK_le (l.drop p)).1
      rw [List.length_drop, h.has.len] at h1
      exact h1
    obtain ⟨m, hm⟩ : ∃ m, Hid (gN (l.drop p) = m) := ⟨_, Lib.hid rfl⟩
    obtain ⟨k, hk⟩ : ∃ k, Hid (gK (l.drop p) = k) := ⟨_, Lib.hid rfl⟩
    rw [hk.out] at hkn
    by_cases he0 : gE (l.drop p) = 0
    · have He0 := Lib.hid he0
      clear he0
      by_cases hr : m < lo ∨ hi < m
      · have Hl := Lib.hid (lk_far (lo := lo) (hi := hi) He0.out (by rw [hm.out]; exact hr))
        by_cases hcp : c = p
        case' pos => obtain rfl : n = p := by omega
        case' pos => subst hcp
        case' pos => have hd := Lib.hid (cut_all h.has)
        case' neg => have hd := Lib.hid (cut_is h.has hpn hcp)
        all_goals
          go_enter Tryz.func47, Tryz.ntmps47
          go_wp2_with fail
          go_quiet ((go_at_call 75; exact quietS (refGet_is (hd.out.drewN _) hm.out hk.out He0.out)))
          go_wp2_with fail
          all_goals
            first
              | (exfalso; omega)
              | (go_ret
                 exact ⟨by rw [Hl.out]; rfl, by rw [Hl.out]; exact (h.setE 2 (by omega)).drewN _, grown_drewN (grown_set _ _ _ _) _⟩)
      · have Hl := Lib.hid (lk_ok (lo := lo) (hi := hi) He0.out (by rw [hm.out]; exact hr))
        by_cases hcp : c = p
        case' pos => obtain rfl : n = p := by omega
        case' pos => subst hcp
        case' pos => have hd := Lib.hid (cut_all h.has)
        case' neg => have hd := Lib.hid (cut_is h.has hpn hcp)
        all_goals
          go_enter Tryz.func47, Tryz.ntmps47
          go_wp2_with fail
          go_quiet ((go_at_call 75; exact quietS (refGet_is (hd.out.drewN _) hm.out hk.out He0.out)))
          go_wp2_with fail
          all_goals
            first
              | (exfalso; omega)
              | (go_ret
                 exact ⟨by rw [Hl.out, hm.out]; rfl, by rw [Hl.out, hk.out]; exact (h.setP (_ + k) (by omega)).drewN _, grown_drewN (grown_set _ _ _ _) _⟩)
    · have Hl := Lib.hid (lk_none (lo := lo) (hi := hi) he0)
      obtain ⟨q, hq⟩ : ∃ q, Hid (gE (l.drop p) = q) := ⟨_, Lib.hid rfl⟩
      rw [hq.out] at he0 Hl HE
      have ht2 : ((q : Int) != 0) = true := by simpa using he0
      by_cases hcp : c = p
      case' pos => obtain rfl : n = p := by omega
      case' pos => subst hcp
      case' pos => have hd := Lib.hid (cut_all h.has)
      case' neg => have hd := Lib.hid (cut_is h.has hpn hcp)
      all_goals
        go_enter Tryz.func47, Tryz.ntmps47
        go_wp2_with fail
        go_quiet ((go_at_call 75; exact quietS (refGet_is (hd.out.drewN _) hm.out hk.out hq.out)))
        go_wp2_with fail
        go_ret
        exact ⟨by rw [Hl.out]; rfl, by rw [Hl.out]; exact (h.setE q HE.out).drewN _, grown_drewN (grown_set _ _ _ _) _⟩
  · have h2 := h.c2
    have ht2 : ((e : Int) != 0) = true := by simpa using he
    have Hl := Lib.hid (lk_err (l := l) (p := p) (lo := lo) (hi := hi) he)
    go_enter Tryz.func47, Tryz.ntmps47
    go_wp2_with fail
    go_ret
    exact ⟨by rw [Hl.out]; rfl, by rw [Hl.out]; exact h, World.grownBy.refl _ _⟩
end Go.Proofs.YteifhgcjmjihgaaGreat
namespace Go.Proofs.YteifhgcjmjihgaaGreat
set_option maxRecDepth 100000

def encT (t : List UInt8) : List UInt8 := enc (zig (t.length : Int)) ++ t
def encI (x : Int) : List UInt8 := enc (zig x)
theorem encI_len {x : Int} (h : -9223372036854775808 ≤ x) (h' : x ≤ 9223372036854775807) : (encI x).length ≤ 10 := enc_ten (zig_lt h h')
theorem flat_len {α : Type} {f : α → List UInt8} {l : List α} {m : Nat} (h : ∀ x ∈ l, (f x).length ≤ m) : (l.flatMap f).length ≤ m * l.length := by
  induction l with
  | nil => simp
  | cons x r ih =>
    have h1 := h x (by simp)
    have h2 := ih fun y hy => h y (List.mem_cons_of_mem _ hy)
    rw [List.flatMap_cons, List.length_append, List.length_cons, Nat.mul_succ]
    omega
theorem flat_snoc {α : Type} {f : α → List UInt8} {l : List α} {k : Nat} {x : α} (h : l[k]? = some x) : (l.take (k + 1)).flatMap f = (l.take k).flatMap f ++ f x := by
  rw [List.take_add_one, h]
  simp
/-- A thing that is read: what, the place behind it, the error. -/
abbrev RdT (α : Type) := List UInt8 → Nat → Nat → α × Nat × Nat
def sevN {α : Type} (rd : RdT α) (l : List UInt8) (p e : Nat) : Nat → List α × Nat × Nat
  | 0 => ([], p, e)
  | k + 1 => ((sevN rd l p e k).1 ++ [(rd l (sevN rd l p e k).2.1 (sevN rd l p e k).2.2).1], (rd l (sevN rd l p e k).2.1 (sevN rd l p e k).2.2).2.1, (rd l (sevN rd l p e k).2.1 (sevN rd l p e k).2.2).2.2)
def sevA {α : Type} (rd : RdT α) (most : Nat) (l : List UInt8) (p e : Nat) : List α × Nat × Nat := sevN rd l (p + (lk l p e 0 most).2.1) (lk l p e 0 most).2.2 (lk l p e 0 most).1.toNat
theorem sevN_len {α : Type} {rd : RdT α} {l : List UInt8} {p e : Nat} : ∀ k, (sevN rd l p e k).1.length = k
  | 0 => rfl
  | k + 1 => by
    show ((sevN rd l p e k).1 ++ [_]).length = _
    rw [List.length_append, sevN_len k]; rfl
theorem sevN_step {α : Type} {rd : RdT α} {l : List UInt8} {p e k : Nat} {X : List α} {p1 e1 p2 e2 : Nat} {x : α} (h : sevN rd l p e k = (X, p1, e1)) (h2 : rd l p1 e1 = (x, p2, e2)) : sevN rd l p e (k + 1) = (X ++ [x], p2, e2) := by
  unfold sevN
  rw [h, h2]
theorem sevA_is {α : Type} {rd : RdT α} {most : Nat} {l : List UInt8} {p e a k1 e1 : Nat} (h : lk l p e 0 most = ((a : Int), k1, e1)) : sevA rd most l p e = sevN rd l (p + k1) e1 a := by
  unfold sevA
  rw [h, Int.toNat_natCast]
theorem lkN_le (l : List UInt8) (p e : Nat) {hi : Int} (h : 0 ≤ hi) : (lk l p e 0 hi).1 ≤ hi := by
  unfold lk
  split
  · exact h
  · split
    · exact h
    · split
      · exact h
      · show gN _ ≤ hi
        omega
theorem lkN_nat (l : List UInt8) (p e : Nat) {hi : Nat} : ∃ (a k1 e1 : Nat), lk l p e 0 (hi : Int) = ((a : Int), k1, e1) ∧ a ≤ hi := by
  have h1 := lk_pos l p e hi
  have h2 := lkN_le l p e (hi := (hi : Int)) (by omega)
  exact ⟨(lk l p e 0 hi).1.toNat, (lk l p e 0 hi).2.1, (lk l p e 0 hi).2.2, Prod.ext (by simp; omega) rfl, by omega⟩
theorem lkP {F R : List UInt8} {x lo hi : Int} (h1 : -9223372036854775808 ≤ x) (h2 : x ≤ 9223372036854775807) (hl : lo ≤ x) (hh : x ≤ hi) : lk (F ++ (encI x ++ R)) F.length 0 lo hi = (x, (encI x).length, 0) := by
  have hd : (F ++ (encI x ++ R)).drop F.length = enc (zig x) ++ R := List.drop_left
  obtain ⟨g1, g2, g3⟩ := g_put h1 h2 R
  rw [lk_ok (by rw [hd]; exact g3) (by rw [hd, g1]; omega), hd, g1, g2]
  rfl
/-- rd reads back what en puts. -/
def Back {α : Type} (rd : RdT α) (en : α → List UInt8) (x : α) : Prop := ∀ F R, rd (F ++ (en x ++ R)) F.length 0 = (x, F.length + (en x).length, 0)
theorem takeW_snoc {α : Type} {L : List α} {k : Nat} {x : α} (h : L[k]? = some x) : L.take k ++ [x] = L.take (k + 1) := by
  rw [List.take_add_one, h]; rfl
theorem sevN_back {α : Type} {rd : RdT α} {en : α → List UInt8} {L : List α} (h : ∀ x ∈ L, Back rd en x) (F R : List UInt8) : ∀ k, k ≤ L.length → sevN rd (F ++ (L.flatMap en ++ R)) F.length 0 k = (L.take k, F.length + ((L.take k).flatMap en).length, 0) := by
  intro k
  induction k with
  | zero => intro _; simp [sevN]
  | succ k ih =>
    intro hk
    have hx : L[k]? = some (L[k]'(by omega)) := List.getElem?_eq_getElem (by omega)
    generalize L[k]'(by omega) = x at hx
    have hB := h x (List.mem_of_getElem? hx)
    have e : F ++ (L.flatMap en ++ R) = (F ++ (L.take k).flatMap en) ++ (en x ++ ((L.drop (k + 1)).flatMap en ++ R)) := by
      have h1 : L.flatMap en = (L.take (k + 1)).flatMap en ++ (L.drop (k + 1)).flatMap en := by rw [← List.flatMap_append, List.take_append_drop]
      rw [h1, flat_snoc hx]
      simp only [List.append_assoc]
    have h2 := hB (F ++ (L.take k).flatMap en) ((L.drop (k + 1)).flatMap en ++ R)
    rw [← e, List.length_append] at h2
    rw [sevN_step (ih (by omega)) h2, takeW_snoc hx, flat_snoc hx, List.length_append]
    simp only [Prod.mk.injEq, true_and, and_true]
    omega
theorem sevA_back {α : Type} {rd : RdT α} {en : α → List UInt8} {L : List α} {most : Nat} (h : ∀ x ∈ L, Back rd en x) (hm : L.length ≤ most) (hm2 : most ≤ 100) (F R : List UInt8) :
    sevA rd most (F ++ (encI (L.length : Int) ++ (L.flatMap en ++ R))) F.length 0 = (L, F.length + (encI (L.length : Int) ++ L.flatMap en).length, 0) := by
  have h1 := lkP (F := F) (R := L.flatMap en ++ R) (x := (L.length : Int)) (lo := 0) (hi := (most : Int)) (by omega) (by omega) (by omega) (by omega)
  rw [sevA_is h1]
  have e : F ++ (encI (L.length : Int) ++ (L.flatMap en ++ R)) = (F ++ encI (L.length : Int)) ++ (L.flatMap en ++ R) := by rw [List.append_assoc]
  have h2 := sevN_back h (F ++ encI (L.length : Int)) R L.length (Nat.le_refl _)
  rw [List.take_of_length_le (Nat.le_refl _), List.length_append] at h2
  rw [e, h2, List.length_append]
  simp only [Prod.mk.injEq, true_and, and_true]
  omega
end Go.Proofs.YteifhgcjmjihgaaGreat
namespace Go.Proofs.YteifhgcjmjihgaaGreat
set_option maxRecDepth 100000

/-- One number, from lo to hi. -/
def rdI (lo hi : Int) : RdT Int := fun l p e => ((lk l p e lo hi).1, p + (lk l p e lo hi).2.1, (lk l p e lo hi).2.2)
theorem rdI_is {lo hi : Int} {l : List UInt8} {p e k e' : Nat} {x : Int} (h : lk l p e lo hi = (x, k, e')) : rdI lo hi l p e = (x, p + k, e') := by unfold rdI; rw [h]
theorem rdI_back {lo hi x : Int} (h1 : -9223372036854775808 ≤ x) (h2 : x ≤ 9223372036854775807) (hl : lo ≤ x) (hh : x ≤ hi) : Back (rdI lo hi) encI x := fun F R => rdI_is (lkP (F := F) (R := R) h1 h2 hl hh)
/-- One thing, and another one behind it. -/
def rdTwo {α β : Type} (a : RdT α) (b : RdT β) : RdT (α × β) := fun l p e => (((a l p e).1, (b l (a l p e).2.1 (a l p e).2.2).1), (b l (a l p e).2.1 (a l p e).2.2).2)
theorem rdTwo_is {α β : Type} {a : RdT α} {b : RdT β} {l : List UInt8} {p e p1 e1 p2 e2 : Nat} {x : α} {y : β} (h : a l p e = (x, p1, e1)) (h2 : b l p1 e1 = (y, p2, e2)) : rdTwo a b l p e = ((x, y), p2, e2) := by
  unfold rdTwo
  rw [h]
  simp only [h2]
theorem rdTwo_back {α β : Type} {a : RdT α} {b : RdT β} {ea : α → List UInt8} {eb : β → List UInt8} {x : α} {y : β} (ha : Back a ea x) (hb : Back b eb y) : Back (rdTwo a b) (fun z => ea z.1 ++ eb z.2) (x, y) := fun F R => by
  have h1 := ha F (eb y ++ R)
  have h2 := hb (F ++ ea x) R
  rw [List.append_assoc, List.length_append] at h2
  have e : F ++ ((fun z : α × β => ea z.1 ++ eb z.2) (x, y) ++ R) = F ++ (ea x ++ (eb y ++ R)) := by
    show F ++ ((ea x ++ eb y) ++ R) = _
    rw [List.append_assoc]
  rw [e, rdTwo_is h1 h2]
  show _ = ((x, y), F.length + (ea x ++ eb y).length, 0)
  rw [List.length_append, Nat.add_assoc]
/-- So many, one behind the other. -/
theorem sevN_just {α : Type} {rd : RdT α} {en : α → List UInt8} {L : List α} (h : ∀ x ∈ L, Back rd en x) (F R : List UInt8) : sevN rd (F ++ (L.flatMap en ++ R)) F.length 0 L.length = (L, F.length + (L.flatMap en).length, 0) := by
  have h1 := sevN_back h F R L.length (Nat.le_refl _)
  rwa [List.take_of_length_le (Nat.le_refl _)] at h1
def rdKey (w : Nat) : RdT (List Int) := fun l p e => sevN (rdI 0 40) l p e w
/-- A measure's three numbers. -/
def rdMeas : RdT (Int × Int × Int) := rdTwo (rdI (-4611686018427387904) 4611686018427387904) (rdTwo (rdI (-2305843009213693952) 2305843009213693952) (rdI (-2305843009213693952) 2305843009213693952))
def encMeas (t : Int × Int × Int) : List UInt8 := encI t.1 ++ (encI t.2.1 ++ encI t.2.2)
def toC (z : Int × List (Int × Int × Int)) : PC := (z.1, z.2.map (·.1), z.2.map (·.2.1), z.2.map (·.2.2))
def ofC (m : Nat) (x : PC) : Int × List (Int × Int × Int) := (x.1, (List.range m).map fun k => (x.2.1.getD k 0, x.2.2.1.getD k 0, x.2.2.2.getD k 0))
theorem toC_ofC {m : Nat} {x : PC} (h : Full m x) : toC (ofC m x) = x := by
  obtain ⟨_, _, h1, h2, h3⟩ := h
  unfold toC ofC
  simp only [List.map_map]
  refine Prod.ext rfl (Prod.ext ?_ (Prod.ext ?_ ?_))
  · exact list_eq_getD (m := m) (by simp) h1 fun k hk => by simp [List.getD_eq_getElem?_getD, hk]
  · exact list_eq_getD (m := m) (by simp) h2 fun k hk => by simp [List.getD_eq_getElem?_getD, hk]
  · exact list_eq_getD (m := m) (by simp) h3 fun k hk => by simp [List.getD_eq_getElem?_getD, hk]
def rdRaw (w m : Nat) : RdT (List Int × Int × List (Int × Int × Int)) := rdTwo (rdKey w) (rdTwo (rdI 1 1099511627776) fun l p e => sevN rdMeas l p e m)
def encRaw (z : List Int × Int × List (Int × Int × Int)) : List UInt8 := z.1.flatMap encI ++ (encI z.2.1 ++ z.2.2.flatMap encMeas)
/-- A key and its cell. -/
def rdOne (w m : Nat) : RdT (List Int × PC) := fun l p e => (((rdRaw w m l p e).1.1, toC (rdRaw w m l p e).1.2), (rdRaw w m l p e).2)
def encOne (m : Nat) (d : List Int × PC) : List UInt8 := encRaw (d.1, ofC m d.2)
theorem isCell_bounds {m : Nat} {x : PC} (h : isCell m x) : 1 ≤ x.1 ∧ x.1 ≤ 1099511627776 ∧ ∀ k, k < m → inS (x.2.1.getD k 0) ∧ inV (x.2.2.1.getD k 0) ∧ inV (x.2.2.2.getD k 0) := by
  obtain ⟨⟨_, _, _, h4⟩, h5, h6⟩ := h
  rcases h4 with h4 | h4
  · exact absurd (by rw [h4]; rfl) h5
  · obtain ⟨a1, a2, a3⟩ := h4
    exact ⟨a1, a2, fun k hk => by
      obtain ⟨_, b1, b2, b3, _⟩ := a3 k (by rw [h6]; exact hk)
      exact ⟨b3, b1, b2⟩⟩
theorem rdOne_back {w m : Nat} {k : List Int} {x : PC} (hk : isKey w k) (hx : isCell m x) : Back (rdOne w m) (encOne m) (k, x) := fun F R => by
  obtain ⟨b1, b2, b3⟩ := isCell_bounds hx
  have hkey : Back (rdKey w) (fun k => k.flatMap encI) k := fun F R => by
    have := sevN_just (rd := rdI 0 40) (en := encI) (L := k) (fun c hc => rdI_back (by have := hk.2 c hc; omega) (by have := hk.2 c hc; omega) (hk.2 c hc).1 (hk.2 c hc).2) F R
    rw [hk.1] at this
    exact this
  have hmeas : ∀ t ∈ (ofC m x).2, Back rdMeas encMeas t := fun t ht => by
    obtain ⟨i, hi, rfl⟩ := List.mem_map.1 ht
    obtain ⟨c1, c2, c3⟩ := b3 i (List.mem_range.1 hi)
    unfold inS at c1
    unfold inV at c2 c3
    exact rdTwo_back (ea := encI) (eb := fun z : Int × Int => encI z.1 ++ encI z.2) (rdI_back (by omega) (by omega) c1.1 c1.2) (rdTwo_back (ea := encI) (eb := encI) (rdI_back (by omega) (by omega) c2.1 c2.2) (rdI_back (by omega) (by omega) c3.1 c3.2))
  have hml : (ofC m x).2.length = m := by simp [ofC]
  have hms : Back (fun l p e => sevN rdMeas l p e m) (fun L => L.flatMap encMeas) (ofC m x).2 := fun F R => by
    have := sevN_just hmeas F R
    rw [hml] at this
    exact this
  have hraw : Back (rdRaw w m) encRaw (k, ofC m x) := rdTwo_back (ea := fun k : List Int => k.flatMap encI) (eb := fun z : Int × List (Int × Int × Int) => encI z.1 ++ z.2.flatMap encMeas) hkey (rdTwo_back (ea := encI) (eb := fun L : List (Int × Int × Int) => L.flatMap encMeas) (x := x.1) (rdI_back (by omega) (by omega) b1 b2) hms)
  have h1 := hraw F R
  unfold rdOne
  show ((((rdRaw w m (F ++ (encRaw (k, ofC m x) ++ R)) F.length 0).1.1, toC (rdRaw w m (F ++ (encRaw (k, ofC m x) ++ R)) F.length 0).1.2), (rdRaw w m (F ++ (encRaw (k, ofC m x) ++ R)) F.length 0).2)) = _
  rw [h1]
  simp only [toC_ofC hx.full]
  rfl
/-- A cuboid's bytes. -/
def encC (m : Nat) (C : Cub) : List UInt8 := encI (C.length : Int) ++ C.flatMap (encOne m)
/-- So many more are read behind those that are there. -/
def rdMore (w m : Nat) (l : List UInt8) : Nat → Cub → Nat → Nat → Option Cub × Nat × Nat
  | 0, C, p, e => (if e = 0 then some C else none, p, e)
  | n + 1, C, p, e =>
    if (rdOne w m l p e).2.2 ≠ 0 then (none, (rdOne w m l p e).2.1, (rdOne w m l p e).2.2)
    else if cMay (rdOne w m l p e).1.2 ∧ (C = [] ∨ lessK (C.getLastD ([], zeroC)).1 (rdOne w m l p e).1.1 = true) then rdMore w m l n (C ++ [(rdOne w m l p e).1]) (rdOne w m l p e).2.1 (rdOne w m l p e).2.2
    else (none, (rdOne w m l p e).2.1, 2)
/-- The whole. -/
def rdC (w m : Nat) (l : List UInt8) (p e : Nat) : Option Cub × Nat × Nat := rdMore w m l (lk l p e 0 64000).1.toNat [] (p + (lk l p e 0 64000).2.1) (lk l p e 0 64000).2.2
theorem rdMore_back {w m : Nat} (R : List UInt8) : ∀ (E A : Cub) (F : List UInt8), Cuboid w m (A ++ E) → rdMore w m (F ++ (E.flatMap (encOne m) ++ R)) E.length A F.length 0 = (some (A ++ E), F.length + (E.flatMap (encOne m)).length, 0) := by
  intro E
  induction E with
  | nil =>
    intro A F _
    simp [rdMore]
  | cons d E ih =>
    intro A F h
    have hd : d ∈ A ++ d :: E := by simp
    have hB := rdOne_back (h.key d hd) (h.cell d hd) F (E.flatMap (encOne m) ++ R)
    have e : F ++ ((d :: E).flatMap (encOne m) ++ R) = F ++ (encOne m d ++ (E.flatMap (encOne m) ++ R)) := by
      rw [List.flatMap_cons, List.append_assoc]
    have hlast : A = [] ∨ lessK (A.getLastD ([], zeroC)).1 d.1 = true := by
      rcases List.eq_nil_or_concat A with hA | ⟨A', a, hA⟩
      · exact .inl hA
      · right
        subst hA
        have h1 : (A'.concat a).getLastD ([], zeroC) = a := by simp
        rw [h1]
        have h2 := List.pairwise_append.1 h.ris
        exact h2.2.2 a (by simp) d (by simp)
    have h' : Cuboid w m ((A ++ [d]) ++ E) := by rw [List.append_assoc]; exact h
    have hr := ih (A ++ [d]) (F ++ encOne m d) h'
    rw [List.append_assoc, List.length_append] at hr
    show rdMore w m _ (E.length + 1) A F.length 0 = _
    rw [rdMore, e, hB]
    simp only
    rw [if_neg (by simp), if_pos ⟨(h.cell d hd).1, hlast⟩, hr, List.flatMap_cons, List.length_append, List.append_assoc]
    simp only [Prod.mk.injEq, and_true]
    exact ⟨rfl, by omega⟩
/-- What is put is read again. -/
theorem rdC_put {w m : Nat} {C : Cub} (h : Cuboid w m C) (hn : C.length ≤ 64000) (R : List UInt8) : rdC w m (encC m C ++ R) 0 0 = (some C, (encC m C).length, 0) := by
  have h1 := lkP (F := []) (R := C.flatMap (encOne m) ++ R) (x := (C.length : Int)) (lo := 0) (hi := 64000) (by omega) (by omega) (by omega) (by omega)
  have e : encC m C ++ R = [] ++ (encI (C.length : Int) ++ (C.flatMap (encOne m) ++ R)) := by
    unfold encC
    rw [List.append_assoc, List.nil_append]
  have h2 := rdMore_back (w := w) (m := m) R C [] (encI (C.length : Int)) (by simpa using h)
  unfold rdC
  have e3 : lk (encC m C ++ R) 0 0 0 64000 = ((C.length : Int), (encI (C.length : Int)).length, 0) := by
    rw [e]
    exact h1
  rw [e3]
  simp only [Int.toNat_natCast, Nat.zero_add]
  rw [e, List.nil_append, h2]
  simp [encC]
end Go.Proofs.YteifhgcjmjihgaaGreat
namespace Go.Proofs.YteifhgcjmjihgaaGreat
set_option maxRecDepth 100000

theorem lk_zero {l : List UInt8} {p e : Nat} {lo hi : Int} (h : (lk l p e lo hi).2.2 = 0) : e = 0 ∧ lo ≤ (lk l p e lo hi).1 ∧ (lk l p e lo hi).1 ≤ hi := by
  by_cases he : e = 0
  · subst he
    refine ⟨rfl, ?_⟩
    by_cases h1 : gE (l.drop p) = 0
    · by_cases h2 : gN (l.drop p) < lo ∨ hi < gN (l.drop p)
      · rw [lk_far h1 h2] at h
        cases h
      · rw [lk_ok h1 h2]
        exact ⟨by show lo ≤ gN _; omega, by show gN _ ≤ hi; omega⟩
    · rw [lk_none h1] at h
      exact absurd h h1
  · rw [lk_err he] at h
    exact absurd h he
theorem lk_code (l : List UInt8) (p e : Nat) : 0 ≤ (lk l p e 0 40).1 ∧ (lk l p e 0 40).1 ≤ 40 := by
  refine ⟨lk_pos l p e 40, ?_⟩
  by_cases he : e = 0
  · subst he
    by_cases h1 : gE (l.drop p) = 0
    · by_cases h2 : gN (l.drop p) < 0 ∨ 40 < gN (l.drop p)
      · rw [lk_far h1 h2]; show (0 : Int) ≤ 40; decide
      · rw [lk_ok h1 h2]
        show gN _ ≤ 40
        omega
    · rw [lk_none h1]; show (0 : Int) ≤ 40; decide
  · rw [lk_err he]; show (0 : Int) ≤ 40; decide
theorem rdKey_is (W : Nat) (l : List UInt8) (p e : Nat) : isKey W (rdKey W l p e).1 := by
  refine ⟨sevN_len W, ?_⟩
  unfold rdKey
  induction W with
  | zero => intro c hc; simp [sevN] at hc
  | succ k ih =>
    intro c hc
    unfold sevN at hc
    rcases List.mem_append.1 hc with h | h
    · exact ih c h
    · rw [List.mem_singleton.1 h]
      exact lk_code _ _ _
/-- Reading goes on with an error, once there is one. -/
def Keeps {α : Type} (rd : RdT α) : Prop := ∀ l p e, (rd l p e).2.2 = 0 → e = 0
theorem rdI_keeps (lo hi : Int) : Keeps (rdI lo hi) := fun _ _ _ h => (lk_zero h).1
theorem rdTwo_keeps {α β : Type} {a : RdT α} {b : RdT β} (ha : Keeps a) (hb : Keeps b) : Keeps (rdTwo a b) := fun l p e h => ha l p e (hb l _ _ h)
theorem sevN_keeps {α : Type} {rd : RdT α} (h : Keeps rd) {l : List UInt8} : ∀ {k p e : Nat}, (sevN rd l p e k).2.2 = 0 → e = 0
  | 0, _, _, h1 => h1
  | _ + 1, _, _, h1 => sevN_keeps h (h l _ _ h1)
theorem rdOne_key (W m : Nat) (l : List UInt8) (p e : Nat) : isKey W (rdOne W m l p e).1.1 := rdKey_is W l p e
theorem rdOne_len (W m : Nat) (l : List UInt8) (p e : Nat) : (rdOne W m l p e).1.2.2.1.length = m := by
  show (List.map _ (sevN rdMeas l _ _ m).1).length = m
  rw [List.length_map, sevN_len]
theorem rdOne_zero {W m : Nat} {l : List UInt8} {p e : Nat} (h : (rdOne W m l p e).2.2 = 0) : (rdOne W m l p e).1.2.1 ≠ 0 := by
  have hm : Keeps rdMeas := rdTwo_keeps (rdI_keeps _ _) (rdTwo_keeps (rdI_keeps _ _) (rdI_keeps _ _))
  have h1 := lk_zero (sevN_keeps hm (show (sevN rdMeas l _ _ m).2.2 = 0 from h))
  have h2 : 1 ≤ (rdOne W m l p e).1.2.1 := h1.2.1
  omega
theorem rdOne_cell {W m : Nat} {l : List UInt8} {p e : Nat} (h : (rdOne W m l p e).2.2 = 0) : isCell m (rdOne W m l p e).1.2 ↔ cMay (rdOne W m l p e).1.2 :=
  ⟨fun h' => h'.1, fun h' => ⟨h', rdOne_zero h, rdOne_len W m l p e⟩⟩
/-- The key ahead. -/
def Ahead (C : Cub) (a : Int × Int × Int) : Prop := (C = [] ∧ a = (-1, 0, 0)) ∨ (C ≠ [] ∧ a = pad3 (C.getLastD ([], zeroC)).1)
theorem last_mem {C : Cub} (h : C ≠ []) : C.getLastD ([], zeroC) ∈ C := by
  rcases List.eq_nil_or_concat C with hC | ⟨A, a, hC⟩
  · exact absurd hC h
  · subst hC
    simp
theorem ahead_cmp {W m : Nat} {C : Cub} {a : Int × Int × Int} {k : List Int} (hW : 1 ≤ W) (h3 : W ≤ 3) (hC : Cuboid W m C) (ha : Ahead C a) (hk : isKey W k) : cmpK (tup3 (pad3 k)) (tup3 a) ≤ 0 ↔ ¬ (C = [] ∨ lessK (C.getLastD ([], zeroC)).1 k = true) := by
  rcases ha with ⟨h1, h2⟩ | ⟨h1, h2⟩
  · subst h1 h2
    have h4 : 0 ≤ k.getD 0 0 := by
      match k, hk with
      | [], hk => exact absurd hk.1 (by simp; omega)
      | x :: _, hk => exact (hk.2 x (by simp)).1
    have e : cmpK (tup3 (pad3 k)) (tup3 (-1, 0, 0)) = 1 := by
      show cmpK [k.getD 0 0, k.getD 1 0, k.getD 2 0] [-1, 0, 0] = 1
      rw [cmpK_cons, if_neg (by omega), if_pos (by omega)]
    rw [e]
    simp
  · subst h2
    have hl := hC.key _ (last_mem h1)
    obtain ⟨b, hb⟩ : ∃ b, (C.getLastD ([], zeroC)).1 = b := ⟨_, rfl⟩
    rw [hb] at hl ⊢
    have e1 := pad3_less (a := k) (b := b) (hk.1.trans hl.1.symm) (by rw [hk.1]; exact h3)
    have e2 : tup3 (pad3 k) = tup3 (pad3 b) ↔ k = b := by
      constructor
      · intro e
        have h5 := pad3_take (k := k) (by rw [hk.1]; exact h3)
        have h6 := pad3_take (k := b) (by rw [hl.1]; exact h3)
        rw [← h5, ← h6, e, hk.1, hl.1]
      · intro e; rw [e]
    constructor
    · rintro h (h7 | h7)
      · exact h1 h7
      · rcases Int.lt_or_eq_of_le h with h8 | h8
        · have := cmpK_less.1 h8
          rw [e1, lessK_asymm h7] at this
          cases this
        · have := e2.1 (cmpK_zero.1 h8)
          rw [this, lessK_irrefl] at h7
          cases h7
    · intro h
      rcases lessK_tri k b with h7 | h7 | h7
      · exact Int.le_of_lt (cmpK_less.2 (by rw [e1]; exact h7))
      · exact Int.le_of_eq (cmpK_zero.2 (e2.2 h7))
      · exact absurd (.inr h7) h
theorem setK_end {C : Cub} {k : List Int} {x : PC} (h : ∀ e ∈ C, lessK e.1 k = true) : setK C k x = C ++ [(k, x)] := by
  induction C with
  | nil => rfl
  | cons e C ih =>
    have h1 := h e (by simp)
    rw [setK, if_neg (lessK_ne h1), if_neg (by rw [lessK_asymm h1]; decide), ih (fun e he => h e (by simp [he]))]
    rfl
theorem ahead_all {C : Cub} {k : List Int} (hC : Ris C) (h : C = [] ∨ lessK (C.getLastD ([], zeroC)).1 k = true) : ∀ e ∈ C, lessK e.1 k = true := by
  rcases List.eq_nil_or_concat C with h1 | ⟨A, a, h1⟩
  · subst h1; intro e he; simp at he
  · subst h1
    have h2 : (A.concat a).getLastD ([], zeroC) = a := by simp
    rw [h2] at h
    have h : lessK a.1 k = true := by
      rcases h with h | h
      · simp at h
      · exact h
    intro e he
    rw [List.concat_eq_append] at he hC
    rcases List.mem_append.1 he with h3 | h3
    · exact lessK_trans ((List.pairwise_append.1 hC).2.2 e h3 a (by simp)) h
    · rw [List.mem_singleton.1 h3]; exact h
/-- One step: what is there, and the error. -/
def stepK (W m : Nat) (C : Cub) (a : Int × Int × Int) (k : List Int) (x : PC) (e : Nat) : Cub × Nat :=
  if cmpK (tup3 (pad3 k)) (tup3 a) ≤ 0 then (C, if e = 0 then 2 else e)
  else ((addK W m C k x).1, if (addK W m C k x).2 = 0 then e else if e = 0 then 2 else e)
theorem stepK_low {W m : Nat} {C : Cub} {a : Int × Int × Int} {k : List Int} {x : PC} {e : Nat} (h : cmpK (tup3 (pad3 k)) (tup3 a) ≤ 0) : stepK W m C a k x e = (C, if e = 0 then 2 else e) := if_pos h
theorem stepK_high {W m : Nat} {C : Cub} {a : Int × Int × Int} {k : List Int} {x : PC} {e : Nat} (h : ¬ cmpK (tup3 (pad3 k)) (tup3 a) ≤ 0) : stepK W m C a k x e = ((addK W m C k x).1, if (addK W m C k x).2 = 0 then e else if e = 0 then 2 else e) := if_neg h
theorem stepK_cuboid {W m : Nat} {C : Cub} (h : Cuboid W m C) (a : Int × Int × Int) (k : List Int) (x : PC) (e : Nat) : Cuboid W m (stepK W m C a k x e).1 := by
  unfold stepK
  split
  · exact h
  · exact addK_cuboid h k x
theorem stepK_err {W m : Nat} {C : Cub} {a : Int × Int × Int} {k : List Int} {x : PC} {e : Nat} (h : e ≠ 0) : (stepK W m C a k x e).2 = e := by
  by_cases h1 : cmpK (tup3 (pad3 k)) (tup3 a) ≤ 0
  · rw [stepK_low h1, if_neg h]
  · rw [stepK_high h1, if_neg h]
    by_cases h2 : (addK W m C k x).2 = 0
    · rw [if_pos h2]
    · rw [if_neg h2]
/-- What is still to come. -/
def rdNow (W m : Nat) (l : List UInt8) (n : Nat) (C : Cub) (p e : Nat) : Option Cub × Nat × Nat := if e = 0 then rdMore W m l n C p 0 else (none, p, e)
theorem rdNow_step {W m : Nat} {l : List UInt8} {n : Nat} {C : Cub} {a : Int × Int × Int} {p p1 e1 : Nat} {k : List Int} {x : PC} (hW : 1 ≤ W) (h3 : W ≤ 3) (hC : Cuboid W m C) (ha : Ahead C a) (h : rdOne W m l p 0 = ((k, x), p1, e1)) :
    rdNow W m l (n + 1) C p 0 = rdNow W m l n (stepK W m C a k x e1).1 p1 (stepK W m C a k x e1).2 ∧ ((stepK W m C a k x e1).2 = 0 → Ahead (stepK W m C a k x e1).1 (pad3 k)) := by
  have hk : isKey W k := by have := rdOne_key W m l p 0; rwa [h] at this
  have hc := ahead_cmp hW h3 hC ha hk
  have hL : rdNow W m l (n + 1) C p 0 = rdMore W m l (n + 1) C p 0 := if_pos rfl
  rw [hL, rdMore, h]
  simp only
  by_cases he : e1 = 0
  · subst he
    have hx : isCell m x ↔ cMay x := by have := rdOne_cell (W := W) (m := m) (l := l) (p := p) (e := 0) (by rw [h]); rwa [h] at this
    rw [if_neg (by simp)]
    by_cases h1 : C = [] ∨ lessK (C.getLastD ([], zeroC)).1 k = true
    · have h2 : ¬ cmpK (tup3 (pad3 k)) (tup3 a) ≤ 0 := fun h' => (hc.1 h') h1
      have hall := ahead_all hC.ris h1
      rw [stepK_high h2]
      by_cases h4 : cMay x
      · have hg : getK C k = none := getK_none.2 fun hm => by
          obtain ⟨e, he, ee⟩ := List.mem_map.1 hm
          have := hall e he
          rw [ee, lessK_irrefl] at this
          cases this
        rw [addK_new ⟨hk, hx.2 h4⟩ hg, if_pos ⟨h4, h1⟩]
        simp only [if_true]
        rw [setK_end hall]
        refine ⟨by unfold rdNow; rw [if_pos rfl], fun _ => .inr ⟨by simp, by simp⟩⟩
      · rw [addK_no (fun h' => h4 (hx.1 h'.2)), if_neg (fun h' => h4 h'.1)]
        refine ⟨rfl, fun h' => ?_⟩
        simp at h'
    · have h2 : cmpK (tup3 (pad3 k)) (tup3 a) ≤ 0 := hc.2 h1
      rw [stepK_low h2, if_neg (fun h' => h1 h'.2)]
      exact ⟨rfl, fun h' => by simp at h'⟩
  · rw [if_pos he, stepK_err he]
    refine ⟨?_, fun h' => absurd h' he⟩
    unfold rdNow
    rw [if_neg he]
theorem rdNow_end {W m : Nat} {l : List UInt8} {n : Nat} {C : Cub} {p e : Nat} (h : n = 0 ∨ e ≠ 0) : rdNow W m l n C p e = (if e = 0 then some C else none, p, e) := by
  unfold rdNow
  by_cases he : e = 0
  · subst he
    have h : n = 0 := by simpa using h
    subst h
    rfl
  · rw [if_neg he, if_neg he]
end Go.Proofs.YteifhgcjmjihgaaGreat
