/- Layer 2: the methods of the reference's reader. -/
import Derived.Test.YtccdjjpkcahgfaaWireRd
import Derived.Test.YtccdjjpkcahgfaaWireRef
namespace Go.Proofs.Ytccdjjpkcahgfaa
open Go.RowKit

theorem refGet_is {A : Option Addr} {n c : Nat} {l : List UInt8} {w : World} {B : Nat} (hr : HasB w B A n c l) {m : Int} {k e : Nat} (hm : gN l = m) (hk : gK l = k) (he : gE l = e) :
    Calls Try.prog 61 #[.slice A n c] w fun x w' => x = .returned (.tuple #[.int .i64 m, .int .i64 (k : Nat), .int .i64 (e : Nat)]) ∧ w = w' := by
  have := refGet_any A n c l w B hr
  rwa [hm, hk, he] at this
theorem refBad_any (w : World) (g : Nat) (A : Option Addr) (n c : Nat) (l : List UInt8) (p e : Nat) (h : Rd 40 w g A n c l p e) :
    Calls Try.prog 47 #[.pointer (some ⟨g, 0, none⟩)] w fun x w' => x = .returned (.tuple #[]) ∧ Rd 40 w' g A n c l p (if e = 0 then 2 else e) ∧ w.grownBy w' (some g) := by
  have hf := h.free 2
  by_cases he : e = 0
  · subst he
    have h2 : w.cell? ⟨g, 2, none⟩ = some (.int .i64 0) := h.c2
    have hR := Lib.hid (h.setE 2 (by omega))
    go_enter Try.func47, Try.ntmps47
    go_wp2
    go_end0
    exact ⟨rfl, hR.out, grown_set _ _ _ _⟩
  · have h2 := h.c2
    have ht2 : ((e : Int) == 0) = false := by simpa using he
    rw [if_neg he]
    go_enter Try.func47, Try.ntmps47
    go_wp2
    go_end0
    exact ⟨rfl, h, World.grownBy.refl _ _⟩
theorem refEnd_any (w : World) (g : Nat) (A : Option Addr) (n c : Nat) (l : List UInt8) (p e : Nat) (h : Rd 40 w g A n c l p e) :
    Calls Try.prog 19 #[.pointer (some ⟨g, 0, none⟩)] w fun x w' => x = .returned (.int .i64 (endE n p e : Nat)) ∧ ∃ k, w' = w.drewN k := by
  have h0 := h.c0
  have h1 := h.c1
  have hnm := h.has.lenMax
  have hcap := h.has.cap
  have hcm := h.has.capMax
  have hpn := h.at_le
  by_cases he : e = 0
  · subst he
    have h2 : w.cell? ⟨g, 2, none⟩ = some (.int .i64 0) := h.c2
    by_cases hp : p < n
    · have hd : decide ((p : Nat) < n) = true := decide_eq_true hp
      have H : Hid (endE n p 0 = 2) := Lib.hid (by simp [endE, hp])
      go_enter Try.func19, Try.ntmps19
      go_wp2_with fail
      go_quiet (fail)
      go_wp2
      go_ret
      exact ⟨by rw [H.out]; rfl, _, rfl⟩
    · have hd : decide ((p : Nat) < n) = false := decide_eq_false hp
      have H : Hid (endE n p 0 = 0) := Lib.hid (by simp [endE, hp])
      go_enter Try.func19, Try.ntmps19
      go_wp2_with fail
      go_quiet (fail)
      go_wp2
      go_ret
      exact ⟨by rw [H.out]; rfl, _, rfl⟩
  · have h2 := h.c2
    have ht2 : ((e : Int) != 0) = true := by simpa using he
    have H : Hid (endE n p e = e) := Lib.hid (by simp [endE, he])
    go_enter Try.func19, Try.ntmps19
    go_wp2
    go_ret
    exact ⟨by rw [H.out]; rfl, 0, rfl⟩
def IntPost (T : TypeId) (w : World) (g : Nat) (A : Option Addr) (n c : Nat) (l : List UInt8) (p : Nat) (r : Int × Nat × Nat) (x : Ending) (w' : World) : Prop :=
  x = .returned (.int .i64 r.1) ∧ Rd T w' g A n c l (p + r.2.1) r.2.2 ∧ w.grownBy w' (some g)
set_option maxHeartbeats 2000000 in
theorem refInt_any (w : World) (g : Nat) (A : Option Addr) (n c : Nat) (l : List UInt8) (p e : Nat) (h : Rd 40 w g A n c l p e) (lo hi : Int) :
    Calls Try.prog 44 #[.pointer (some ⟨g, 0, none⟩), .int .i64 lo, .int .i64 hi] w (IntPost 40 w g A n c l p (lk l p e lo hi)) := by
  by_cases he : e = 0
  · subst he
    have h0 := h.c0
    have h1 := h.c1
    have h2 : w.cell? ⟨g, 2, none⟩ = some (.int .i64 0) := h.c2
    have hf := h.free 2
    have hf1 := h.free 1
    have hpn := h.at_le
    have hcap := h.has.cap
    have hcm := h.has.capMax
    have hb0 : (0 : Int) ≤ (p : Int) := by omega
    have hb1 : (p : Int) ≤ (n : Int) := by omega
    have hb2 : (n : Int) ≤ (c : Int) := by omega
    have hb3 : (p : Int) ≤ (c : Int) := by omega
    have HE := Lib.hid (gE_le (l.drop p))
    have hkn : gK (l.drop p) ≤ n - p := by
      have h1 := (gK_le (l.drop p)).1
      rw [List.length_drop, h.has.len] at h1
      exact h1
    obtain ⟨m, hm⟩ : ∃ m, Hid (gN (l.drop p) = m) := ⟨_, Lib.hid rfl⟩
    obtain ⟨k, hk⟩ : ∃ k, Hid (gK (l.drop p) = k) := ⟨_, Lib.hid rfl⟩
    rw [hk.out] at hkn
    by_cases he0 : gE (l.drop p) = 0
    · have He0 := Lib.hid he0
      clear he0
      by_cases hr : m < lo ∨ hi < m
      · have Hl := Lib.hid (lk_far (lo := lo) (hi := hi) He0.out (by rw [hm.out]; exact hr))
        by_cases hcp : c = p
        case' pos => obtain rfl : n = p := by omega
        case' pos => subst hcp
        case' pos => have hd := Lib.hid (cut_all h.has)
        case' neg => have hd := Lib.hid (cut_is h.has hpn hcp)
        all_goals
          go_enter Try.func44, Try.ntmps44
          go_wp2_with fail
          go_quiet ((go_at_call 61; exact quietS (refGet_is (hd.out.drewN _) hm.out hk.out He0.out)))
          go_wp2_with fail
          all_goals
            first
              | (exfalso; omega)
              | (go_ret
                 exact ⟨by rw [Hl.out]; rfl, by rw [Hl.out]; exact (h.setE 2 (by omega)).drewN _, grown_drewN (grown_set _ _ _ _) _⟩)
      · have Hl := Lib.hid (lk_ok (lo := lo) (hi := hi) He0.out (by rw [hm.out]; exact hr))
        by_cases hcp : c = p
        case' pos => obtain rfl : n = p := by omega
        case' pos => subst hcp
        case' pos => have hd := Lib.hid (cut_all h.has)
        case' neg => have hd := Lib.hid (cut_is h.has hpn hcp)
        all_goals
          go_enter Try.func44, Try.ntmps44
          go_wp2_with fail
          go_quiet ((go_at_call 61; exact quietS (refGet_is (hd.out.drewN _) hm.out hk.out He0.out)))
          go_wp2_with fail
          all_goals
            first
              | (exfalso; omega)
              | (go_ret
                 exact ⟨by rw [Hl.out, hm.out]; rfl, by rw [Hl.out, hk.out]; exact (h.setP (_ + k) (by omega)).drewN _, grown_drewN (grown_set _ _ _ _) _⟩)
    · have Hl := Lib.hid (lk_none (lo := lo) (hi := hi) he0)
      obtain ⟨q, hq⟩ : ∃ q, Hid (gE (l.drop p) = q) := ⟨_, Lib.hid rfl⟩
      rw [hq.out] at he0 Hl HE
      have ht2 : ((q : Int) != 0) = true := by simpa using he0
      by_cases hcp : c = p
      case' pos => obtain rfl : n = p := by omega
      case' pos => subst hcp
      case' pos => have hd := Lib.hid (cut_all h.has)
      case' neg => have hd := Lib.hid (cut_is h.has hpn hcp)
      all_goals
        go_enter Try.func44, Try.ntmps44
        go_wp2_with fail
        go_quiet ((go_at_call 61; exact quietS (refGet_is (hd.out.drewN _) hm.out hk.out hq.out)))
        go_wp2_with fail
        go_ret
        exact ⟨by rw [Hl.out]; rfl, by rw [Hl.out]; exact (h.setE q HE.out).drewN _, grown_drewN (grown_set _ _ _ _) _⟩
  · have h2 := h.c2
    have ht2 : ((e : Int) != 0) = true := by simpa using he
    have Hl := Lib.hid (lk_err (l := l) (p := p) (lo := lo) (hi := hi) he)
    go_enter Try.func44, Try.ntmps44
    go_wp2_with fail
    go_ret
    exact ⟨by rw [Hl.out]; rfl, by rw [Hl.out]; exact h, World.grownBy.refl _ _⟩
set_option maxHeartbeats 4000000 in
theorem refText_any (w : World) (g : Nat) (A : Option Addr) (n c : Nat) (l : List UInt8) (p e : Nat) (h : Rd 40 w g A n c l p e) (hi : Int) :
    Calls Try.prog 45 #[.pointer (some ⟨g, 0, none⟩), .int .i64 hi] w (TextPost 40 w g A n c l (tx l p e hi)) := by
  by_cases he : e = 0
  · subst he
    have h0 := h.c0
    have h1 := h.c1
    have h2 : w.cell? ⟨g, 2, none⟩ = some (.int .i64 0) := h.c2
    have hf := h.free 2
    have hf1 := h.free 1
    have hpn := h.at_le
    have hcap := h.has.cap
    have hcm := h.has.capMax
    have Hll := Lib.hid h.has.len
    have hb0 : (0 : Int) ≤ (p : Int) := by omega
    have hb1 : (p : Int) ≤ (n : Int) := by omega
    have hb2 : (n : Int) ≤ (c : Int) := by omega
    have hb3 : (p : Int) ≤ (c : Int) := by omega
    have HE := Lib.hid (gE_le (l.drop p))
    have hkn : gK (l.drop p) ≤ n - p := by
      have h1 := (gK_le (l.drop p)).1
      rw [List.length_drop, h.has.len] at h1
      exact h1
    have hmx := (gN_bd (l.drop p)).2
    obtain ⟨m, hm⟩ : ∃ m, Hid (gN (l.drop p) = m) := ⟨_, Lib.hid rfl⟩
    obtain ⟨k, hk⟩ : ∃ k, Hid (gK (l.drop p) = k) := ⟨_, Lib.hid rfl⟩
    rw [hk.out] at hkn
    rw [hm.out] at hmx
    by_cases he0 : gE (l.drop p) = 0
    · have He0 := Lib.hid he0
      clear he0
      by_cases hr : m < 0 ∨ hi < m
      · have Hl := Lib.hid (tx_err (lk_far (lo := 0) (hi := hi) He0.out (by rw [hm.out]; exact hr)) (by omega))
        by_cases hcp : c = p
        case' pos => obtain rfl : n = p := by omega
        case' pos => subst hcp
        case' pos => have hd := Lib.hid (cut_all h.has)
        case' neg => have hd := Lib.hid (cut_is h.has hpn hcp)
        all_goals
          go_enter Try.func45, Try.ntmps45
          go_wp2_with fail
          go_quiet ((go_at_call 61; exact quietS (refGet_is (hd.out.drewN _) hm.out hk.out He0.out)))
          go_wp2_with fail
          all_goals
            first
              | (exfalso; omega)
              | (go_ret
                 exact ⟨by rw [Hl.out]; rfl, by rw [Hl.out]; exact (h.setE 2 (by omega)).drewN _, grown_drewN (grown_set _ _ _ _) _⟩)
      · have Hlk := Lib.hid (lk_ok (lo := 0) (hi := hi) He0.out (by rw [hm.out]; exact hr))
        have hm0 : 0 ≤ m := by omega
        have hmh : m ≤ hi := by omega
        have hlk : lk l p 0 0 hi = (m, k, 0) := by rw [Hlk.out, hm.out, hk.out]
        have Hw1 : Hid (IntKind.i64.wrap ((n : Int) - (p : Int)) = (n : Int) - (p : Int)) := Lib.hid (IntWalk.i64_in _ (by omega))
        have Hw2 : Hid (IntKind.i64.wrap ((n : Int) - (p : Int) - (k : Int)) = (n : Int) - (p : Int) - (k : Int)) := Lib.hid (IntWalk.i64_in _ (by omega))
        have hk1 : 1 ≤ k := by have := (g_tells He0.out).2.2.1; rwa [hk.out] at this
        have hcp : ¬ c = p := by omega
        have hd := Lib.hid (cut_is h.has hpn hcp)
        obtain ⟨mn, rfl⟩ := Int.eq_ofNat_of_zero_le hm0
        by_cases hfit : mn ≤ n - p - k
        · have Ht := Lib.hid (tx_ok hlk (by rw [Hll.out]; exact hfit))
          clear hlk
          have hfm : (mn : Int) ≤ (n : Int) - (p : Int) - (k : Int) := by omega
          have hfd : decide ((n : Int) - (p : Int) - (k : Int) < (mn : Int)) = false := by simp; omega
          have Hw3 : Hid (IntKind.i64.wrap ((p : Int) + (k : Int)) = (p : Int) + (k : Int)) := Lib.hid (IntWalk.i64_in _ (by omega))
          have Hw4 : Hid (IntKind.i64.wrap ((p : Int) + (k : Int) + (mn : Int)) = (p : Int) + (k : Int) + (mn : Int)) := Lib.hid (IntWalk.i64_in _ (by omega))
          have hc0 : (0 : Int) ≤ (p : Int) + (k : Int) := by omega
          have hc1 : (p : Int) + (k : Int) ≤ (p : Int) + (k : Int) + (mn : Int) := by omega
          have hc2 : (p : Int) + (k : Int) + (mn : Int) ≤ (c : Int) := by omega
          have hc3 : (p : Int) + (k : Int) ≤ (c : Int) := by omega
          have hc4 : (p : Int) + (k : Int) + (mn : Int) ≤ (n : Int) := by omega
          by_cases hcq : c = p + k
          · obtain rfl : n = p + k := by omega
            subst hcq
            obtain rfl : mn = 0 := by omega
            have hst : ∀ (q : Nat), (convert 35 9 (.slice A 0 0)).run Try.prog (w.drewN q) = .ok (.string ⟨#[]⟩) (w.drewN q) := fun q =>
              run_convert_bytes_zero _ 35 5 Try.underlying35 Try.underlying5 A 0 9 Try.underlying9
            have hd' : Hid (HasB w g (Option.map (fun x => x.add p) A) k k (l.drop p)) := Lib.hid (by have := hd.out; rwa [Nat.add_sub_cancel_left] at this)
            clear hd
            go_enter Try.func45, Try.ntmps45
            go_wp2_with fail
            go_quiet ((go_at_call 61; exact quietS (refGet_is (hd'.out.drewN _) hm.out hk.out He0.out)))
            go_wp2_with fail
            have hw1 := Hw1.out
            have hw2 := Hw2.out
            go_quiet (fail)
            clear hw1 hw2
            go_wp2_with fail
            have hw3 := Hw3.out
            have hw4 := Hw4.out
            go_quiet (fail)
            clear hw3 hw4
            go_wp2_with fail
            go_ret
            exact ⟨by rw [Ht.out]; rfl, by
              rw [Ht.out]
              exact (h.drewN _).setP (p + k) (Nat.le_refl _), grownBy_trans (grown_drewN (World.grownBy.refl _ _) _) (grown_set _ _ _ _) (fun k hk => .inl hk)⟩
          · obtain ⟨ad, rfl⟩ : ∃ ad, A = some ad := by
              rcases A with _ | ad
              · have := h.has.void rfl; have := h.has.cap; omega
              · exact ⟨ad, rfl⟩
            have hst : ∀ (q : Nat), (convert 35 9 (.slice (some (ad.add (p + k))) mn (c - (p + k)))).run Try.prog (w.drewN q) = .ok (.string ⟨((l.drop (p + k)).take mn).toArray⟩) (w.drewN q) := fun q =>
              (((cut_is h.has (by omega) hcq).take_ mn (by omega)).drewN q).string 35 5 9 Try.underlying35 Try.underlying5 Try.underlying9
            go_enter Try.func45, Try.ntmps45
            go_wp2_with fail
            go_quiet ((go_at_call 61; exact quietS (refGet_is (hd.out.drewN _) hm.out hk.out He0.out)))
            go_wp2_with fail
            have hw1 := Hw1.out
            have hw2 := Hw2.out
            go_quiet (fail)
            clear hw1 hw2
            go_wp2_with fail
            have hw3 := Hw3.out
            have hw4 := Hw4.out
            go_quiet (fail)
            clear hw3 hw4
            go_wp2_with fail
            go_ret
            exact ⟨by rw [Ht.out]; rfl, by
              rw [Ht.out]
              exact (h.drewN _).setP (p + k + mn) (by omega), grownBy_trans (grown_drewN (World.grownBy.refl _ _) _) (grown_set _ _ _ _) (fun k hk => .inl hk)⟩
        · have Ht := Lib.hid (tx_short hlk (by rw [Hll.out]; exact hfit))
          clear hlk
          have hfm : (n : Int) - (p : Int) - (k : Int) < (mn : Int) := by omega
          go_enter Try.func45, Try.ntmps45
          go_wp2_with fail
          go_quiet ((go_at_call 61; exact quietS (refGet_is (hd.out.drewN _) hm.out hk.out He0.out)))
          go_wp2_with fail
          have hw1 := Hw1.out
          have hw2 := Hw2.out
          go_quiet (fail)
          clear hw1 hw2
          go_wp2_with fail
          go_ret
          exact ⟨by rw [Ht.out]; rfl, by rw [Ht.out]; exact (h.drewN _).setE 3 (by omega), grownBy_trans (grown_drewN (World.grownBy.refl _ _) _) (grown_set _ _ _ _) (fun k hk => .inl hk)⟩
    · obtain ⟨q, hq⟩ : ∃ q, Hid (gE (l.drop p) = q) := ⟨_, Lib.hid rfl⟩
      have Hl := Lib.hid (tx_err (lk_none (lo := 0) (hi := hi) he0) he0)
      rw [hq.out] at he0 Hl HE
      have ht2 : ((q : Int) != 0) = true := by simpa using he0
      by_cases hcp : c = p
      case' pos => obtain rfl : n = p := by omega
      case' pos => subst hcp
      case' pos => have hd := Lib.hid (cut_all h.has)
      case' neg => have hd := Lib.hid (cut_is h.has hpn hcp)
      all_goals
        go_enter Try.func45, Try.ntmps45
        go_wp2_with fail
        go_quiet ((go_at_call 61; exact quietS (refGet_is (hd.out.drewN _) hm.out hk.out hq.out)))
        go_wp2_with fail
        go_ret
        exact ⟨by rw [Hl.out]; rfl, by rw [Hl.out]; exact (h.setE q HE.out).drewN _, grown_drewN (grown_set _ _ _ _) _⟩
  · have h2 := h.c2
    have ht2 : ((e : Int) != 0) = true := by simpa using he
    have Hl := Lib.hid (tx_err (lk_err (l := l) (p := p) (lo := 0) (hi := hi) he) he)
    go_enter Try.func45, Try.ntmps45
    go_wp2_with fail
    go_ret
    exact ⟨by rw [Hl.out]; rfl, by rw [Hl.out]; exact h, World.grownBy.refl _ _⟩
end Go.Proofs.Ytccdjjpkcahgfaa
