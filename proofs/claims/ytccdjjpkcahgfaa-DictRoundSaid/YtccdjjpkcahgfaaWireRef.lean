/- Layer 2: the reference's GetInt. -/
import Derived.Test.YtccdjjpkcahgfaaWire
import Derived.Outline
namespace Go.Proofs.Ytccdjjpkcahgfaa
open Go.RowKit

/-- What holds ahead of group i, behind groups that are u. -/
def RefAt (l : List UInt8) (i u : Nat) : Prop := u < 2 ^ (7 * i) ∧ got (l.drop i) i u = got l 0 0 ∧ (0 < i → u % 2 = (l.getD 0 0).toNat % 2)
/-- The reference's number, behind k bits of group i. -/
def inR (u q i k : Nat) : Nat := (u + q % 2 ^ k * 2 ^ (7 * i)) / 2
theorem in_none (u q i : Nat) : inR u q i 0 = u / 2 := by simp [inR, Nat.mod_one]
theorem bit_add (q k : Nat) : q % 2 ^ (k + 1) = q % 2 ^ k + q / 2 ^ k % 2 * 2 ^ k := by
  rw [Nat.pow_succ, Nat.mod_mul, Nat.mul_comm (2 ^ k)]
theorem in_next (u q i k : Nat) : inR u q i (k + 1) = (u + q % 2 ^ k * 2 ^ (7 * i) + q / 2 ^ k % 2 * 2 ^ (7 * i + k)) / 2 := by
  unfold inR
  rw [bit_add, Nat.add_mul, Nat.mul_assoc, ← Nat.pow_add, Nat.add_comm k, Nat.add_assoc]
theorem bit_of {q k : Nat} {t : Bool} (h : (((q : Int) / 2 ^ k).tmod 2 == 1) = t) : q / 2 ^ k % 2 = if t then 1 else 0 := by
  rw [show ((q : Int) / 2 ^ k) = ((q / 2 ^ k : Nat) : Int) from by push_cast; rfl, show ((q / 2 ^ k : Nat) : Int).tmod 2 = ((q / 2 ^ k % 2 : Nat) : Int) from rfl] at h
  have hm : q / 2 ^ k % 2 < 2 := Nat.mod_lt _ (by decide)
  generalize q / 2 ^ k % 2 = x at *
  cases t
  · rw [if_neg (by simp)]
    have : (x : Int) ≠ 1 := fun e => by rw [e] at h; simp at h
    omega
  · rw [if_pos rfl]
    have := eq_of_beq h
    omega
theorem in_on {u q i k : Nat} (hu : u < 2 ^ (7 * i)) (_hi : i ≤ 9) (h9 : i = 9 → q ≤ 1) (hk : k < 7) (h0 : 1 ≤ 7 * (i : Int) + k) (_ : 7 * (i : Int) + k - 1 < 63) (h : (((q : Int) / 2 ^ k).tmod 2 == 1) = true) :
    wrap64 (((inR u q i k : Nat) : Int) + wrap64 (2 ^ (7 * i + k - 1))) = ((inR u q i (k + 1) : Nat) : Int) := by
  have hb := bit_of h
  rw [if_pos rfl] at hb
  have hn := in_next u q i k
  have e : 2 ^ (7 * i + k) = 2 * 2 ^ (7 * i + k - 1) := by rw [← Nat.pow_succ']; congr 1; omega
  rw [hb, Nat.one_mul, e, Nat.add_mul_div_left _ _ (by decide)] at hn
  have hk' : inR u q i k = (u + q % 2 ^ k * 2 ^ (7 * i)) / 2 := rfl
  rw [← hk'] at hn
  have hk0 : i = 9 → k = 0 := fun e9 => by
    have h1 := h9 e9
    rcases Nat.eq_zero_or_pos k with h2 | h2
    · exact h2
    · have : q < 2 ^ k := Nat.lt_of_le_of_lt h1 (Nat.one_lt_two_pow (by omega))
      rw [Nat.div_eq_of_lt this] at hb
      simp at hb
  have hp : (2 : Nat) ^ (7 * i + k - 1) ≤ 2 ^ 62 := Nat.pow_le_pow_right (by omega) (by omega)
  have hlow : inR u q i k < 2 ^ 62 := by
    unfold inR
    have h1 : q % 2 ^ k < 2 ^ k := Nat.mod_lt _ (Nat.two_pow_pos k)
    have h2 : (q % 2 ^ k + 1) * 2 ^ (7 * i) ≤ 2 ^ k * 2 ^ (7 * i) := Nat.mul_le_mul_right _ h1
    rw [← Nat.pow_add, Nat.add_mul, Nat.one_mul] at h2
    have h3 : (2 : Nat) ^ (k + 7 * i) ≤ 2 ^ 63 := Nat.pow_le_pow_right (by omega) (by omega)
    omega
  rw [hn, show ((2 : Int) ^ (7 * i + k - 1)) = ((2 ^ (7 * i + k - 1) : Nat) : Int) from by push_cast; rfl]
  generalize 2 ^ (7 * i + k - 1) = x at *
  generalize inR u q i k = y at *
  clear hb hn e h hk'
  unfold wrap64
  omega
theorem in_off {u q i k : Nat} (h : (((q : Int) / 2 ^ k).tmod 2 == 1) = false) : inR u q i (k + 1) = inR u q i k := by
  have hb := bit_of h
  rw [in_next, hb]
  simp [inR]
theorem in_far {u q i k : Nat} (h9 : i = 9 → q ≤ 1) (hi : i ≤ 9) (hk : k < 7) (h : ¬ 7 * (i : Int) + k - 1 < 63) : inR u q i (k + 1) = inR u q i k := by
  have h1 := h9 (by omega)
  have : q < 2 ^ k := Nat.lt_of_le_of_lt h1 (Nat.one_lt_two_pow (by omega))
  rw [in_next, Nat.div_eq_of_lt this]
  simp [inR]
theorem in_first {u q i k : Nat} (hu : u < 2 ^ (7 * i)) (h : ¬ 1 ≤ 7 * (i : Int) + k) : inR u q i (k + 1) = inR u q i k := by
  obtain rfl : i = 0 := by omega
  obtain rfl : k = 0 := by omega
  simp at hu
  subst hu
  simp [inR]
  omega

theorem ref_step {l : List UInt8} {i u q : Nat} (h : RefAt l i u) (eq : q = (l.getD i 0).toNat) (hl : i < l.length) :
    got l 0 0 = if badAt q i then (0, 0, 2) else if 128 ≤ q then got (l.drop (i + 1)) (i + 1) (u + q % 128 * 2 ^ (7 * i)) else (u + q * 2 ^ (7 * i), i + 1, 0) := by
  rw [← h.2.1, got_at hl u, eq]
theorem par_is {l : List UInt8} {i u q m : Nat} (h : RefAt l i u) (eq : q = (l.getD i 0).toNat) (hm : m % 2 = q % 2) : (u + m * 2 ^ (7 * i)) % 2 = (l.getD 0 0).toNat % 2 := by
  rcases Nat.eq_zero_or_pos i with h0 | h0
  · subst h0
    have := h.1
    simp at this
    rw [this, ← eq]
    simpa using hm
  · rw [show 7 * i = (7 * i - 1) + 1 from by omega, Nat.pow_succ, ← Nat.mul_assoc, Nat.add_mul_mod_self_right]
    exact h.2.2 h0
theorem ref_next {l : List UInt8} {i u q : Nat} (h : RefAt l i u) (h9 : i = 9 → q ≤ 1) (hi : i ≤ 9) (hq : 128 ≤ q) (eq : q = (l.getD i 0).toNat) (hl : i < l.length) :
    i + 1 ≤ 9 ∧ RefAt l (i + 1) (u + q % 128 * 2 ^ (7 * i)) := by
  have hq2 : q < 256 := by rw [eq]; exact UInt8.toNat_lt _
  have hb : badAt q i = false := by
    simp only [badAt, Bool.or_eq_false_iff, Bool.and_eq_false_iff, beq_eq_false_iff_ne, decide_eq_false_iff_not]
    exact ⟨.inl (fun e => by have := h9 e; omega), .inr (by omega)⟩
  obtain ⟨h1, v, _, hv, rfl⟩ := or_big h.1 hi hb hq
  have hs := ref_step h eq hl
  rw [if_neg (by rw [hb]; simp), if_pos hq] at hs
  exact ⟨h1, hv, hs.symm, fun _ => par_is h eq (by omega)⟩
theorem tell_of {l : List UInt8} {u k e : Nat} (h : got l 0 0 = (u, k, e)) {a b c : Int} (ha : a = zag u) (hb : b = k) (hc : c = e) : a = gN l ∧ b = ((gK l : Nat) : Int) ∧ c = ((gE l : Nat) : Int) := by
  obtain ⟨h1, h2, h3⟩ := tup_of h
  rw [h1, h2, h3]
  exact ⟨ha, hb, hc⟩
theorem ref_short {l : List UInt8} {i u : Nat} (h : RefAt l i u) (hl : l.length ≤ i) : (0 : Int) = gN l ∧ (0 : Int) = ((gK l : Nat) : Int) ∧ (3 : Int) = ((gE l : Nat) : Int) :=
  tell_of (h.2.1.symm.trans (got_end hl)) rfl rfl rfl
theorem ref_nine {l : List UInt8} {u q : Nat} (h : RefAt l 9 u) (eq : q = (l.getD 9 0).toNat) (hl : 9 < l.length) (h1 : 1 < q) : (0 : Int) = gN l ∧ (0 : Int) = ((gK l : Nat) : Int) ∧ (2 : Int) = ((gE l : Nat) : Int) := by
  have hs := ref_step h eq hl
  rw [if_pos (by rw [bad_9, decide_eq_true h1]; rfl)] at hs
  exact tell_of hs rfl rfl rfl
theorem ref_zero {l : List UInt8} {i u q : Nat} (h : RefAt l i u) (eq : q = (l.getD i 0).toNat) (hl : i < l.length) (hz : q = 0) (hi : 0 < i) : (0 : Int) = gN l ∧ (0 : Int) = ((gK l : Nat) : Int) ∧ (2 : Int) = ((gE l : Nat) : Int) := by
  have hs := ref_step h eq hl
  rw [if_pos (by simp [badAt, hz, hi])] at hs
  exact tell_of hs rfl rfl rfl
theorem ref_last {l : List UInt8} {i u q : Nat} (h : RefAt l i u) (h9 : i = 9 → q ≤ 1) (hi : i ≤ 9) (hq : ¬ 128 ≤ q) (eq : q = (l.getD i 0).toNat) (hl : i < l.length) (hz : ¬ (q = 0 ∧ 0 < i)) :
    (∀ t : Bool, ((((l.getD 0 0).toNat : Int) % 2 == 1) = t) → (if t then wrap64 (wrap64 (-((inR u q i 7 : Nat) : Int)) - 1) else ((inR u q i 7 : Nat) : Int)) = gN l) ∧ (i : Int) + 1 = ((gK l : Nat) : Int) ∧ (0 : Int) = ((gE l : Nat) : Int) := by
  have hb : badAt q i = false := by
    simp only [badAt, Bool.or_eq_false_iff, Bool.and_eq_false_iff, beq_eq_false_iff_ne, decide_eq_false_iff_not]
    exact ⟨by by_cases e : i = 9; (· exact .inr (by have := h9 e; omega)); (· exact .inl e), by by_cases e : 0 < i; (· exact .inr (fun e0 => hz ⟨e0, e⟩)); (· exact .inl e)⟩
  have hs := ref_step h eq hl
  rw [if_neg (by rw [hb]; simp), if_neg hq] at hs
  obtain ⟨v, _, hv, rfl⟩ := or_last h.1 hi hb hq
  have hp := par_is h eq (m := q) rfl
  have hin : inR u q i 7 = (u + q * 2 ^ (7 * i)) / 2 := by unfold inR; rw [Nat.mod_eq_of_lt (by omega)]
  obtain ⟨h1, h2, h3⟩ := tup_of hs
  rw [h1, h2, h3, hin]
  generalize u + q * 2 ^ (7 * i) = v at hv hp
  refine ⟨fun t ht => ?_, by omega, rfl⟩
  unfold zag
  cases t
  · have : ((l.getD 0 0).toNat : Int) % 2 ≠ 1 := fun e => by rw [e] at ht; simp at ht
    rw [if_neg (by simp), if_pos (by omega)]
  · have := eq_of_beq ht
    rw [if_pos rfl, if_neg (by omega)]
    unfold wrap64
    omega
theorem HasB.cellAt {w : World} {B b o n c : Nat} {l : List UInt8} (h : HasB w B (some ⟨b, o, none⟩) n c l) {k : Nat} (hk : k < n) : w.cell? ⟨b, o + k, none⟩ = some (.int .u8 ((l.getD k 0).toNat : Int)) := by
  obtain ⟨b', o', q, e, _, hc, _, eq⟩ := h.at_ hk
  injection e with e
  injection e with e1 e2
  subst e1 e2
  rw [hc, eq.out]
set_option maxRecDepth 100000 in
set_option maxHeartbeats 2000000 in
theorem refGet_any (A : Option Addr) (n c : Nat) (l : List UInt8) (w : World) (B : Nat) (hr : HasB w B A n c l) :
    Calls Try.prog 61 #[.slice A n c] w fun e w' => e = .returned (.tuple #[.int .i64 (gN l), .int .i64 (gK l : Nat), .int .i64 (gE l : Nat)]) ∧ w = w' := by
  have hn := hr.lenMax
  have hll := Lib.hid hr.len
  go_enter Try.func61, Try.ntmps61
  go_wp2
  go_loop [5, 6] (fun r x => ∃ i u : Nat, x = .int .i64 i ∧ r = .int .i64 ((u / 2 : Nat) : Int) ∧ i ≤ n ∧ i ≤ 9 ∧ Hid (RefAt l i u)) (fun _ x => n - (intOf x).toNat)
  case atStart => exact ⟨0, 0, rfl, rfl, by omega, by omega, Lib.hid ⟨by simp, rfl, fun h => absurd h (by omega)⟩⟩
  case round =>
    obtain ⟨i, u, rfl, rfl, hin, hi9, hx⟩ := hrel
    have Hu := Lib.hid hx.out.1
    by_cases hlt : i < n
    · obtain ⟨b, o, q, rfl, hb, hc, hq, eq⟩ := hr.at_ hlt
      by_cases h9 : i = 9 ∧ 1 < q
      · obtain ⟨rfl, h1⟩ := h9
        have HF := Lib.hid (ref_nine hx.out eq.out (by rw [hll.out]; exact hlt) h1)
        go_wp2
        go_ret3
        exact ⟨three_of HF.out, rfl⟩
      · generalize hm : u / 2 = m at *
        have Hm := Lib.hid hm
        clear hm
        have hq1 : Hid (i = 9 → q ≤ 1) := Lib.hid fun e => by omega
        obtain ⟨t, ht⟩ : ∃ t, ((i : Int) == 9) = t := ⟨_, rfl⟩
        have htd : t = true → decide (1 < (q : Int)) = false := fun e => by
          have : i = 9 := by rw [e] at ht; simp at ht; omega
          have := hq1.out this
          simp; omega
        clear h9
        cases t
        case' false => clear htd
        case' true => have hq2 : decide (1 < (q : Int)) = false := htd rfl; clear htd
        all_goals
          go_wp2
          go_loop [5, 8] (fun r x => ∃ k : Nat, x = .int .i64 k ∧ r = .int .i64 (inR u q i k : Nat) ∧ k ≤ 7) (fun _ x => 7 - (intOf x).toNat)
          case atStart => exact ⟨0, rfl, by rw [in_none]; exact congrArg (fun z : Nat => Value.int .i64 z) Hm.out.symm, by omega⟩
          case round =>
            obtain ⟨k, rfl, rfl, hk⟩ := hrel
            by_cases hk7 : k < 7
            · go_wp2
              all_goals
                go_round
                case rel => exact ⟨k + 1, by go_num, congrArg (Value.int .i64) (by first | exact in_on Hu.out hi9 hq1.out hk7 (by assumption) (by assumption) (by assumption) | (congr 1; first | exact (in_off (by assumption)).symm | exact (in_far hq1.out hi9 hk7 (by assumption)).symm | exact (in_first Hu.out (by assumption)).symm)), by omega⟩
                case measure => simp [intOf]; omega
            · obtain rfl : k = 7 := by omega
              generalize hy : inR u q i 7 = y
              have Hy := Lib.hid hy
              clear hy
              by_cases hq8 : 128 ≤ q
              · have HR := Lib.hid (ref_next hx.out hq1.out hi9 hq8 eq.out (by rw [hll.out]; exact hlt))
                go_wp2
                go_round
                case rel => exact ⟨i + 1, u + q % 128 * 2 ^ (7 * i), by go_num, congrArg (fun z : Nat => Value.int .i64 z) (by rw [← Hy.out]; rfl), by omega, HR.out.1, Lib.hid HR.out.2⟩
                case measure => simp [intOf]; omega
              · by_cases hz : q = 0 ∧ 0 < i
                · obtain ⟨hz1, hz2⟩ := hz
                  have HF := Lib.hid (ref_zero hx.out eq.out (by rw [hll.out]; exact hlt) hz1 hz2)
                  go_wp2
                  go_ret3
                  exact ⟨three_of HF.out, rfl⟩
                · have hc0 := hr.cellAt (k := 0) (by omega)
                  rw [Nat.add_zero] at hc0
                  generalize hq0 : (l.getD 0 0).toNat = q0 at hc0
                  have Hq0 := Lib.hid hq0
                  have hq0l : q0 < 256 := by rw [← hq0]; exact UInt8.toNat_lt _
                  clear hq0
                  have HF := Lib.hid (ref_last hx.out hq1.out hi9 hq8 eq.out (by rw [hll.out]; exact hlt) hz)
                  have Hz := Lib.hid hz
                  clear hz
                  go_wp2
                  all_goals
                    first
                      | (exfalso; exact Hz.out ⟨by assumption, by assumption⟩)
                      | (go_ret3
                         exact ⟨three_of ⟨by
                           first
                             | (have h := HF.out.1 true (by rw [Hq0.out]; assumption)
                                rw [Hy.out, if_pos rfl] at h
                                exact h)
                             | (have h := HF.out.1 false (by rw [Hq0.out]; assumption)
                                rw [Hy.out, if_neg (by simp)] at h
                                exact h), HF.out.2.1, HF.out.2.2⟩, rfl⟩)
    · have HF := Lib.hid (ref_short hx.out (by rw [hll.out]; omega))
      go_wp2
      go_ret3
      exact ⟨three_of HF.out, rfl⟩
end Go.Proofs.Ytccdjjpkcahgfaa
