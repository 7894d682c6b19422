/- Layer 1: the functions of crc, of its reference and of its laws that make memory. -/
import Derived.Test.YtkgednapdnjhbaaCrc
import Derived.BigQuiet
import Derived.Deep.QuietTactic
import Derived.Deep.RegionHeld3
namespace Go.Proofs.Ytkgednapdnjhbaa
open Go.RowKit

theorem le4_cells (s : Nat) (hs : s < 4294967296) : #[Value.int .u8 ((s : Int) % 256), Value.int .u8 ((s : Int) / 256 % 256), Value.int .u8 ((s : Int) / 65536 % 256), Value.int .u8 ((s : Int) / 16777216)] = ((le4 s).map byt).toArray := by
  have h (k : Nat) : byt (UInt8.ofNat k) = .int .u8 ((k : Int) % 256) := by
    unfold byt; rw [UInt8.toNat_ofNat']; congr 1
  have h4 : (s : Int) / 16777216 = ((s / 16777216 : Nat) : Int) % 256 := by omega
  simp only [le4, List.map_cons, List.map_nil, h]
  rw [h4]
  rfl

/-- few: the first bytes, at most so many. -/
theorem few_any (A : Option Addr) (n c : Nat) (l : List UInt8) (w : World) (B : Nat) (hr : HasB w B A n c l) (m : Int) (h0 : 0 ≤ m) :
    Calls Try.prog 9 #[.slice A n c, .int .i64 m] w fun e w' => (∃ n' : Nat, e = .returned (.slice A n' c) ∧ HasB w B A n' c (l.take m.toNat) ∧ n' ≤ n ∧ n' ≤ m.toNat) ∧ w = w' := by
  have hn := hr.lenMax
  have hcm := hr.capMax
  have hcap := hr.cap
  by_cases h : m < n
  · have H := Lib.hid (hr.take_ m.toNat (by omega))
    go_enter Try.func9, Try.ntmps9
    go_wp2
    go_ret
    exact ⟨⟨m.toNat, rfl, H.out, by omega, by omega⟩, rfl⟩
  · have H : Hid (HasB w B A n c (l.take m.toNat)) := Lib.hid (by rw [List.take_of_length_le (by have := hr.len; omega)]; exact hr)
    go_enter Try.func9, Try.ntmps9
    go_wp2
    go_ret
    exact ⟨⟨n, rfl, H.out, Nat.le_refl _, by omega⟩, rfl⟩

/-- crc.Bytes. -/
theorem bytes_any (s : Nat) (hs : s < 4294967296) (w : World) :
    Calls Try.prog 15 #[.int .u32 s] w fun e w' => e = .returned (.slice (some ⟨w.heap.size, 0, none⟩) 4 4) ∧ w' = w.alloc (.cells ((le4 s).map byt).toArray 5) := by
  have hc := Lib.hid (le4_cells s hs)
  go_enter Try.func15, Try.ntmps15
  go_wp2
  go_ret
  exact ⟨rfl, by rw [← hc.out]⟩

/-- bytes.Equal. -/
theorem equal_any (A A' : Option Addr) (n c n' c' : Nat) (l l' : List UInt8) (w : World) (B B' : Nat) (hr : HasB w B A n c l) (hr' : HasB w B' A' n' c' l') :
    Calls Try.prog 20 #[.slice A n c, .slice A' n' c'] w fun e w' => e = .returned (.bool (l == l')) ∧ w = w' := by
  have h1 := hr.string (P := Try.prog) 23 5 9 Try.underlying23 Try.underlying5 Try.underlying9
  have h2 := hr'.string (P := Try.prog) 23 5 9 Try.underlying23 Try.underlying5 Try.underlying9
  go_enter Try.func20, Try.ntmps20
  go_wp2
  go_ret
  exact ⟨rfl, rfl⟩

theorem le4_length (s : Nat) : (le4 s).length = 4 := rfl
theorem bytes_has (w : World) (s : Nat) : HasB (w.alloc (.cells ((le4 s).map byt).toArray 5)) (w.heap.size + 1) (some ⟨w.heap.size, 0, none⟩) 4 4 (le4 s) :=
  HasB.lit w (le4 s) 5 (by rw [le4_length]; omega)

/-- crc.Whole. -/
theorem whole_any (A : Option Addr) (n c : Nat) (l : List UInt8) (w : World) (hr : HasB w w.heap.size A n c l) :
    Calls Try.prog 17 #[.slice A n c] w fun e w' => e = .returned (.bool (wholeB l)) ∧ Below w.heap.size w w' := by
  have hn := hr.lenMax
  have hcm := hr.capMax
  have hcap := hr.cap
  have hlen := hr.len
  by_cases h : n < 4
  · have H : Hid (wholeB l = false) := Lib.hid (by simp [wholeB]; omega)
    go_enter Try.func17, Try.ntmps17
    go_wp2
    go_ret
    exact ⟨bool_of (by rw [H.out]), Below.refl _ _⟩
  · obtain ⟨m, rfl⟩ : ∃ m, n = m + 4 := ⟨n - 4, by omega⟩
    have H : Hid ((l.drop m == le4 (more 0 (l.take m))) = wholeB l) := Lib.hid (by
      unfold wholeB
      rw [show decide (4 ≤ l.length) = true from by simp; omega, Bool.true_and, show l.length - 4 = m from by omega])
    have hT := Lib.hid (hr.take_ m (by omega))
    have hD : Hid (HasB w w.heap.size (A.map (·.add m)) 4 (c - m) (l.drop m)) := Lib.hid (by
      have h1 := hr.drop_ m (by omega)
      rwa [if_neg (by omega), Nat.mul_one, show m + 4 - m = 4 from by omega] at h1)
    have hml := more_lt 0 (l.take m)
    have hne : ¬ c = m := by omega
    have hb1 : (m : Int) ≤ (m : Int) + 4 := by omega
    have hb2 : (m : Int) ≤ (c : Int) := by omega
    clear h hlen
    go_enter Try.func17, Try.ntmps17
    go_wp2
    go_region_held3 (fun _ => True) (trivial) (first
      | (go_at_call 10; refine (sum_any _ _ _ _ _ w.heap.size (hT.out.drew)).mono ?_; rintro e w' ⟨rfl, rfl⟩)
      | (go_at_call 15; refine (bytes_any _ hml _).mono ?_; rintro e w' ⟨rfl, rfl⟩)
      | (go_at_call 20; refine (equal_any _ _ _ _ _ _ _ _ _ _ _ (hD.out.alloc (Nat.le_refl _) _).drew (bytes_has _ _).drew).mono ?_; rintro e w' ⟨rfl, rfl⟩))
    go_wp2
    go_ret
    exact ⟨bool_of (by rw [← H.out]), ((Below.refl _ _).alloc (Nat.le_refl _) _).drew⟩

theorem take_same {l l' : List UInt8} {k : Nat} (h : l.take k = l'.take k) (hk : k < l.length) (hk' : k < l'.length) (e : (l.getD k 0).toNat = (l'.getD k 0).toNat) : l.take (k + 1) = l'.take (k + 1) := by
  rw [List.take_succ_eq_append_getElem hk, List.take_succ_eq_append_getElem hk', h]
  have e' := UInt8.toNat_inj.1 e
  simp only [List.getD_eq_getElem?_getD, List.getElem?_eq_getElem hk, List.getElem?_eq_getElem hk', Option.getD_some] at e'
  rw [e']

/-- The reference's Same. -/
theorem same_any (A A' : Option Addr) (n c n' c' : Nat) (l l' : List UInt8) (w : World) (B B' : Nat) (hr : HasB w B A n c l) (hr' : HasB w B' A' n' c' l') :
    Calls Try.prog 16 #[.slice A n c, .slice A' n' c'] w fun e w' => e = .returned (.bool (l == l')) ∧ ∃ k, w' = w.drewN k := by
  have hn := hr.lenMax
  have hll := hr.len
  have hll' := hr'.len
  by_cases h : n = n'
  · subst h
    have hne : ((n : Int) != (n : Int)) = false := by simp
    go_enter Try.func16, Try.ntmps16
    go_wp2
    clear hne
    go_loopw [5] (fun i wr => ∃ k q : Nat, k ≤ n ∧ i = .int .i64 k ∧ wr = w.drewN q ∧ Hid (l.take k = l'.take k)) (fun i _ => n - (intOf i).toNat)
    case atStart => exact ⟨0, 0, Nat.zero_le _, rfl, rfl, rfl⟩
    case round =>
      obtain ⟨k, q, hk, rfl, rfl, ht⟩ := hrel
      by_cases hlt : k < n
      · obtain ⟨b, o, x, rfl, hb, hc, hx, ex⟩ := hr.at_ hlt
        obtain ⟨b', o', x', rfl, hb', hc', hx', ex'⟩ := hr'.at_ hlt
        by_cases hxx : x = x'
        · subst hxx
          have hxn : ((x : Int) != (x : Int)) = false := by simp
          have H : Hid (l.take (k + 1) = l'.take (k + 1)) := Lib.hid (take_same ht.out (by omega) (by omega) (ex.out.symm.trans ex'.out))
          go_wp2
          go_quiet (fail)
          go_wp2
          go_roundw
          case rel => exact ⟨k + 1, q + nq, by omega, by go_num, rfl, H⟩
          case measure => simp [intOf]; omega
        · have hxn : ((x : Int) != (x' : Int)) = true := by simp; omega
          have H : Hid ((l == l') = false) := Lib.hid (by
            simp only [beq_eq_false_iff_ne, ne_eq]
            rintro rfl
            exact hxx (ex.out.trans ex'.out.symm))
          go_wp2
          go_quiet (fail)
          go_wp2
          go_ret
          exact ⟨bool_of (by rw [H.out]), q + nq, World.drewN_drewN _ _ _⟩
      · have H : Hid ((l == l') = true) := Lib.hid (by
          have h1 := ht.out
          rw [List.take_of_length_le (by omega), List.take_of_length_le (by omega)] at h1
          simp [h1])
        go_wp2
        go_ret
        exact ⟨bool_of (by rw [H.out]), q, rfl⟩
  · have H : Hid ((l == l') = false) := Lib.hid (by simp; intro e; subst e; omega)
    have hne : ((n : Int) != (n' : Int)) = true := by simp; omega
    go_enter Try.func16, Try.ntmps16
    go_wp2
    go_ret
    exact ⟨bool_of (by rw [H.out]), 0, rfl⟩
end Go.Proofs.Ytkgednapdnjhbaa
