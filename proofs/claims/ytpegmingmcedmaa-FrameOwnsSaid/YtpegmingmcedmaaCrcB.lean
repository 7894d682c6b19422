/- Layer 1: the functions of crc that make memory. -/
import Derived.Test.YtpegmingmcedmaaCrc
import Derived.BigQuiet
import Derived.Deep.QuietTactic
import Derived.Deep.RegionHeld3
namespace Go.Proofs.Ytpegmingmcedmaa
open Go.RowKit

theorem le4_cells (s : Nat) (hs : s < 4294967296) : #[Value.int .u8 ((s : Int) % 256), Value.int .u8 ((s : Int) / 256 % 256), Value.int .u8 ((s : Int) / 65536 % 256), Value.int .u8 ((s : Int) / 16777216)] = ((le4 s).map byt).toArray := by
  have h (k : Nat) : byt (UInt8.ofNat k) = .int .u8 ((k : Int) % 256) := by
    unfold byt; rw [UInt8.toNat_ofNat']; congr 1
  have h4 : (s : Int) / 16777216 = ((s / 16777216 : Nat) : Int) % 256 := by omega
  simp only [le4, List.map_cons, List.map_nil, h]
  rw [h4]
  rfl

/-- crc.Bytes. -/
theorem bytes_any (s : Nat) (hs : s < 4294967296) (w : World) :
    Calls Try.prog 23 #[.int .u32 s] w fun e w' => e = .returned (.slice (some ⟨w.heap.size, 0, none⟩) 4 4) ∧ w' = w.alloc (.cells ((le4 s).map byt).toArray 5) := by
  have hc := Lib.hid (le4_cells s hs)
  go_enter Try.func23, Try.ntmps23
  go_wp2
  go_ret
  exact ⟨rfl, by rw [← hc.out]⟩

/-- bytes.Equal. -/
theorem equal_any (A A' : Option Addr) (n c n' c' : Nat) (l l' : List UInt8) (w : World) (B B' : Nat) (hr : HasB w B A n c l) (hr' : HasB w B' A' n' c' l') :
    Calls Try.prog 31 #[.slice A n c, .slice A' n' c'] w fun e w' => e = .returned (.bool (l == l')) ∧ w = w' := by
  have h1 := hr.string (P := Try.prog) 22 5 9 Try.underlying22 Try.underlying5 Try.underlying9
  have h2 := hr'.string (P := Try.prog) 22 5 9 Try.underlying22 Try.underlying5 Try.underlying9
  go_enter Try.func31, Try.ntmps31
  go_wp2
  go_ret
  exact ⟨rfl, rfl⟩

theorem le4_length (s : Nat) : (le4 s).length = 4 := rfl
theorem bytes_has (w : World) (s : Nat) : HasB (w.alloc (.cells ((le4 s).map byt).toArray 5)) (w.heap.size + 1) (some ⟨w.heap.size, 0, none⟩) 4 4 (le4 s) :=
  HasB.lit w (le4 s) 5 (by rw [le4_length]; omega)

/-- crc.Whole. -/
theorem whole_any (A : Option Addr) (n c : Nat) (l : List UInt8) (w : World) (hr : HasB w w.heap.size A n c l) :
    Calls Try.prog 27 #[.slice A n c] w fun e w' => e = .returned (.bool (wholeB l)) ∧ Below w.heap.size w w' := by
  have hn := hr.lenMax
  have hcm := hr.capMax
  have hcap := hr.cap
  have hlen := hr.len
  by_cases h : n < 4
  · have H : Hid (wholeB l = false) := Lib.hid (by simp [wholeB]; omega)
    go_enter Try.func27, Try.ntmps27
    go_wp2
    go_ret
    exact ⟨bool_of (by rw [H.out]), Below.refl _ _⟩
  · obtain ⟨m, rfl⟩ : ∃ m, n = m + 4 := ⟨n - 4, by omega⟩
    have H : Hid ((l.drop m == le4 (more 0 (l.take m))) = wholeB l) := Lib.hid (by
      unfold wholeB
      rw [show decide (4 ≤ l.length) = true from by simp; omega, Bool.true_and, show l.length - 4 = m from by omega])
    have hT := Lib.hid (hr.take_ m (by omega))
    have hD : Hid (HasB w w.heap.size (A.map (·.add m)) 4 (c - m) (l.drop m)) := Lib.hid (by
      have h1 := hr.drop_ m (by omega)
      rwa [if_neg (by omega), Nat.mul_one, show m + 4 - m = 4 from by omega] at h1)
    have hml := more_lt 0 (l.take m)
    have hne : ¬ c = m := by omega
    have hb1 : (m : Int) ≤ (m : Int) + 4 := by omega
    have hb2 : (m : Int) ≤ (c : Int) := by omega
    clear h hlen
    go_enter Try.func27, Try.ntmps27
    go_wp2
    go_region_held3 (fun _ => True) (trivial) (first
      | (go_at_call 24; refine (sum_any _ _ _ _ _ w.heap.size (hT.out.drew)).mono ?_; rintro e w' ⟨rfl, rfl⟩)
      | (go_at_call 23; refine (bytes_any _ hml _).mono ?_; rintro e w' ⟨rfl, rfl⟩)
      | (go_at_call 31; refine (equal_any _ _ _ _ _ _ _ _ _ _ _ (hD.out.alloc (Nat.le_refl _) _).drew (bytes_has _ _).drew).mono ?_; rintro e w' ⟨rfl, rfl⟩))
    go_wp2
    go_ret
    exact ⟨bool_of (by rw [← H.out]), ((Below.refl _ _).alloc (Nat.le_refl _) _).drew⟩

end Go.Proofs.Ytpegmingmcedmaa
