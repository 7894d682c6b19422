/- few of the statements of a layer: the first bytes. -/
import Derived.Test.YtpegmingmcedmaaRows
import Derived.Test.YtpegmingmcedmaaBase
namespace Go.Proofs.Ytpegmingmcedmaa
open Go.RowKit

/-- few: the first bytes, at most so many. -/
theorem few_any (A : Option Addr) (n c : Nat) (l : List UInt8) (w : World) (B : Nat) (hr : HasB w B A n c l) (m : Int) (h0 : 0 ≤ m) :
    Calls Try.prog 9 #[.slice A n c, .int .i64 m] w fun e w' => (∃ n' : Nat, e = .returned (.slice A n' c) ∧ HasB w B A n' c (l.take m.toNat) ∧ n' ≤ n ∧ n' ≤ m.toNat) ∧ w = w' := by
  have hn := hr.lenMax
  have hcm := hr.capMax
  have hcap := hr.cap
  by_cases h : m < n
  · have H := Lib.hid (hr.take_ m.toNat (by omega))
    go_enter Try.func9, Try.ntmps9
    go_wp2
    go_ret
    exact ⟨⟨m.toNat, rfl, H.out, by omega, by omega⟩, rfl⟩
  · have H : Hid (HasB w B A n c (l.take m.toNat)) := Lib.hid (by rw [List.take_of_length_le (by have := hr.len; omega)]; exact hr)
    go_enter Try.func9, Try.ntmps9
    go_wp2
    go_ret
    exact ⟨⟨n, rfl, H.out, Nat.le_refl _, by omega⟩, rfl⟩

end Go.Proofs.Ytpegmingmcedmaa
