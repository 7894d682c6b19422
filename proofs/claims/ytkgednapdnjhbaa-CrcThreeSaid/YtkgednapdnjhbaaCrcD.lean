/- Layer 1: the document's examples, as the laws ask them each time. -/
import Derived.Test.YtkgednapdnjhbaaCrcC
import Derived.Lib.SlBytesConst
namespace Go.Proofs.Ytkgednapdnjhbaa
open Go.RowKit

def digits : List UInt8 := [49, 50, 51, 52, 53, 54, 55, 56, 57]
theorem more_digits : more 0 digits = 3421780262 := by decide +kernel
theorem more_zero : more 0 [0] = 3523407757 := by decide +kernel
theorem whole_zeros : wholeB [0, 0, 0, 0] = true := by decide +kernel
theorem le4_example : (le4 16909060).map byt = [.int .u8 4, .int .u8 3, .int .u8 2, .int .u8 1] := by simp [le4, byt]

theorem sum_is (l : List UInt8) (v : Int) (hv : (more 0 l : Int) = v) (A : Option Addr) (n c : Nat) (w : World) (B : Nat) (hr : HasB w B A n c l) :
    Calls Try.prog 10 #[.slice A n c] w fun e w' => e = .returned (.int .u32 v) ∧ w = w' := by
  subst hv; exact sum_any A n c l w B hr

theorem conv_lit (w : World) (C : Array Value) (g n c : Nat) (hg : g = w.heap.size) :
    (convert 23 23 (.slice (some ⟨g, 0, none⟩) n c)).run Try.prog (w.alloc (.cells C 5)) = .ok (.slice (some ⟨g, 0, none⟩) n c) (w.alloc (.cells C 5 (C.size, C.size + 1))) := by
  subst hg
  exact Lib.run_convert_bytes_const (P := Try.prog) w 23 5 C n c Try.underlying23 Try.underlying5

set_option maxHeartbeats 800000 in
theorem lives_any (w : World) :
    Calls Try.prog 13 #[] w fun e w' => e = .returned (.bool true) ∧ Below w.heap.size w w' := by
  have kc := conv_lit
  go_enter Try.func13, Try.ntmps13
  go_wp2_with fail
  refine (bytes_any 16909060 (by omega) _).mono ?_
  rintro e w' ⟨rfl, rfl⟩
  rw [le4_example]
  go_wp2_with fail
  refine (sum_is digits 3421780262 (by rw [more_digits]; rfl) _ _ _ _ (w.heap.size + 2) (HasB.litAt _ digits _ (by simp [digits, byt]) _ _ 9 rfl (by decide) _ (by simp))).mono ?_
  rintro e w' ⟨rfl, rfl⟩
  go_wp2_with fail
  refine (sum_is [0] 3523407757 (by rw [more_zero]; rfl) _ _ _ _ (w.heap.size + 3) (HasB.litAt _ [0] _ (by simp [byt]) _ _ 1 rfl (by decide) _ (by simp))).mono ?_
  rintro e w' ⟨rfl, rfl⟩
  go_wp2_with fail
  refine (whole_any _ _ _ [0, 0, 0, 0] _ ((HasB.litAt _ [0, 0, 0, 0] _ (by simp [byt]) _ _ 4 rfl (by decide) _ (by simp)).more (by simp))).mono ?_
  rw [whole_zeros]
  rintro e w' ⟨rfl, hb⟩
  have hz := hb.size
  go_wp2_with fail
  go_ret
  refine ⟨rfl, Below.trans ?_ (hb.mono (by simp; omega))⟩
  exact ((((Below.refl _ _).alloc (by omega) _).alloc (by simp) _).alloc (by simp; omega) _).alloc (by simp; omega) _
/-- CrcStays, while what crc.Bytes answered is written over: its block, and the two rows beside it. -/
def FourAt (w : World) (g : Nat) (a0 : Option Addr) (n cap0 : Nat) (A : Option Addr) (m c : Nat) (l : List UInt8) (wr : World) : Prop :=
  ∃ cs : Array Value, Block wr g 5 cs ∧ cs.size = 4 ∧ Below w.heap.size w wr ∧ HasB wr w.heap.size a0 n cap0 l ∧ HasB wr g A m c l
end Go.Proofs.Ytkgednapdnjhbaa
