/- Layer 3: the document's examples, as the laws ask them each time. -/
import Derived.Test.YtpegmingmcedmaaFrameScan
import Derived.Test.YtpegmingmcedmaaFramePut
import Derived.Test.YtpegmingmcedmaaLit
namespace Go.Proofs.Ytpegmingmcedmaa
open Go.RowKit

theorem frOf_ex : (frOf 7 [97]).getD 0 0 = 1 ∧ (frOf 7 [97]).getD 4 0 = 7 ∧ (frOf 7 [97]).getD 5 0 = 97 ∧ (frOf 7 [97]).length = 10 := by decide +kernel
theorem frScan_ex : frScan (frOf 7 [97]) = ([(7, [97])], 10, 0) := by
  have h := frScan_all [(7, [97])] (by intro f hf; simp at hf; subst hf; exact ⟨by decide, by decide⟩)
  have e : frCat [(7, [97])] = frOf 7 [97] := by simp [frCat]
  rw [e, frOf_ex.2.2.2] at h
  exact h
theorem frScan_three : frScan [1, 0, 0] = ([], 0, 3) := by
  rw [frScan_err (by decide) (by decide +kernel)]
  rw [frGot_short (by decide)]
theorem scan_is (A : Option Addr) (n c : Nat) (l : List UInt8) (w : World) (hr : HasB w w.heap.size A n c l) (hsmall : n ≤ 1000000) {fs : List Fr} {u x : Nat} (h : frScan l = (fs, u, x)) :
    Calls Try.prog 17 #[.slice A n c] w fun e w' => (∃ v, e = .returned (.tuple #[v, .int .i64 (u : Int), .int .i64 (x : Int)]) ∧ FrOwn w' w.heap.size 31 v fs) ∧ Below w.heap.size w w' := by
  have := scan_any A n c l w hr hsmall
  rwa [h] at this

set_option maxRecDepth 100000 in
set_option maxHeartbeats 2000000 in
theorem lives_any (w : World) :
    Calls Try.prog 13 #[] w fun e w' => e = .returned (.bool true) ∧ Below w.heap.size w w' := by
  have kc := conv_lit
  go_enter Try.func13, Try.ntmps13
  go_wp2_with fail
  refine (put_any none 0 0 [] 7 _ 1 1 [97] _ ⟨rfl, Nat.le_refl _, Nat.zero_le _, fun _ => rfl, Has.nil_⟩ (HasB.litAt _ [97] _ (by simp [byt]) _ _ 1 rfl (by decide) _ rfl |>.more (by simp)) (by omega) (by omega) (by omega)).mono ?_
  rintro e w1 ⟨⟨v1, rfl, ho1⟩, hb1⟩
  rw [List.nil_append] at ho1
  have hw1 : Below w.heap.size w w1 := ((Below.refl _ _).alloc (Nat.le_refl _) _).trans (hb1.mono (by simp))
  have hz1 := hw1.size
  obtain ⟨A1, n1, c1, rfl, hv1, -⟩ := ho1.formN
  have hn1 : n1 = 10 := by have := hv1.len; rw [frOf_ex.2.2.2] at this; exact this.symm
  subst hn1
  clear ho1 hb1
  go_wp2_with fail
  refine (put_no none 0 0 256 none 0 0 _ (by omega) (by omega)).mono ?_
  rintro e w' ⟨rfl, rfl⟩
  go_wp2_with fail
  refine (scan_is _ _ _ _ _ hv1 (by omega) frScan_ex).mono ?_
  rintro e w2 ⟨⟨v2, rfl, ho2⟩, hb2⟩
  have hw2 := hw1.trans (hb2.mono hz1)
  have hz2 := hw2.size
  have hv2 := (hv1.below hb2 (Nat.le_refl _)).more hb2.size
  obtain ⟨A2, n2, c2, rfl, hn2, -⟩ := FrRow.form ho2
  have hr2 := FrOwn.read ho2
  obtain rfl : n2 = 1 := hn2.symm
  clear ho2 hv1 hb2 hn2
  go_wp2_with fail
  refine (scan_is _ 3 3 [1, 0, 0] _ (HasB.litAt _ [1, 0, 0] _ (by simp [byt]) _ _ 3 rfl (by decide) _ rfl |>.more (by simp)) (by omega) frScan_three).mono ?_
  rintro e w3 ⟨⟨v3, rfl, ho3⟩, hb3⟩
  have hw3 : Below w.heap.size w w3 := (hw2.alloc hz2 _).trans (hb3.mono (by simp; omega))
  have hv3 := (hv2.alloc (Nat.le_refl _) (.cells #[.int .u8 1, .int .u8 0, .int .u8 0] 5)).below hb3 (by simp)
  have hr3 := (hr2.below ((Below.refl _ _).alloc (Nat.le_refl _) (.cells #[.int .u8 1, .int .u8 0, .int .u8 0] 5))).below hb3
  clear ho3 hb3 hv2 hr2
  obtain ⟨b, o, q0, hA, _, hc0, _, e0⟩ := hv3.at_ (k := 0) (by omega)
  subst hA
  obtain ⟨b', o', q4, h, _, hc4, _, e4⟩ := hv3.at_ (k := 4) (by omega)
  injection h with h; injection h with h1 h2; subst h1 h2
  obtain ⟨b', o', q5, h, _, hc5, _, e5⟩ := hv3.at_ (k := 5) (by omega)
  injection h with h; injection h with h1 h2; subst h1 h2
  obtain rfl : q0 = 1 := by rw [e0.out, frOf_ex.1]; rfl
  obtain rfl : q4 = 7 := by rw [e4.out, frOf_ex.2.1]; rfl
  obtain rfl : q5 = 97 := by rw [e5.out, frOf_ex.2.2.1]; rfl
  obtain ⟨b', o', B1, m1, d1, hA, _, hk, _, _⟩ := hr3.has 0 (by omega)
  subst hA
  have hk : w3.cell? ⟨b', o' + 0 * 2, none⟩ = some (.int .i64 7) := hk
  rw [Nat.zero_mul, Nat.add_zero] at hk
  rw [Nat.add_zero] at hc0
  have hc0 : w3.cell? ⟨b, o, none⟩ = some (.int .u8 1) := hc0
  have hc4 : w3.cell? ⟨b, o + 4, none⟩ = some (.int .u8 7) := hc4
  have hc5 : w3.cell? ⟨b, o + 5, none⟩ = some (.int .u8 97) := hc5
  clear hv3 hr3 e0 e4 e5
  go_wp2_with fail
  go_ret
  exact ⟨rfl, hw3⟩
end Go.Proofs.Ytpegmingmcedmaa
