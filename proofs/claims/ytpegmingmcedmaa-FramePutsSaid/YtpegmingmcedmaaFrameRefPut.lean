/- Layer 3: the reference's Put. -/
import Derived.Test.YtpegmingmcedmaaFrameM
import Derived.Test.YtpegmingmcedmaaCrcC
namespace Go.Proofs.Ytpegmingmcedmaa
open Go.RowKit

theorem frHd_ref (n k : Nat) (hn : n ≤ 65536) (hk : k < 256) : #[Value.int .u8 ((n : Int) % 256), Value.int .u8 ((n : Int) / 256 % 256), Value.int .u8 ((n : Int) / 65536), Value.int .u8 0, Value.int .u8 (k : Int)] = ((frHd n k).map byt).toArray := by
  have h (k : Nat) : byt (UInt8.ofNat k) = .int .u8 ((k : Int) % 256) := by
    unfold byt; rw [UInt8.toNat_ofNat']; congr 1
  have h3 : (n : Int) / 65536 = ((n / 65536 : Nat) : Int) % 256 := by omega
  have h4 : (0 : Int) = ((n / 16777216 : Nat) : Int) % 256 := by omega
  have h5 : (k : Int) = (k : Int) % 256 := by omega
  simp only [frHd, List.map_cons, List.map_nil, h]
  rw [h3, ← h4, ← h5]
  rfl

set_option maxRecDepth 100000 in
set_option maxHeartbeats 2000000 in
theorem refPut_any (A : Option Addr) (n c : Nat) (l : List UInt8) (k : Nat) (A' : Option Addr) (n' c' : Nat) (body : List UInt8) (w : World) (hr : HasB w w.heap.size A n c l) (hr' : HasB w w.heap.size A' n' c' body)
    (hn : n ≤ 1000000) (hk : k < 256) (hn' : n' ≤ 65536) :
    Calls Try.prog 11 #[.slice A n c, .int .i64 k, .slice A' n' c'] w fun e w' => (∃ v, e = .returned (.tuple #[v, .int .i64 0]) ∧ OwnB w' w.heap.size 5 v (l ++ frOf k body)) ∧ Below w.heap.size w w' := by
  obtain ⟨i0, hi, hz0, hz1, hz2⟩ := info_parts info_u8
  have hlen := Lib.hid hr.len
  have hlen' := Lib.hid hr'.len
  have hcs := frHd_ref n' k hn' hk
  go_enter Try.func11, Try.ntmps11
  go_wp2_with (at_builtin; refine wpList_app4 _ rfl _ _ 22 rfl w.heap.size 5 i0 (.int .u8 0) Try.underlying22 hi hz0 hz1 hz2 rfl _ _ rfl (OwnB.lit_ w w.heap.size 5 (frHd n' k) _ rfl 5 rfl (by omega) (Nat.le_refl _) _ rfl) _ _ n' c' _ rfl (hr'.alloc (Nat.le_refl _) _) (by simp [frHd_length]; omega) (by simp) ?_)
  intro v2 w2 ho2 hg2
  have hb2 : Below w.heap.size w w2 := ((Below.refl _ _).alloc (Nat.le_refl _) _).trans (hg2.below_ (by simp) (fun k hk => by injection hk with hk; subst hk; exact Nat.le_refl _))
  have hz2' := hb2.size
  have hr2 := hr.below hb2 (Nat.le_refl _)
  obtain ⟨A2, n2, c2, rfl, hv2, -⟩ := ho2.formN
  have hn2 : n2 = 5 + n' := by
    have h1 := hv2.len
    have h2 := hlen'.out
    simp only [List.length_append, frHd_length] at h1
    omega
  have Hn2 := Lib.hid hn2
  clear hr hr' hg2 ho2 hcs hn2
  go_wp2_with fail
  refine (with_any _ _ _ _ _ _ (Nat.le_refl _) hv2 (by have := Hn2.out; omega)).mono ?_
  rintro e w3 ⟨⟨v3, rfl, ho3⟩, hb3⟩
  have hr3 := hr2.below hb3 hz2'
  have hb3' := hb2.trans (hb3.mono hz2')
  have hz3' := hb3'.size
  have hz32 := hb3.size
  clear hv2 hr2 hb2 hb3
  have Hfr : Hid ((frHd n' k ++ body) ++ le4 (more 0 (frHd n' k ++ body)) = frOf k body) := Lib.hid (by unfold frOf; rw [hlen'.out])
  rw [Hfr.out] at ho3
  clear Hfr
  go_wp2_with (at_builtin; refine wpList_app4 _ rfl _ _ 22 rfl w3.heap.size 5 i0 (.int .u8 0) Try.underlying22 hi hz0 hz1 hz2 rfl _ [] rfl (OwnB.nil_ w3 w3.heap.size 5) _ _ n c _ rfl hr3 (by simp; omega) (Nat.le_refl _) ?_)
  intro v4 w4 ho4 hg4
  have hb4 : Below w3.heap.size w3 w4 := hg4.below_ (Nat.le_refl _) (fun k hk => by cases hk)
  have ho34 := ho3.below hb4 (Nat.le_refl _)
  obtain ⟨A3, n3, c3, rfl, hv3, -⟩ := ho34.formN
  have hn3 : Hid (n3 = n' + 9) := Lib.hid (by have h1 := hv3.len; rw [frOf_length, hlen'.out] at h1; exact h1.symm)
  have hb4' := hb3'.trans (hb4.mono hz3')
  have hz4' := hb4'.size
  have hz43 := hb4.size
  clear hg4 ho3 ho34 hr3 hb3'
  go_wp2_with (at_builtin; refine wpList_app4 _ rfl _ _ 22 rfl w3.heap.size 5 i0 (.int .u8 0) Try.underlying22 hi hz0 hz1 hz2 rfl _ _ rfl ho4 _ _ n3 c3 _ rfl hv3 (by have := hlen.out; have := hn3.out; omega) hz43 ?_)
  intro v5 w5 ho5 hg5
  have hb5 : Below w.heap.size w w5 := hb4'.trans ((hg5.below_ hz43 (fun k hk => (ho4.lt k hk).1)).mono hz3')
  have H5 : Hid (OwnB w5 w.heap.size 5 v5 (l ++ frOf k body)) := Lib.hid (ho5.low hz3')
  clear hg5 ho5 ho4 hv3 hb4 hb4'
  go_wp2_with fail
  go_ret2
  exact ⟨⟨v5, rfl, H5.out⟩, hb5⟩

theorem refPut_no (A : Option Addr) (n c : Nat) (k : Int) (A' : Option Addr) (n' c' : Nat) (w : World) (hn' : n' ≤ 9223372036854775807) (h : k < 0 ∨ 255 < k ∨ 65536 < n') :
    Calls Try.prog 11 #[.slice A n c, .int .i64 k, .slice A' n' c'] w fun e w' => e = .returned (.tuple #[.slice none 0 0, .int .i64 1]) ∧ w = w' := by
  go_enter Try.func11, Try.ntmps11
  by_cases h0 : k < 0
  · go_wp2
    go_ret2
    exact ⟨rfl, rfl⟩
  · by_cases h1 : 255 < k
    · go_wp2
      go_ret2
      exact ⟨rfl, rfl⟩
    · have h2 : 65536 < n' := by omega
      go_wp2
      go_ret2
      exact ⟨rfl, rfl⟩
end Go.Proofs.Ytpegmingmcedmaa
