/- Layer 3: Scan. -/
import Derived.Test.YtpegmingmcedmaaFrameGet
import Derived.Test.YtpegmingmcedmaaFrameRow
import Derived.Outline
namespace Go.Proofs.Ytpegmingmcedmaa
open Go.RowKit

theorem info_frame3 : (Try.prog.info? 31).map (fun i => (i.zero, i.size, i.bytes)) = some (some (.agg #[.int .i64 0, .slice none 0 0]), 2, 32) := by kernel_rfl
theorem getIs_of {w w' : World} {e : Ending} {r : Fr × Nat × Nat} {k u x : Nat} {body : List UInt8} (hr : r = ((k, body), u, x)) (h : GetIs w r e w') :
    ∃ v, e = .returned (.tuple #[.agg #[.int .i64 (k : Int), v], .int .i64 (u : Int), .int .i64 (x : Int)]) ∧ OwnB w' w.heap.size 5 v body ∧ Below w.heap.size w w' := by
  subst hr; exact h

set_option maxRecDepth 100000 in
set_option maxHeartbeats 2000000 in
theorem scan_any (A : Option Addr) (n c : Nat) (l : List UInt8) (w : World) (hr : HasB w w.heap.size A n c l) (hsmall : n ≤ 1000000) :
    Calls Try.prog 17 #[.slice A n c] w fun e w' => (∃ v, e = .returned (.tuple #[v, .int .i64 ((frScan l).2.1 : Int), .int .i64 ((frScan l).2.2 : Int)]) ∧ FrOwn w' w.heap.size 31 v (frScan l).1) ∧ Below w.heap.size w w' := by
  have hlen := Lib.hid hr.len
  obtain ⟨i0, hi, hz0, hz1, hz2⟩ := info_parts info_frame3
  go_enter Try.func17, Try.ntmps17
  go_wp2
  go_step3
  go_wp2
  go_step3
  go_wp2
  go_loopw [5, 6, 7] (fun v a e wr => ∃ (p : Nat) (acc : List Fr), p ≤ n ∧ a = .int .i64 p ∧ e = .int .i64 0 ∧ Hid (acc.length ≤ p) ∧ Hid (ScanAt l p acc) ∧ FrOwn wr w.heap.size 31 v acc ∧ Below w.heap.size w wr) (fun _ a _ _ => n - (intOf a).toNat)
  case atStart => exact ⟨0, [], Nat.zero_le _, rfl, rfl, Nat.le_refl _, ScanAt.zero l, FrRow.nil_ _ _ _ _, Below.refl _ _⟩
  case round =>
    obtain ⟨p, acc, hp, rfl, rfl, hacc, hs, ho, hb⟩ := hrel
    have hz := hb.size
    have hcap := hr.cap
    have hcm := hr.capMax
    by_cases hlt : p < n
    · have hcp : ¬ c = p := by omega
      have hd := cut_is (hr.below hb (Nat.le_refl _)) (p := p) hp hcp
      have b1 : (p : Int) ≤ (n : Int) := by omega
      have b2 : (n : Int) ≤ (c : Int) := by omega
      have b3 : (p : Int) ≤ (c : Int) := by omega
      obtain ⟨k, body, u, x, hg⟩ : ∃ k body u x, frGot (l.drop p) = ((k, body), u, x) := ⟨_, _, _, _, rfl⟩
      have Hg := Lib.hid hg
      clear hg
      go_wp2_with fail
      refine (get_any _ _ _ _ _ (hd.more hz)).mono ?_
      rintro e w2 he
      obtain ⟨v, rfl, hv, hb2⟩ := getIs_of Hg.out he
      clear he hd
      obtain ⟨A5, n5, c5, rfl, hv5, -⟩ := hv.formN
      clear hv5
      have ho2 := FrOwn.below_ ho hb2
      have hv2 := hv.low hz
      have hbw := hb.trans (hb2.mono hz)
      have hz2' := hbw.size
      clear ho hv hb2 hb
      by_cases hx : x = 0
      · subst hx
        obtain ⟨xs, hown, hcells⟩ := ho2
        go_wp2_with (at_builtin; refine wpList_append_own _ rfl _ _ 38 rfl w.heap.size 31 i0 (.agg #[.int .i64 0, .slice none 0 0]) 2 32 Try.underlying38 hi hz0 hz1 hz2 rfl (by decide) _ acc.length xs rfl ((hown.alloc _).alloc _) _ 1 1 [.int .i64 (k : Int), .slice A5 n5 c5] rfl rfl (cell_two_at _ _ _ _ _ (by simp)) (two_one _ _ _ _) (by have := hacc.out; unfold maxLen; omega) (by have := hacc.out; omega) (by simp; omega) ?_)
        intro v3 w3 hown3 hgrow3 _
        have hst := Lib.hid (hs.out.step (by have := hlen.out; omega) (by rw [Hg.out]))
        rw [Hg.out] at hst
        have hus : u ≤ n - p ∧ 9 ≤ u := by
          have h1 := frGot_used (l := l.drop p) (by rw [Hg.out])
          rw [Hg.out, List.length_drop] at h1
          have := hlen.out
          simp only at h1
          omega
        have hF : Hid (FrOwn w3 w.heap.size 31 v3 (acc ++ [(k, body)])) := Lib.hid (FrOwn.step (by decide) ((hown.alloc _).alloc _) (hcells.mono fun _ _ h => (h.alloc _).alloc _) ((hv2.alloc _).alloc _) hown3 hgrow3)
        have hB3 : Below w.heap.size w w3 := (((hbw.alloc hz2' _).alloc (by simp; omega) _).grown hgrow3 (by simp; omega) (fun g h => (hown.lt g h).1))
        have hac3 : Hid ((acc ++ [(k, body)]).length ≤ p + u) := Lib.hid (by have := hacc.out; simp; omega)
        clear hown hcells hown3 hgrow3 hv2 hbw
        go_wp2_with fail
        go_roundw
        case rel => exact ⟨p + u, acc ++ [(k, body)], by omega, by go_num, rfl, hac3, hst, hF.out, hB3⟩
        case measure => simp [intOf]; omega
      · have hfin := Lib.hid (hs.out.err (by have := hlen.out; omega) (by rw [Hg.out]; exact hx))
        rw [Hg.out] at hfin
        have hxe : ((x : Int) == 0) = false := by simpa using hx
        have hA : FrOwn (w2.alloc (.cells #[.int .i64 (k : Int), .slice A5 n5 c5] 31)) w.heap.size 31 u5 acc := FrOwn.alloc_ ho2 _
        have hB : Below w.heap.size w (w2.alloc (.cells #[.int .i64 (k : Int), .slice A5 n5 c5] 31)) := hbw.alloc hz2' _
        go_wp2_with fail
        rw [Exit.noGoto_ret]
        go_ret3
        rw [hfin.out]
        exact ⟨⟨_, rfl, hA⟩, hB⟩
    · have hpn : p = n := by omega
      have hfin := Lib.hid (ScanAt.done (l := l) (acc := acc) (by rw [hlen.out, ← hpn]; exact hs.out))
      rw [hlen.out, ← hpn] at hfin
      go_wp2_with fail
      rw [Exit.noGoto_ret]
      go_ret3
      rw [hfin.out]
      exact ⟨⟨_, rfl, ho⟩, hb⟩
end Go.Proofs.Ytpegmingmcedmaa
