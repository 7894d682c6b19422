/- Layer 3: the reference's Get. -/
import Derived.Test.YtpegmingmcedmaaFrameGet
import Derived.Test.YtpegmingmcedmaaCrcC
import Derived.Test.YtpegmingmcedmaaSame
namespace Go.Proofs.Ytpegmingmcedmaa
open Go.RowKit

theorem info_ref03 : (Try.prog.info? 34).map (·.size) = some 2 := by kernel_rfl

set_option maxRecDepth 100000 in
set_option maxHeartbeats 2000000 in
theorem refGet_any (A : Option Addr) (n c : Nat) (l : List UInt8) (w : World) (hr : HasB w w.heap.size A n c l) :
    Calls Try.prog 15 #[.slice A n c] w (GetIs w (frGot l)) := by
  have hlen := Lib.hid hr.len
  obtain ⟨i0, hi, hz0, hz1', hz2'⟩ := info_parts info_u8
  by_cases h4 : n < 4
  · have H := Lib.hid (frGot_short (l := l) (by have := hlen.out; omega))
    go_enter Try.func15, Try.ntmps15
    go_wp2
    refine bodyPost_ret (results_block3 rfl _ _ w.heap.size _ _ rfl (Block.new _ _ _) Try.underlying34 rfl info_ref03) rfl ?_
    rw [H.out]
    exact ⟨_, rfl, OwnB.nil_ _ _ _, (Below.refl _ _).alloc (Nat.le_refl _) _⟩
  · have hr1 := hr.alloc (Nat.le_refl _) (.cells #[.int .i64 0, .slice none 0 0] 34)
    have hbl : Block (w.alloc (.cells #[.int .i64 0, .slice none 0 0] 34)) w.heap.size 34 #[.int .i64 0, .slice none 0 0] := Block.new _ _ _
    have hbe : Below w.heap.size w (w.alloc (.cells #[.int .i64 0, .slice none 0 0] 34)) := (Below.refl _ _).alloc (Nat.le_refl _) _
    have hzn : w.heap.size < (w.alloc (.cells #[.int .i64 0, .slice none 0 0] 34)).heap.size := hbl.lt
    obtain ⟨m, hm⟩ : ∃ m, Hid (frLen l = m) := ⟨_, Lib.hid rfl⟩
    obtain ⟨b, o, q0, hA, hb, hc0, hq0, e0⟩ := hr1.at_ (k := 0) (by omega)
    subst hA
    obtain ⟨b', o', q1, h, hb', hc1, hq1, e1⟩ := hr1.at_ (k := 1) (by omega)
    injection h with h; injection h with h1 h2; subst h1 h2
    obtain ⟨b', o', q2, h, hb', hc2, hq2, e2⟩ := hr1.at_ (k := 2) (by omega)
    injection h with h; injection h with h1 h2; subst h1 h2
    obtain ⟨b', o', q3, h, hb', hc3, hq3, e3⟩ := hr1.at_ (k := 3) (by omega)
    injection h with h; injection h with h1 h2; subst h1 h2
    rw [Nat.add_zero] at hc0
    have hn := hr1.lenMax
    have hmq : m = q0 + 256 * q1 + 65536 * q2 + 16777216 * q3 := by rw [← hm.out]; unfold frLen; rw [e0.out, e1.out, e2.out, e3.out]
    go_enter Try.func15, Try.ntmps15
    go_wp2_with fail
    generalize w.alloc (.cells #[.int .i64 0, .slice none 0 0] 34) = wa at *
    have s1 : IntKind.i64.wrap (256 * (q1 : Int)) = 256 * (q1 : Int) := IntWalk.i64_in _ (by omega)
    have s2 : IntKind.i64.wrap ((q0 : Int) + 256 * (q1 : Int)) = (q0 : Int) + 256 * (q1 : Int) := IntWalk.i64_in _ (by omega)
    have s3 : IntKind.i64.wrap (65536 * (q2 : Int)) = 65536 * (q2 : Int) := IntWalk.i64_in _ (by omega)
    have s4 : IntKind.i64.wrap ((q0 : Int) + 256 * (q1 : Int) + 65536 * (q2 : Int)) = (q0 : Int) + 256 * (q1 : Int) + 65536 * (q2 : Int) := IntWalk.i64_in _ (by omega)
    have s5 : IntKind.i64.wrap (16777216 * (q3 : Int)) = 16777216 * (q3 : Int) := IntWalk.i64_in _ (by omega)
    have s6 : IntKind.i64.wrap ((q0 : Int) + 256 * (q1 : Int) + 65536 * (q2 : Int) + 16777216 * (q3 : Int)) = (m : Int) := by rw [IntWalk.i64_in _ (by omega)]; omega
    have Hmq := Lib.hid hmq
    clear hmq
    go_quiet (fail)
    clear s1 s2 s3 s4 s5 s6
    have hr2 : HasB (wa.drewN nq) w.heap.size (some ⟨b, o, none⟩) n c l := hr1.drewN nq
    have hbl2 : Block (wa.drewN nq) w.heap.size 34 #[.int .i64 0, .slice none 0 0] := hbl.drewN nq
    have hbe2 : Below w.heap.size w (wa.drewN nq) := below_drewN hbe nq
    clear hr hr1 hbl hbe hc0 hc1 hc2 hc3 hq0 hq1 hq2 hq3 hb'
    generalize wa.drewN nq = w1 at *
    have hc0 : w1.cell? ⟨w.heap.size, 0, none⟩ = some (.int .i64 0) := hbl2.cell 0
    have hc1 : w1.cell? ⟨w.heap.size, 1, none⟩ = some (.slice none 0 0) := hbl2.cell 1
    have hf0 := hbl2.free 0
    have hf1 := hbl2.free 1
    have hz1 : w.heap.size < w1.heap.size := hbl2.lt
    by_cases hfar : 65536 < m
    · have H := Lib.hid (frGot_far (l := l) (by have := hlen.out; omega) (by rw [hm.out]; exact hfar))
      go_wp2_with fail
      refine bodyPost_ret (results_block3 rfl _ _ w.heap.size _ _ rfl ((hbl2.set_ 0 _).set_ 1 _) Try.underlying34 rfl info_ref03) rfl ?_
      rw [H.out]
      exact ⟨_, rfl, OwnB.nil_ _ _ _, (hbe2.setCell (p := ⟨w.heap.size, 0, none⟩) (Nat.le_refl _) _).setCell (p := ⟨w.heap.size, 1, none⟩) (Nat.le_refl _) _⟩
    · by_cases hcut : n < m + 9
      · have H := Lib.hid (frGot_cut (l := l) (by have := hlen.out; omega) (by rw [hm.out]; exact hfar) (by rw [hm.out, hlen.out]; exact hcut))
        go_wp2_with fail
        refine bodyPost_ret (results_block3 rfl _ _ w.heap.size _ _ rfl ((hbl2.set_ 0 _).set_ 1 _) Try.underlying34 rfl info_ref03) rfl ?_
        rw [H.out]
        exact ⟨_, rfl, OwnB.nil_ _ _ _, (hbe2.setCell (p := ⟨w.heap.size, 0, none⟩) (Nat.le_refl _) _).setCell (p := ⟨w.heap.size, 1, none⟩) (Nat.le_refl _) _⟩
      · have hcap := hr2.cap
        have hcm := hr2.capMax
        have hT9 := Lib.hid (hr2.take_ (m + 9) (by omega))
        have hT5 := Lib.hid (hr2.take_ (m + 5) (by omega))
        have hwi : Hid ((l.take (m + 9) == l.take (m + 5) ++ le4 (more 0 (l.take (m + 5)))) = wholeB (l.take (m + 9))) := Lib.hid (by
          have h9 : (l.take (m + 9)).length = m + 9 := by rw [List.length_take]; have := hlen.out; omega
          have := whole_iff (l.take (m + 9)) (by omega)
          rw [h9, show m + 9 - 4 = m + 5 from by omega, List.take_take, Nat.min_eq_left (by omega)] at this
          exact this.symm)
        have s9 : IntKind.i64.wrap ((m : Int) + 9) = (m : Int) + 9 := IntWalk.i64_in _ (by omega)
        have s5 : IntKind.i64.wrap ((m : Int) + 5) = (m : Int) + 5 := IntWalk.i64_in _ (by omega)
        have b1 : (0 : Int) ≤ (m : Int) + 9 := by omega
        have b2 : (m : Int) + 9 ≤ (c : Int) := by omega
        have b3 : (0 : Int) ≤ (m : Int) + 5 := by omega
        have b4 : (m : Int) + 5 ≤ (c : Int) := by omega
        have b5 : ((m : Int) + 9).toNat = m + 9 := by omega
        have b6 : ((m : Int) + 5).toNat = m + 5 := by omega
        have b7 : m + 5 ≤ 1000000 := by omega
        go_wp2_with fail
        go_region_held3 (fun _ => True) (trivial)
          (first
            | (go_at_call 25; refine (with_any _ _ _ _ w1.drew w.heap.size (Nat.le_of_lt hz1) hT5.out.drew b7).mono ?_; rintro e w2 ⟨⟨v, rfl, ho⟩, hbw⟩; obtain ⟨A5, n5, c5, rfl, hv5, -⟩ := ho.formN)
            | (go_at_call 12; refine (same_any _ _ _ _ _ _ _ _ _ _ _ (hT9.out.drew.below hbw (Nat.le_of_lt hz1)) hv5).mono ?_; rintro e w3 ⟨rfl, q, ew3⟩))
        clear s9 s5 b1 b2 b3 b4 b5 b6 b7 hT9 hT5 hv5 ho
        have hbw0 : Below w1.heap.size w1 w2 := ⟨hbw.os, hbw.tape, hbw.output, hbw.size, hbw.block⟩
        have hbw' : Below w1.heap.size w1 (w2.drewN q) := below_drewN hbw0 q
        have hr3 : HasB (w2.drewN q) w.heap.size (some ⟨b, o, none⟩) n c l := hr2.below hbw' (Nat.le_of_lt hz1)
        have hbl3 := hbl2.below hbw' hz1
        have hbe3 := hbe2.trans (hbw'.mono (Nat.le_of_lt hz1))
        clear hr2 hbl2 hbe2 hc0 hc1 hf0 hf1 hbw hbw' hbw0
        generalize w2.drewN q = w3 at *
        have hc0 : w3.cell? ⟨w.heap.size, 0, none⟩ = some (.int .i64 0) := hbl3.cell 0
        have hc1 : w3.cell? ⟨w.heap.size, 1, none⟩ = some (.slice none 0 0) := hbl3.cell 1
        have hf0 := hbl3.free 0
        have hf1 := hbl3.free 1
        have hz2 : w.heap.size < w3.heap.size := hbl3.lt
        rw [hwi.out]
        obtain ⟨wb, hwb⟩ : ∃ wb, Hid (wholeB (l.take (m + 9)) = wb) := ⟨_, Lib.hid rfl⟩
        rw [hwb.out]
        cases wb
        · have H := Lib.hid (frGot_bad (l := l) (by have := hlen.out; omega) (by rw [hm.out]; exact hfar) (by rw [hm.out, hlen.out]; exact hcut) (by rw [hm.out]; exact hwb.out))
          go_wp2_with fail
          refine bodyPost_ret (results_block3 rfl _ _ w.heap.size _ _ rfl ((hbl3.set_ 0 _).set_ 1 _) Try.underlying34 rfl info_ref03) rfl ?_
          rw [H.out]
          exact ⟨_, rfl, OwnB.nil_ _ _ _, (hbe3.setCell (p := ⟨w.heap.size, 0, none⟩) (Nat.le_refl _) _).setCell (p := ⟨w.heap.size, 1, none⟩) (Nat.le_refl _) _⟩
        · have H := Lib.hid (frGot_ok (l := l) (by have := hlen.out; omega) (by rw [hm.out]; exact hfar) (by rw [hm.out, hlen.out]; exact hcut) (by rw [hm.out]; exact hwb.out))
          obtain ⟨b', o', q4, h, hb4, hc4, hq4, e4⟩ := hr3.at_ (k := 4) (by omega)
          injection h with h; injection h with h1 h2; subst h1 h2
          have hC : Hid (HasB w3 w.heap.size (some ⟨b, o + 5, none⟩) m (c - 5) ((l.drop 5).take m)) := Lib.hid (by
            rw [← add_flat]
            have h1 := cut_is (hr3.take_ (m + 5) (by omega)) (p := 5) (by omega) (by omega)
            rwa [show m + 5 - 5 = m from by omega, show (l.take (m + 5)).drop 5 = (l.drop 5).take m from by rw [List.drop_take, show m + 5 - 5 = m from by omega]] at h1)
          have hml : ((l.drop 5).take m).length = m := hC.out.len
          have Hml := Lib.hid hml
          have hm5 : (m : Int) + 5 ≤ (c : Int) := by omega
          have hm6 : (5 : Int) ≤ (m : Int) + 5 := by omega
          have hm9 : ¬ c = 5 := by omega
          have hm12 : (5 : Int) ≤ (c : Int) := by omega
          clear hml
          go_wp2_with (at_builtin; refine wpList_app4 _ rfl _ _ 22 rfl w3.heap.size 5 i0 (.int .u8 0) Try.underlying22 hi hz0 hz1' hz2' rfl _ [] rfl (OwnB.nil_ w3 w3.heap.size 5) _ _ m (c - 5) _ rfl hC.out (by simp; omega) (Nat.le_refl _) ?_)
          intro v4 w4 ho4 hg4
          have hbd : Below w3.heap.size w3 w4 := hg4.below_ (Nat.le_refl _) (fun k hk => by cases hk)
          obtain ⟨A5, n5, c5, rfl, hv5, -⟩ := ho4.formN
          have hbl4 := hbl3.below hbd hz2
          have hk4 := (hbd.cell (p := ⟨b, o + 4, none⟩) (Nat.lt_trans hb4 hz2)).trans hc4
          have hG : Below w.heap.size w w4 := hbe3.trans (hbd.mono (Nat.le_of_lt hz2))
          clear hg4 hc0 hc1 hf0 hf1 hc4 hv5
          have hc0 : w4.cell? ⟨w.heap.size, 0, none⟩ = some (.int .i64 0) := hbl4.cell 0
          have hc1 : w4.cell? ⟨w.heap.size, 1, none⟩ = some (.slice none 0 0) := hbl4.cell 1
          have hf0 := hbl4.free 0
          have hf1 := hbl4.free 1
          have hF : Hid (OwnB ((w4.setCell ⟨w.heap.size, 0, none⟩ (.int .i64 (q4 : Int))).setCell ⟨w.heap.size, 1, none⟩ (.slice A5 n5 c5)) w.heap.size 5 (.slice A5 n5 c5) ((l.drop 5).take m)) :=
            Lib.hid (OwnB.low (ownsRow_setCell_below (ownsRow_setCell_below ho4 (a := ⟨w.heap.size, 0, none⟩) hz2 _) (a := ⟨w.heap.size, 1, none⟩) hz2 _) (Nat.le_of_lt hz2))
          have hm8 : (4 : Int) < (n : Int) := by omega
          clear ho4
          go_wp2_with fail
          refine bodyPost_ret (results_block3 rfl _ _ w.heap.size _ _ rfl ((hbl4.set_ 0 _).set_ 1 _) Try.underlying34 rfl info_ref03) rfl ?_
          rw [H.out, hm.out, ← e4.out]
          exact ⟨_, rfl, hF.out, (hG.setCell (p := ⟨w.heap.size, 0, none⟩) (Nat.le_refl _) _).setCell (p := ⟨w.heap.size, 1, none⟩) (Nat.le_refl _) _⟩
end Go.Proofs.Ytpegmingmcedmaa
