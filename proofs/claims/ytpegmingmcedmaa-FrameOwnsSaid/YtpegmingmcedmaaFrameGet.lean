/- Layer 3: Get. -/
import Derived.Test.YtpegmingmcedmaaFrame
import Derived.BigQuiet
import Derived.Deep.QuietTactic
import Derived.Deep.RegionHeld3
namespace Go.Proofs.Ytpegmingmcedmaa
open Go.RowKit

/-- What Get answers: a frame, how many bytes, an error. -/
def GetIs (w : World) (r : Fr × Nat × Nat) (e : Ending) (w' : World) : Prop :=
  ∃ v, e = .returned (.tuple #[.agg #[.int .i64 (r.1.1 : Int), v], .int .i64 (r.2.1 : Int), .int .i64 (r.2.2 : Int)]) ∧ OwnB w' w.heap.size 5 v r.1.2 ∧ Below w.heap.size w w'
/-- Three results, the first one out of its block. -/
theorem results_block3 {P : Program} {fn : Func} {p t u : Tmp} {ty : TypeId} (h : fn.results = #[.cell p ty, .tmp t, .tmp u]) (tmps : Array Value) (w : World) (g : Nat) (cs : Array Value) (d : TypeDesc)
    (hp : tmps.getD p undef = .pointer (some ⟨g, 0, none⟩)) (hb : Block w g ty cs)
    (hu : P.underlying ty = some d) (hd : (match d with | .struct _ | .array _ _ => true | _ => false) = true) (hi : (P.info? ty).map (·.size) = some cs.size) :
    (results fn tmps).run P w = .ok (.tuple #[.agg cs, tmps.getD t undef, tmps.getD u undef]) w := by
  have hp' : tmps[p]?.getD undef = .pointer (some ⟨g, 0, none⟩) := by simpa using hp
  simp [results, h, hp', asAddr, run_loadVar_row w g ty ty cs (0, 0) d hb hu hd hi]

theorem info_frame : (Try.prog.info? 31).map (·.size) = some 2 := by kernel_rfl

set_option maxRecDepth 100000 in
set_option maxHeartbeats 2000000 in
theorem get_any (A : Option Addr) (n c : Nat) (l : List UInt8) (w : World) (hr : HasB w w.heap.size A n c l) :
    Calls Try.prog 14 #[.slice A n c] w (GetIs w (frGot l)) := by
  have hlen := Lib.hid hr.len
  by_cases h4 : n < 4
  · have H := Lib.hid (frGot_short (l := l) (by have := hlen.out; omega))
    go_enter Try.func14, Try.ntmps14
    go_wp2
    refine bodyPost_ret (results_block3 rfl _ _ w.heap.size _ _ rfl (Block.new _ _ _) Try.underlying31 rfl info_frame) rfl ?_
    rw [H.out]
    exact ⟨_, rfl, OwnB.nil_ _ _ _, (Below.refl _ _).alloc (Nat.le_refl _) _⟩
  · have hr1 := hr.alloc (Nat.le_refl _) (.cells #[.int .i64 0, .slice none 0 0] 31)
    have hbl : Block (w.alloc (.cells #[.int .i64 0, .slice none 0 0] 31)) w.heap.size 31 #[.int .i64 0, .slice none 0 0] := Block.new _ _ _
    have hbe : Below w.heap.size w (w.alloc (.cells #[.int .i64 0, .slice none 0 0] 31)) := (Below.refl _ _).alloc (Nat.le_refl _) _
    go_enter Try.func14, Try.ntmps14
    go_wp2_with fail
    refine (lengthOf_any _ _ _ _ _ _ hr1 (by omega)).mono ?_
    rintro e w1 ⟨rfl, q, ew1⟩
    have hr2 : HasB w1 w.heap.size A n c l := by rw [ew1]; exact hr1.drewN q
    have hbl2 : Block w1 w.heap.size 31 #[.int .i64 0, .slice none 0 0] := by rw [ew1]; exact hbl.drewN q
    have hbe2 : Below w.heap.size w w1 := by rw [ew1]; exact below_drewN hbe q
    clear ew1 hr hr1 hbl hbe
    have hc0 : w1.cell? ⟨w.heap.size, 0, none⟩ = some (.int .i64 0) := hbl2.cell 0
    have hc1 : w1.cell? ⟨w.heap.size, 1, none⟩ = some (.slice none 0 0) := hbl2.cell 1
    have hf0 := hbl2.free 0
    have hf1 := hbl2.free 1
    have hz1 : w.heap.size < w1.heap.size := hbl2.lt
    obtain ⟨m, hm⟩ : ∃ m, Hid (frLen l = m) := ⟨_, Lib.hid rfl⟩
    rw [hm.out]
    by_cases hfar : 65536 < m
    · have H := Lib.hid (frGot_far (l := l) (by have := hlen.out; omega) (by rw [hm.out]; exact hfar))
      go_wp2_with fail
      refine bodyPost_ret (results_block3 rfl _ _ w.heap.size _ _ rfl ((hbl2.set_ 0 _).set_ 1 _) Try.underlying31 rfl info_frame) rfl ?_
      rw [H.out]
      exact ⟨_, rfl, OwnB.nil_ _ _ _, (hbe2.setCell (p := ⟨w.heap.size, 0, none⟩) (Nat.le_refl _) _).setCell (p := ⟨w.heap.size, 1, none⟩) (Nat.le_refl _) _⟩
    · by_cases hcut : n < m + 9
      · have H := Lib.hid (frGot_cut (l := l) (by have := hlen.out; omega) (by rw [hm.out]; exact hfar) (by rw [hm.out, hlen.out]; exact hcut))
        go_wp2_with fail
        refine (size_any m (by omega) _).mono ?_
        rintro e w' ⟨rfl, rfl⟩
        go_wp2_with fail
        refine bodyPost_ret (results_block3 rfl _ _ w.heap.size _ _ rfl ((hbl2.set_ 0 _).set_ 1 _) Try.underlying31 rfl info_frame) rfl ?_
        rw [H.out]
        exact ⟨_, rfl, OwnB.nil_ _ _ _, (hbe2.setCell (p := ⟨w.heap.size, 0, none⟩) (Nat.le_refl _) _).setCell (p := ⟨w.heap.size, 1, none⟩) (Nat.le_refl _) _⟩
      · have hT := hr2.take_ (m + 9) (by omega)
        have hcap := hr2.cap
        have hcm := hr2.capMax
        obtain ⟨wb, hwb⟩ : ∃ wb, Hid (wholeB (l.take (m + 9)) = wb) := ⟨_, Lib.hid rfl⟩
        go_wp2_with fail
        refine (size_any m (by omega) _).mono ?_
        rintro e w' ⟨rfl, rfl⟩
        have hb1 : (0 : Int) ≤ (m : Int) + 9 := by omega
        have hb2 : (m : Int) + 9 ≤ (c : Int) := by omega
        go_wp2_with fail
        refine (whole_any _ _ _ _ _ (hT.more (Nat.le_of_lt hz1))).mono ?_
        rw [hwb.out]
        rintro e w2 ⟨rfl, hbw⟩
        have hr3 := hr2.below hbw (Nat.le_of_lt hz1)
        have hbl3 := hbl2.below hbw hz1
        have hbe3 := hbe2.trans (hbw.mono (Nat.le_of_lt hz1))
        clear hT hr2 hbl2 hbe2 hc0 hc1 hf0 hf1
        have hc0 : w2.cell? ⟨w.heap.size, 0, none⟩ = some (.int .i64 0) := hbl3.cell 0
        have hc1 : w2.cell? ⟨w.heap.size, 1, none⟩ = some (.slice none 0 0) := hbl3.cell 1
        have hf0 := hbl3.free 0
        have hf1 := hbl3.free 1
        have hz2 : w.heap.size < w2.heap.size := hbl3.lt
        cases wb
        · have H := Lib.hid (frGot_bad (l := l) (by have := hlen.out; omega) (by rw [hm.out]; exact hfar) (by rw [hm.out, hlen.out]; exact hcut) (by rw [hm.out]; exact hwb.out))
          go_wp2_with fail
          refine bodyPost_ret (results_block3 rfl _ _ w.heap.size _ _ rfl ((hbl3.set_ 0 _).set_ 1 _) Try.underlying31 rfl info_frame) rfl ?_
          rw [H.out]
          exact ⟨_, rfl, OwnB.nil_ _ _ _, (hbe3.setCell (p := ⟨w.heap.size, 0, none⟩) (Nat.le_refl _) _).setCell (p := ⟨w.heap.size, 1, none⟩) (Nat.le_refl _) _⟩
        · have H := Lib.hid (frGot_ok (l := l) (by have := hlen.out; omega) (by rw [hm.out]; exact hfar) (by rw [hm.out, hlen.out]; exact hcut) (by rw [hm.out]; exact hwb.out))
          obtain ⟨b, o, q4, hA, hb, hc4, hq4, e4⟩ := hr3.at_ (k := 4) (by omega)
          subst hA
          have hC : Hid (HasB w2 w.heap.size (some ⟨b, o + 5, none⟩) m (c - 5) ((l.drop 5).take m)) := Lib.hid (by
            rw [← add_flat]
            have h1 := cut_is (hr3.take_ (m + 5) (by omega)) (p := 5) (by omega) (by omega)
            rwa [show m + 5 - 5 = m from by omega, show (l.take (m + 5)).drop 5 = (l.drop 5).take m from by rw [List.drop_take, show m + 5 - 5 = m from by omega]] at h1)
          have hm4 : IntKind.i64.wrap ((m : Int) + 9 - 4) = (m : Int) + 5 := by rw [IntWalk.i64_in _ (by omega)]; omega
          have hq5 : IntKind.i64.wrap (q4 : Int) = (q4 : Int) := IntWalk.i64_in _ (by omega)
          have hm5 : (m : Int) + 5 ≤ (c : Int) := by omega
          have hm6 : (5 : Int) ≤ (m : Int) + 5 := by omega
          have hm7 : ((m : Int) + 5).toNat = m + 5 := by omega
          have hm8 : (4 : Int) < (n : Int) := by omega
          have hm9 : ¬ c = 5 := by omega
          have hm10 : m ≤ 140737488355328 := by omega
          have hm11 : (0 : Int) ≤ (m : Int) + 5 := by omega
          have hm12 : (5 : Int) ≤ (c : Int) := by omega
          go_wp2_with fail
          go_region_held3 (fun w' => w'.cell? ⟨b, o + 4, none⟩ = some (.int .u8 (q4 : Int)))
            (first
              | go_keep
              | exact hk4
              | exact (World.cell?_setCell_other _ ⟨w.heap.size, 1, none⟩ ⟨b, o + 4, none⟩ _ (fun e => by injection e; omega)).trans ((World.cell?_setCell_other _ ⟨w.heap.size, 0, none⟩ ⟨b, o + 4, none⟩ _ (fun e => by injection e; omega)).trans hk4))
            (first
              | (go_at_call 28; refine (clone_any _ _ _ _ _ (hC.out.drew.more (Nat.le_of_lt hz2)) hm10).mono ?_; rintro e w3 ⟨⟨v, rfl, ho⟩, hbc⟩; obtain ⟨A5, n5, c5, rfl, hv5, -⟩ := ho.formN; have hbl4 := Block.below (w := w2.drew) hbl3 hbc hz2; have hk4 := (hbc.cell (p := ⟨b, o + 4, none⟩) (Nat.lt_trans hb hz2)).trans hc4; have hk0 := hbl4.cell 0; have hk1 := hbl4.cell 1; have hg0 := hbl4.free 0; have hg1 := hbl4.free 1))
          have hF : OwnB ((w3.setCell ⟨w.heap.size, 0, none⟩ (.int .i64 (q4 : Int))).setCell ⟨w.heap.size, 1, none⟩ (.slice A5 n5 c5)) w.heap.size 5 (.slice A5 n5 c5) ((l.drop 5).take m) :=
            OwnB.low (ownsRow_setCell_below (ownsRow_setCell_below ho (a := ⟨w.heap.size, 0, none⟩) hz2 _) (a := ⟨w.heap.size, 1, none⟩) hz2 _) (Nat.le_of_lt hz2)
          have hG : Below w.heap.size w w3 := hbe3.drew.trans (hbc.mono (Nat.le_of_lt hz2))
          go_wp2_with fail
          refine bodyPost_ret (results_block3 rfl _ _ w.heap.size _ _ rfl ((hbl4.set_ 0 _).set_ 1 _) Try.underlying31 rfl info_frame) rfl ?_
          rw [H.out, hm.out, ← e4.out]
          exact ⟨_, rfl, hF, (hG.setCell (p := ⟨w.heap.size, 0, none⟩) (Nat.le_refl _) _).setCell (p := ⟨w.heap.size, 1, none⟩) (Nat.le_refl _) _⟩
end Go.Proofs.Ytpegmingmcedmaa
