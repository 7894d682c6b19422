/-
  Proved: whatever schema (at most 6 Dims, 9 Views, 6 Measures), whatever query that may be (a Group of at most 6, at most 5 Filters) and whatever number: the query without what it asks of one Dim, and without its last Filter, may be, too, and each view that plan.Covering tells of the former it tells of the latter; the example of the document holds, and nothing that was handed in changes. No condition.
-/
import Derived.Test.YtkablhecedcngaaGreatJ15
import Derived.Test.YtkablhecedcngaaGreatJ27
import Derived.Test.YtkablhecedcngaaGreatJ31
import Derived.Test.YtkablhecedcngaaGreatJ46
import Derived.Test.YtkablhecedcngaaGreatJ50
import Derived.Below
import Derived.ChangeOld
import Derived.OpenShut
import Derived.ProofKit
import Derived.ShutString
import Derived.Test.YtkablhecedcngaaGreatRows
import Derived.WalkKit
namespace Go.Proofs.YtkablhecedcngaaGreat.planLess
open Go.ChangeShapes Go.WideShapes Go.ChangeAt Go.RowKit
open Go.ChangeMaps (open_string shut_string)
set_option linter.unusedVariables false

theorem own : ownKnob Tryz.prog.godebug = none := by kernel_rfl
theorem laidOut : laidOutB Tryz.prog = true := by kernel_rfl

def IsRow (k : IntKind) (w : World) (a : Option Addr) (len cap : Nat) (zs : List Int) : Prop :=
  (a = none ∧ len = 0 ∧ cap = 0 ∧ zs = []) ∨
  ∃ x, a = some x ∧ len ≤ cap ∧ cap ≤ maxLen ∧ zs.length = cap ∧ (∀ i, i < zs.length → w.cell? (x.add i) = some (.int k (zs.getD i 0))) ∧ ∀ n ∈ zs, (Lit.int k n).wf = true

set_option maxRecDepth 100000 in
set_option maxHeartbeats 2000000 in
theorem walk (cs0 : Array Value) (cs1 : Array Value) (a2 : Int) (w : World) (w0 : RC Tryz.prog w 26 cs0.toList) (w1 : RC Tryz.prog w 30 cs1.toList) (w2 : (Lit.int .i64 a2).wf = true) :
    Calls Tryz.prog 6 #[.agg cs0, .agg cs1, .int .i64 a2] w fun e w' => e = .returned (.bool true) ∧ Below w.heap.size w w' := by
  obtain ⟨A1, n1, c1, A2, n2, c2, A3, n3, c3, D, M, V, es, hS, hf, hm⟩ := H9 w0
  obtain rfl : cs0 = #[.slice A1 n1 c1, .slice A2 n2 c2, .slice A3 n3 c3] := by rw [← Array.toArray_toList (xs := cs0), es]
  obtain ⟨A4, n4, c4, A5, n5, c5, q, eq, hQ, _⟩ := Ll w1
  obtain rfl : cs1 = #[.slice A4 n4 c4, .slice A5 n5 c5] := by rw [← Array.toArray_toList (xs := cs1), eq]
  obtain ⟨hd1, hd2⟩ := Kq w2
  clear w2
  clear w0 es w1 eq
  obtain ⟨hb0, hX, hY⟩ := Sw w 26 30 #[.slice A1 n1 c1, .slice A2 n2 c2, .slice A3 n3 c3] #[.slice A4 n4 c4, .slice A5 n5 c5]
  obtain ⟨N1, hN1⟩ : ∃ N1, min n1 6 = N1 := ⟨_, rfl⟩
  obtain ⟨N2, hN2⟩ : ∃ N2, min n2 6 = N2 := ⟨_, rfl⟩
  obtain ⟨N3, hN3⟩ : ∃ N3, min n3 9 = N3 := ⟨_, rfl⟩
  obtain ⟨N4, hN4⟩ : ∃ N4, min n4 6 = N4 := ⟨_, rfl⟩
  obtain ⟨N5, hN5⟩ : ∃ N5, min n5 5 = N5 := ⟨_, rfl⟩
  have l1 : N1 ≤ 1000 := by omega
  have l3 : N3 ≤ 1000 := by omega
  have l4 : N4 ≤ 6 := by omega
  obtain ⟨D', hD'⟩ : ∃ D', D.take 6 = D' := ⟨_, rfl⟩
  obtain ⟨M', hM'⟩ : ∃ M', M.take 6 = M' := ⟨_, rfl⟩
  obtain ⟨V', hV'⟩ : ∃ V', V.take 9 = V' := ⟨_, rfl⟩
  obtain ⟨q', hq'⟩ : ∃ q' : Qry, (q.1.take 6, q.2.take 5) = q' := ⟨_, rfl⟩
  have HfD : Hid (Sq D') := Lib.hid fun d hd => hf d (List.mem_of_mem_take (hD' ▸ hd))
  have HfM : Hid (∀ s ∈ M', s.length ≤ maxLen) := Lib.hid fun s hs => hm s (List.mem_of_mem_take (hM' ▸ hs))
  have KS : Hid (∀ z, Below w.heap.size w z → Wm z (fun b => b < z.heap.size) A1 N1 c1 A2 N2 c2 A3 N3 c3 D' M' V') := Lib.hid fun z hz => by
    rw [← hN1, ← hN2, ← hN3, ← hD', ← hM', ← hV']
    exact (show Wm w _ _ _ _ _ _ _ _ _ _ _ _ _ from ⟨hS.d.Uw 6, hS.m.Uw 6, hS.v.Uw 9⟩).mv (Mv.below hz fun b hb => hb) |>.mv (Mv.to z fun b _ hl => hl)
  have KQ : Hid (∀ z, Below w.heap.size w z → V0 z (fun b => b < w.heap.size) A4 N4 c4 A5 N5 c5 q') := Lib.hid fun z hz => by
    rw [← hN4, ← hN5, ← hq']
    exact (hQ.Uw 6 5).mv (Mv.below hz fun b hb => hb)
  have l5 : N5 ≤ 5 := by omega
  have HSM := Lib.hid (O1 ((hS.mv (Mv.below hb0 fun b hb => hb)).mv (R' := fun b => b < ((w.alloc (.cells #[.slice A1 n1 c1, .slice A2 n2 c2, .slice A3 n3 c3] 26)).alloc (.cells #[.slice A4 n4 c4, .slice A5 n5 c5] 30)).heap.size) (Mv.to _ fun b _ hl => hl)).has)
  have HQ0 := Lib.hid hQ
  clear hS hf hm hQ hD' hM' hV' hq'
  go_enter Tryz.func6, Tryz.ntmps6
  go_wp2_with fail
  generalize (w.alloc (.cells #[.slice A1 n1 c1, .slice A2 n2 c2, .slice A3 n3 c3] 26)).alloc (.cells #[.slice A4 n4 c4, .slice A5 n5 c5] 30) = w1 at hb0 hX hY HSM ⊢
  refine HSM.out.mono ?_
  rintro e w2 ⟨rfl, hb2⟩
  have hX2 := hX.below hb2 hX.lt
  have hY2 := hY.below hb2 hY.lt
  have x0 : w2.cell? ⟨w.heap.size, 0, none⟩ = some (.slice A1 n1 c1) := hX2.cell 0
  have x1 : w2.cell? ⟨w.heap.size, 1, none⟩ = some (.slice A2 n2 c2) := hX2.cell 1
  have x2 : w2.cell? ⟨w.heap.size, 2, none⟩ = some (.slice A3 n3 c3) := hX2.cell 2
  have f0 := hX2.free 0
  have f1 := hX2.free 1
  have f2 := hX2.free 2
  have hX3 := ((hX2.Yo 0 (.slice A1 (min n1 6) c1)).Yo 1 (.slice A2 (min n2 6) c2)).Yo 2 (.slice A3 (min n3 9) c3)
  have hY3 := ((hY2.Yl w.heap.size 0 (.slice A1 (min n1 6) c1) (by omega)).Yl w.heap.size 1 (.slice A2 (min n2 6) c2) (by omega)).Yl w.heap.size 2 (.slice A3 (min n3 9) c3) (by omega)
  have hB3 := (((hb0.trans (hb2.mono hb0.size)).setCell (p := ⟨w.heap.size, 0, none⟩) (Nat.le_refl _) (.slice A1 (min n1 6) c1)).setCell (p := ⟨w.heap.size, 1, none⟩) (Nat.le_refl _) (.slice A2 (min n2 6) c2)).setCell (p := ⟨w.heap.size, 2, none⟩) (Nat.le_refl _) (.slice A3 (min n3 9) c3)
  rw [hN1, hN2, hN3] at hX3 hY3 hB3
  rw [hN1, hN2, hN3]
  clear HSM hX hY hb0 hb2 hX2 hY2 hN1 hN2 hN3
  go_upto_region 2 with fail
  clear x0 x1 x2 f0 f1 f2
  generalize ((w2.setCell ⟨w.heap.size, 0, none⟩ (.slice A1 N1 c1)).setCell ⟨w.heap.size, 1, none⟩ (.slice A2 N2 c2)).setCell ⟨w.heap.size, 2, none⟩ (.slice A3 N3 c3) = w3 at hX3 hY3 hB3 ⊢
  have y0 : w3.cell? ⟨w.heap.size + 1, 0, none⟩ = some (.slice A4 n4 c4) := hY3.cell 0
  have y1 : w3.cell? ⟨w.heap.size + 1, 1, none⟩ = some (.slice A5 n5 c5) := hY3.cell 1
  have HFW := Lib.hid (Oi (HQ0.out.mv (S' := fun b => b < w.heap.size) (Mv.below hB3 fun b hb => hb)))
  go_wp2_with fail
  refine HFW.out.mono ?_
  rintro e w4 ⟨rfl, hb4⟩
  have hX4 := hX3.below hb4 hX3.lt
  have hY4 := hY3.below hb4 hY3.lt
  have y0 : w4.cell? ⟨w.heap.size + 1, 0, none⟩ = some (.slice A4 n4 c4) := hY4.cell 0
  have y1 : w4.cell? ⟨w.heap.size + 1, 1, none⟩ = some (.slice A5 n5 c5) := hY4.cell 1
  have f0 := hY4.free 0
  have f1 := hY4.free 1
  have hX5 := (hX4.Yl (w.heap.size + 1) 0 (.slice A4 (min n4 6) c4) (by omega)).Yl (w.heap.size + 1) 1 (.slice A5 (min n5 5) c5) (by omega)
  have hY5 := (hY4.Yo 0 (.slice A4 (min n4 6) c4)).Yo 1 (.slice A5 (min n5 5) c5)
  have hB5 := ((hB3.trans (hb4.mono hB3.size)).setCell (p := ⟨w.heap.size + 1, 0, none⟩) (Nat.le_succ _) (.slice A4 (min n4 6) c4)).setCell (p := ⟨w.heap.size + 1, 1, none⟩) (Nat.le_succ _) (.slice A5 (min n5 5) c5)
  rw [hN4, hN5] at hX5 hY5 hB5
  rw [hN4, hN5]
  clear HFW hX3 hY3 hB3 hb4 hX4 hY4 hN4 hN5 HQ0
  go_upto_region 3 with fail
  clear y0 y1 f0 f1
  generalize (w4.setCell ⟨w.heap.size + 1, 0, none⟩ (.slice A4 N4 c4)).setCell ⟨w.heap.size + 1, 1, none⟩ (.slice A5 N5 c5) = w5 at hX5 hY5 hB5 ⊢
  obtain ⟨x, hx⟩ : ∃ x, Hid (Wk D' M' V' q' = x) := ⟨_, Lib.hid rfl⟩
  have HC := Ve (KS.out w5 hB5).has HfD.out HfM.out l1 l3 (KQ.out w5 hB5)
  rw [hx.out] at HC
  have HC := Lib.hid HC
  have x0 : w5.cell? ⟨w.heap.size, 0, none⟩ = some (.slice A1 N1 c1) := hX5.cell 0
  have x1 : w5.cell? ⟨w.heap.size, 1, none⟩ = some (.slice A2 N2 c2) := hX5.cell 1
  have x2 : w5.cell? ⟨w.heap.size, 2, none⟩ = some (.slice A3 N3 c3) := hX5.cell 2
  have y0 : w5.cell? ⟨w.heap.size + 1, 0, none⟩ = some (.slice A4 N4 c4) := hY5.cell 0
  have y1 : w5.cell? ⟨w.heap.size + 1, 1, none⟩ = some (.slice A5 N5 c5) := hY5.cell 1
  go_wp2_with fail
  refine HC.out.mono ?_
  rintro e w6 ⟨v6, rfl, hO6, hb6⟩
  obtain ⟨A6, n6, c6, rfl, hI6, _⟩ := hO6.Yu
  have hX6 := hX5.below hb6 hX5.lt
  have hY6 := hY5.below hb6 hY5.lt
  have hB6 := hB5.trans (hb6.mono hB5.size)
  clear HC hX5 hY5 hB5 hb6 hO6 x0 x1 x2 y0 y1
  have y0 : w6.cell? ⟨w.heap.size + 1, 0, none⟩ = some (.slice A4 N4 c4) := hY6.cell 0
  have y1 : w6.cell? ⟨w.heap.size + 1, 1, none⟩ = some (.slice A5 N5 c5) := hY6.cell 1
  by_cases hx0 : x = 0
  · subst hx0
    by_cases hg : (N4 : Int) < 1
    · clear hX6 hY6 hI6
      go_wp2_with fail
      refine (Zt _).mono ?_
      rintro e vz ⟨rfl, hbz⟩
      have HF := Lib.hid (hB6.trans (hbz.mono hB6.size))
      clear hbz hB6
      go_wp2_with fail
      go_ret
      exact ⟨rfl, HF.out⟩
    · have HI6 : Hid (Yx w6 w6.heap.size A6 n6 c6 (Vd D' V' q')) := Lib.hid (by rw [← Tp hx.out]; exact hI6)
      have HX6 := Lib.hid hX6
      have HY6 := Lib.hid hY6
      have HB6 := Lib.hid hB6
      clear hX6 hY6 hB6 hI6
      go_upto_if 35 with fail
      go_cut [2] (fun s2 wx => ∃ d : Int, s2 = .int .i64 d ∧ 0 ≤ d ∧ d ≤ 9223372036854775807 ∧ w6 = wx)
      case first =>
        by_cases h : a2 < 0
        · have e1 : IntKind.i64.wrap (a2 + 1) = a2 + 1 := by rw [IntKind.wrap_i64]; omega
          have e2 : IntKind.i64.wrap (-(a2 + 1)) = -(a2 + 1) := by rw [IntKind.wrap_i64]; omega
          go_wp2_with fail
          go_meet
          exact ⟨_, rfl, by omega, by omega, rfl⟩
        · go_wp2_with fail
          go_meet
          exact ⟨_, rfl, by omega, by omega, rfl⟩
      case rest =>
        obtain ⟨d, rfl, hd0, hd9, rfl⟩ := hcut
        clear y0 y1 hd1 hd2
        have hb7 := Ya w6 (.cells #[.slice none 0 0, .slice none 0 0] 30)
        have hL7 := Block.new w6 30 #[.slice none 0 0, .slice none 0 0]
        go_upto_region 9 with fail
        generalize w6.alloc (.cells #[.slice none 0 0, .slice none 0 0] 30) = w7 at hb7 hL7 ⊢
        have hzw : w6.heap.size + 1 ≤ w7.heap.size := hL7.lt
        have hY7 := HY6.out.below hb7 HY6.out.lt
        have hB7 := HB6.out.trans (hb7.mono HB6.out.size)
        have l0 : w7.cell? ⟨w6.heap.size, 0, none⟩ = some (.slice none 0 0) := hL7.cell 0
        have y0 : w7.cell? ⟨w.heap.size + 1, 0, none⟩ = some (.slice A4 N4 c4) := hY7.cell 0
        have hg7 := (KQ.out w7 hB7).g.Qr
        have hn4 : Hid (q'.1.length = N4) := Lib.hid hg7.len
        have hn5 : Hid (q'.2.length = N5) := Lib.hid (KQ.out w7 hB7).f.len
        have hby : Hid ((([] : List Int).length + N4) * 8 ≤ 140737488355328) := Lib.hid (by simp; omega)
        go_wp2_with (at_builtin; refine Q7 rfl _ _ rfl w7.heap.size (.slice none 0 0) [] rfl (Yf.Zj _ _) _ A4 N4 c4 q'.1 rfl hg7 hby.out (Nat.le_refl _) ?_)
        intro v8 w8 hO8 hG8
        obtain ⟨gb, cap, rfl, hgb, hgl⟩ : ∃ g cap, v8 = .slice (some ⟨g, 0, none⟩) N4 cap ∧ w7.heap.size ≤ g ∧ g < w8.heap.size := by
          obtain ⟨g, cap, e, h1, h2, _⟩ := hO8.C4 (by rw [hn4.out]; omega)
          exact ⟨g, cap, by rw [e, hn4.out], h1, h2⟩
        have hb8 := hG8.Y4 (Nat.le_refl _) (fun k hk => by cases hk)
        have hL8 := hL7.below hb8 hL7.lt
        have l0 : w8.cell? ⟨w6.heap.size, 0, none⟩ = some (.slice none 0 0) := hL8.cell 0
        have lf0 := hL8.free 0
        have hO9 : Yf (w8.setCell ⟨w6.heap.size, 0, none⟩ (.slice (some ⟨gb, 0, none⟩) N4 cap)) w7.heap.size (.slice (some ⟨gb, 0, none⟩) N4 cap) q'.1 := hO8.other (fun e => by injection e with e; simp only at e; omega) _
        have hL9 := hL8.Yo 0 (.slice (some ⟨gb, 0, none⟩) N4 cap)
        have hB9 := (hb7.trans (hb8.mono hb7.size)).setCell (p := ⟨w6.heap.size, 0, none⟩) (Nat.le_refl _) (.slice (some ⟨gb, 0, none⟩) N4 cap)
        have hgl9 : gb < (w8.setCell ⟨w6.heap.size, 0, none⟩ (.slice (some ⟨gb, 0, none⟩) N4 cap)).heap.size := by simpa [World.setCell] using hgl
        clear y0 hY7 hB7 hg7 hby hO8 hG8 hb8 hL8 hL7 hb7 hgl
        go_upto_region 10 with fail
        clear l0 lf0
        generalize w8.setCell ⟨w6.heap.size, 0, none⟩ (.slice (some ⟨gb, 0, none⟩) N4 cap) = w9 at hO9 hL9 hB9 hgl9 ⊢
        obtain ⟨t, ht, htm⟩ : ∃ t : Nat, t < N4 ∧ d.tmod (N4 : Int) = (t : Int) := by
          have h1 := Int.emod_nonneg d (show (N4 : Int) ≠ 0 by omega)
          have h2 := Int.emod_lt_of_pos d (show 0 < (N4 : Int) by omega)
          exact ⟨(d % (N4 : Int)).toNat, by omega, by rw [Int.tmod_eq_emod_of_nonneg hd0]; omega⟩
        have m0 : w9.cell? ⟨w6.heap.size, 0, none⟩ = some (.slice (some ⟨gb, 0, none⟩) N4 cap) := hL9.cell 0
        have c0 := hO9.Jr t (by rw [hn4.out]; exact ht)
        have c1 := hO9.free t
        have i0 : (0 : Int) ≤ (t : Int) := by omega
        have i1 : (t : Int) < (N4 : Int) := by omega
        have n0 : ¬ N4 = 0 := by omega
        have hO10 : Yf (w9.setCell ⟨gb, t, none⟩ (.int .i64 0)).drew w7.heap.size (.slice (some ⟨gb, 0, none⟩) N4 cap) (q'.1.set t 0) := (hO9.Yo t 0).drewN 1
        have hL10 : Block (w9.setCell ⟨gb, t, none⟩ (.int .i64 0)).drew w6.heap.size 30 #[.slice (some ⟨gb, 0, none⟩) N4 cap, .slice none 0 0] := hL9.Yl gb t (.int .i64 0) (by omega)
        have hB10 : Below w6.heap.size w6 (w9.setCell ⟨gb, t, none⟩ (.int .i64 0)).drew := (hB9.setCell (p := ⟨gb, t, none⟩) (show w6.heap.size ≤ gb by omega) _).drew
        go_still_tail 8, (by kernel_rfl)
        change wpList _ _ _ _ _ w9.drew
        clear hO9 hL9 hB9
        go_upto_region 11 with fail
        clear m0 c0 c1 htm i0 i1
        generalize (w9.setCell ⟨gb, t, none⟩ (.int .i64 0)).drew = w10 at hO10 hL10 hB10 ⊢
        have hY10 := HY6.out.below hB10 HY6.out.lt
        have y1 : w10.cell? ⟨w.heap.size + 1, 1, none⟩ = some (.slice A5 N5 c5) := hY10.cell 1
        have l0 : w10.cell? ⟨w6.heap.size, 0, none⟩ = some (.slice (some ⟨gb, 0, none⟩) N4 cap) := hL10.cell 0
        have l1' : w10.cell? ⟨w6.heap.size, 1, none⟩ = some (.slice none 0 0) := hL10.cell 1
        have hBw10 := HB6.out.trans (hB10.mono HB6.out.size)
        go_upto_if 56 with fail
        go_cut [9] (fun s9 wx => s9 = .pointer (some ⟨w6.heap.size, 0, none⟩) ∧ ∃ (Af : Option Addr) (m cf : Nat), V0 wx (fun b => b < wx.heap.size) (some ⟨gb, 0, none⟩) N4 cap Af m cf (V3 q' t) ∧ Block wx w6.heap.size 30 #[.slice (some ⟨gb, 0, none⟩) N4 cap, .slice Af m cf] ∧ Below w6.heap.size w6 wx)
        case first =>
          by_cases hF : (0 : Int) < (N5 : Int)
          · obtain ⟨m, hm⟩ : ∃ m : Nat, N5 = m + 1 := ⟨N5 - 1, by omega⟩
            have hf10 := (KQ.out w10 hBw10).f
            have hcap5 := hf10.cap
            have hcm5 := hf10.Z1
            have HF10 : Hid (Row Q8 3 w10.drew (fun b => b < w.heap.size) A5 m c5 (q'.2.take m)) := Lib.hid ((hf10.R8 (k := m) (by omega)).mv Xy (Mv.drewN w10 1 _))
            have HD : Hid (q'.2.take m = q'.2.dropLast) := Lib.hid (by rw [List.dropLast_eq_take, hn5.out, hm]; rfl)
            have HLm : Hid ((q'.2.take m).length = m) := Lib.hid (by rw [List.length_take, hn5.out]; omega)
            have HON : Hid (∀ S us y, Q8 w10.drew S us y → us.length = 3 → ∀ u ∈ us, u.oneCell' = true) := Lib.hid fun S us y h _ => by
              obtain ⟨A, n, c, rfl, _⟩ := Fk h
              exact Yrh _ _ _ _ _
            have HL10 := Lib.hid hL10
            have HO10 := Lib.hid hO10
            have HB10 := Lib.hid hB10
            have HM0 : Hid (m ≤ 1000000) := Lib.hid (by omega)
            have e5 : (N5 : Int) - 1 = (m : Int) := by omega
            have e6 : IntKind.i64.wrap (m : Int) = (m : Int) := by rw [IntKind.wrap_i64]; omega
            have j0 : (0 : Int) ≤ (m : Int) := by omega
            have j1 : (m : Int) ≤ (N5 : Int) := by omega
            have j2 : (m : Int) ≤ (c5 : Int) := by omega
            have hzz : Hid (w10.heap.size ≤ w10.drew.heap.size) := Lib.hid (Nat.le_refl _)
            have HN5 := Lib.hid hm
            clear hf10 hL10 hO10 hB10 hBw10 hY10 hm
            go_wp2_with fail
            go_region_law (refine Yeu Xy rfl _ _ rfl Ydd Tryz.underlying28 rfl (by decide) w10.heap.size rfl rfl HF10.out HON.out HM0.out hzz.out ?_; intro v11 w11 hO11 hG11; obtain ⟨Af, cf, e11⟩ := hO11.shape; rw [HLm.out] at e11; subst e11; have hb11 := hG11.Y4 (base := w10.heap.size) hzz.out (fun k hk => by cases hk); have hL11 := HL10.out.below (show Below w10.heap.size w10 w11 from (below_drewN (Below.refl _ w10) 1).trans hb11) HL10.out.lt; have f11 := hL11.free 1; have k11 : w11.cell? ⟨w6.heap.size, 1, none⟩ = some (.slice none 0 0) := hL11.cell 1)
            all_goals
              have hb1 : Below w10.heap.size w10 w11 := (below_drewN (Below.refl _ w10) 1).trans hb11
              have hlz := HL10.out.lt
              have hO12 := (HO10.out.below hb1 (Nat.le_refl _)).other (g := w6.heap.size) (j := 1) (fun e => by injection e with e; simp only at e; omega) (.slice Af m cf)
              have hL12 := hL11.Yo 1 (.slice Af m cf)
              have hB12 := (HB10.out.trans (hb1.mono HB10.out.size)).setCell (p := ⟨w6.heap.size, 1, none⟩) (Nat.le_refl _) (.slice Af m cf)
              obtain ⟨A', c', e', hR⟩ := hO11.read Xy
              rw [HLm.out] at e' hR
              injection e' with e1' _ e3'
              subst e1' e3'
              have hf12 := hR.mv Xy (Mv.set w11 w6.heap.size 1 (.slice Af m cf) (fun h => by
                have h6 := HB6.out.size
                rcases h with h | ⟨h, _⟩
                · omega
                · omega))
              have hq12 : V0 (w11.setCell ⟨w6.heap.size, 1, none⟩ (.slice Af m cf)) (fun b => b < (w11.setCell ⟨w6.heap.size, 1, none⟩ (.slice Af m cf)).heap.size) (some ⟨gb, 0, none⟩) N4 cap Af m cf (V3 q' t) := ⟨hO12.has.row, by rw [show (V3 q' t).2 = q'.2.take m from HD.out.symm]; exact hf12.mv Xy (Mv.to _ fun b _ hl => hl)⟩
              clear hO12 hR hf12 hO11 hG11 hb11 hL11 f11 k11 l0 l1' y1 hb1
              go_wp2_with fail
              go_meet
              exact ⟨rfl, Af, m, cf, hq12, hL12, hB12⟩
          · have hq10 : V0 w10 (fun b => b < w10.heap.size) (some ⟨gb, 0, none⟩) N4 cap none 0 0 (V3 q' t) := ⟨hO10.has.row, by rw [show (V3 q' t).2 = [] from by show q'.2.dropLast = []; rw [List.dropLast_eq_take, List.length_eq_zero_iff.1 (show q'.2.length = 0 by rw [hn5.out]; omega)]; rfl]; exact Row.none_ _ _⟩
            clear hO10 hY10 hBw10
            go_wp2_with fail
            go_meet
            exact ⟨rfl, none, 0, 0, hq10, hL10, hB10⟩
        case rest =>
          obtain ⟨rfl, Af, m, cf, hq12, hL12, hB12⟩ := hcut
          clear hO10 hL10 hB10 hY10 y1 l0 l1' hBw10
          have hBB := HB6.out.trans (hB12.mono HB6.out.size)
          have HC2 := Ve (KS.out wc hBB).has HfD.out HfM.out l1 l3 hq12
          rw [Ydy hx.out, Tp (Ydy hx.out)] at HC2
          have HC2 := Lib.hid HC2
          have hXW := HX6.out.below hB12 HX6.out.lt
          have HI6W := HI6.out.below hB12 (Nat.le_refl _)
          have hzB := hB12.size
          have x0 : wc.cell? ⟨w.heap.size, 0, none⟩ = some (.slice A1 N1 c1) := hXW.cell 0
          have x1 : wc.cell? ⟨w.heap.size, 1, none⟩ = some (.slice A2 N2 c2) := hXW.cell 1
          have x2 : wc.cell? ⟨w.heap.size, 2, none⟩ = some (.slice A3 N3 c3) := hXW.cell 2
          have m0 : wc.cell? ⟨w6.heap.size, 0, none⟩ = some (.slice (some ⟨gb, 0, none⟩) N4 cap) := hL12.cell 0
          have m1 : wc.cell? ⟨w6.heap.size, 1, none⟩ = some (.slice Af m cf) := hL12.cell 1
          clear hL12 hq12 hB12 hXW
          go_wp2_with fail
          refine HC2.out.mono ?_
          rintro e w14 ⟨v14, rfl, hO14, hb14⟩
          obtain ⟨A14, n14, c14, rfl, hI14, _⟩ := hO14.Yu
          have hB14 := hBB.trans (hb14.mono hBB.size)
          have hI6 := HI6W.below hb14 hzB
          have hm6 := hI6.Yn
          have hm14 := hI14.Yn
          have HL14 : Hid ((Vd D' V' (V3 q' t)).length = n14) := Lib.hid hI14.len
          clear HC2 HI6W hBB hb14 hO14 x0 x1 x2 m0 m1
          go_wp2_with fail
          go_loopw [12] (fun i wr => ∃ k t' : Nat, k ≤ n6 ∧ i = .int .i64 k ∧ wr = w14.drewN t') (fun i _ => n6 - (intOf i).toNat)
          case atStart => exact ⟨0, 0, Nat.zero_le _, rfl, rfl⟩
          case round =>
            obtain ⟨k, t', hk, rfl, rfl⟩ := hrel
            by_cases hlt : k < n6
            · obtain ⟨b, o, u, rfl, g0, hu⟩ := (hI6.drewN t').get hlt
              have i0 : (0 : Int) ≤ (k : Int) := by omega
              have i1 : (k : Int) < (n6 : Int) := by omega
              have HUM : Hid (u ∈ Vd D' V' (V3 q' t)) := Lib.hid (Yn3 (Wv hx.out).2.1 (List.mem_of_getElem? hu.out))
              go_wp2_with fail
              go_loopw [13, 14] (fun bv i wr => ∃ k2 t2 : Nat, k2 ≤ n14 ∧ i = .int .i64 k2 ∧ bv = .bool (decide (u ∈ (Vd D' V' (V3 q' t)).take k2)) ∧ wr = w14.drewN t2) (fun _ i _ => n14 - (intOf i).toNat)
              case atStart => exact ⟨0, t', Nat.zero_le _, rfl, by simp, rfl⟩
              case round =>
                obtain ⟨k2, t2, hk2, rfl, rfl, rfl⟩ := hrel
                by_cases hl2 : k2 < n14
                · obtain ⟨b2, o2, u2, rfl, g1, hu2⟩ := hI14.get hl2
                  have g2 : w14.cell? ⟨b, o + k, none⟩ = some (.int .i64 u) := g0
                  have j0 : (0 : Int) ≤ (k2 : Int) := by omega
                  have j1 : (k2 : Int) < (n14 : Int) := by omega
                  by_cases hmm : u ∈ (Vd D' V' (V3 q' t)).take k2
                  · have HM : Hid (decide (u ∈ (Vd D' V' (V3 q' t)).take (k2 + 1)) = true) := Lib.hid (decide_eq_true (by rw [← Z4 hu2.out]; exact List.mem_append_left _ hmm))
                    rw [decide_eq_true hmm]
                    clear hmm
                    go_wp2_with fail
                    go_big_quiet (fail)
                    go_wp2_with fail
                    go_roundw
                    case rel => exact ⟨k2 + 1, _, by omega, by go_num, by rw [HM.out], by first | rfl | rw [World.drewN_drewN]⟩
                    case measure => simp [intOf]; omega
                  · rw [decide_eq_false hmm]
                    by_cases hjj : u = u2
                    · have HM : Hid (decide (u ∈ (Vd D' V' (V3 q' t)).take (k2 + 1)) = true) := Lib.hid (decide_eq_true (by rw [← Z4 hu2.out, hjj]; exact List.mem_append_right _ (List.mem_singleton.2 rfl)))
                      have q0 : (u == u2) = true := by rw [beq_iff_eq]; exact hjj
                      clear hmm hjj
                      go_wp2_with fail
                      go_big_quiet (fail)
                      go_wp2_with fail
                      go_roundw
                      case rel => exact ⟨k2 + 1, _, by omega, by go_num, by rw [HM.out], by first | rfl | rw [World.drewN_drewN]⟩
                      case measure => simp [intOf]; omega
                    · have HM : Hid (decide (u ∈ (Vd D' V' (V3 q' t)).take (k2 + 1)) = false) := Lib.hid (decide_eq_false (by rw [← Z4 hu2.out, List.mem_append, List.mem_singleton]; intro h; rcases h with h | h; exact hmm h; exact hjj h))
                      have q0 : (u == u2) = false := by rw [beq_eq_false_iff_ne]; exact hjj
                      clear hmm hjj
                      go_wp2_with fail
                      go_big_quiet (fail)
                      go_wp2_with fail
                      go_roundw
                      case rel => exact ⟨k2 + 1, _, by omega, by go_num, by rw [HM.out], by first | rfl | rw [World.drewN_drewN]⟩
                      case measure => simp [intOf]; omega
                · obtain rfl : k2 = n14 := by omega
                  rw [List.take_of_length_le (by rw [HL14.out]; exact Nat.le_refl _), decide_eq_true HUM.out]
                  go_wp2_with fail
                  go_roundw
                  case rel => exact ⟨k + 1, t2, by omega, by go_num, rfl⟩
                  case measure => simp [intOf]; omega
            · obtain rfl : k = n6 := by omega
              have hB15 := below_drewN hB14 t'
              clear hB14 hI14 hI6
              go_wp2_with fail
              refine (Zt _).mono ?_
              rintro e vz ⟨rfl, hbz⟩
              have HF := Lib.hid (hB15.trans (hbz.mono hB15.size))
              clear hbz hB15
              go_wp2_with fail
              go_ret
              exact ⟨rfl, HF.out⟩
  · have hx1 : ((x : Int) != 0) = true := by simp; omega
    clear hx0 hX6 hY6 hI6
    go_wp2_with fail
    refine (Zt _).mono ?_
    rintro e vz ⟨rfl, hbz⟩
    have HF := Lib.hid (hB6.trans (hbz.mono hB6.size))
    clear hbz hB6
    go_wp2_with fail
    go_ret
    exact ⟨rfl, HF.out⟩

set_option maxRecDepth 100000 in
theorem lifted (os : Os) (started : os.Started) (H : Type) (enc : TypeId × Value → H) :
    ReturnsInHanded {} Tryz.checked os 6 .any (Rows.planLessSpec.pre6 enc Tryz.prog Tryz.f6 Rows.planLessRow.domain false) (Rows.planLessSpec.post enc Tryz.prog Tryz.f6 false true false false) := by
  refine returnsInHanded_of_change (C := Tryz.checked) own started (by kernel_rfl) Tryz.func6
    (ChangeSpec.witness6 (enc := enc) (C := Tryz.checked) false ⟨#[], #[.agg #[.slice none 0 0, .slice none 0 0, .slice none 0 0], .agg #[.slice none 0 0, .slice none 0 0], .int .i64 0], []⟩ 8 (by kernel_rfl) (by kernel_rfl) (by kernel_rfl) (by kernel_rfl)) ?_
  intro W base args ds gs before hval0 hW hcnd _
  have hval : ∀ (j : Nat) t v, Tryz.f6.params[j]? = some t → args[j]? = some v → Value.okWide Tryz.prog W .any base t v := hval0
  have hW' := hW
  obtain ⟨p, q, hA0, hV, rfl, hfz, hnd⟩ := hW
  have hA : DataW.TrodAll enc Tryz.prog W 0 (fun _ => true) true Tryz.f6.params.toList args.toList ds p := hA0
  rw [Tryz.params6] at hA hval
  obtain ⟨v0, vs0, d0, ds0, p0, q0, hargs, rfl, rfl, h0, r0⟩ := trodAll_cons hA
  obtain ⟨v1, vs1, d1, ds1, p1, q1, rfl, rfl, rfl, h1, r1⟩ := trodAll_cons r0
  obtain ⟨v2, vs2, d2, ds2, p2, q2, rfl, rfl, rfl, h2, r2⟩ := trodAll_cons r1
  obtain ⟨rfl, rfl, rfl⟩ := trodAll_nil r2
  obtain rfl : args = #[v0, v1, v2] := by cases args; simp_all
  obtain ⟨rfl, rfl⟩ := trodVars_none hV
  obtain ⟨cs0, rfl, hsz0⟩ := okWide_struct Tryz.underlying26 (hval 0 26 v0 rfl rfl)
  have k0 := h0
  have lt0 : ∀ x ∈ p0, x.block < W.heap.size := by obtain ⟨m, hm⟩ := k0; exact DataW.trod_lt m _ _ _ hm
  have w0 : RC Tryz.prog W 26 cs0.toList := by
    obtain ⟨fuel, hf⟩ := h0
    exact ⟨_, _, _, _, _, fuel, _, by simpa [Value.cells] using hf⟩
  obtain ⟨cs1, rfl, hsz1⟩ := okWide_struct Tryz.underlying30 (hval 1 30 v1 rfl rfl)
  have k1 := h1
  have lt1 : ∀ x ∈ p1, x.block < W.heap.size := by obtain ⟨m, hm⟩ := k1; exact DataW.trod_lt m _ _ _ hm
  have w1 : RC Tryz.prog W 30 cs1.toList := by
    obtain ⟨fuel, hf⟩ := h1
    exact ⟨_, _, _, _, _, fuel, _, by simpa [Value.cells] using hf⟩
  obtain ⟨a2, rfl, rfl, rfl, w2⟩ := open_int Tryz.underlying3 (hval 2 3 v2 rfl rfl) h2
  clear hA0 hval0
  refine (walk cs0 cs1 a2 W w0 w1 w2).mono fun e W' ⟨he, bel⟩ => ?_
  subst he
  exact ⟨_, rfl, _, _, _, [], _, [], hW', trodAll_mk1 (shut_bool Tryz.underlying4 _), (trodAll_cons_mk (Below.trod laidOut (by kernel_rfl) (of_decide_eq_true (by kernel_rfl)) k0 bel lt0) (trodAll_cons_mk (Below.trod laidOut (by kernel_rfl) (of_decide_eq_true (by kernel_rfl)) k1 bel lt1) (trodAll_cons_mk (shut_int Tryz.underlying3 w2) trodAll_mk0))), rfl, bel.frame _, fun h => by cases h⟩

theorem over : Rows.planLessRow.holds Tryz.pinned (OpenSpec.ofChange Rows.planLessSpec) :=
  OpenClaim.holds_of_wide 6 Tryz.f6 rfl rfl rfl rfl rfl rfl rfl ⟨rfl, rfl, rfl, rfl, rfl⟩ rfl rfl rfl rfl rfl (by kernel_rfl) Tryz.func6 (by kernel_rfl)
    (of_decide_eq_true (by kernel_rfl)) (by unfold Func.isWrapper; first | (rw [if_pos (by decide +kernel)]; kernel_rfl) | (rw [if_neg (by decide +kernel)]; exact ⟨rfl, rfl⟩))
    (fun os started H enc _ => lifted os started H enc)

theorem proved : Rows.PlanLessSaid := over
end Go.Proofs.YtkablhecedcngaaGreat.planLess
