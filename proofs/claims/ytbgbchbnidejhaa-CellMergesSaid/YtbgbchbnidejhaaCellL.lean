/- Layer 5: what the statements make: few, the document's examples. -/
import Derived.Test.YtbgbchbnidejhaaCellF
import Derived.Test.YtbgbchbnidejhaaCellRS
import Derived.Deep.DeepCutAuto
namespace Go.Proofs.Ytbgbchbnidejhaa
open Go.RowKit

theorem info_ints : (Try.prog.info? 24).map (fun i => (i.zero, i.size, i.bytes)) = some (some (.slice none 0 0), 1, 24) := by kernel_rfl
theorem cell_one_at5 (w : World) (x : Value) (t : TypeId) (g : Nat) (hg : g = w.heap.size) : ∀ j u, [x][j]? = some u → (w.alloc (.cells #[x] t)).cell? ((⟨g, 0, none⟩ : Addr).add j) = some u := by
  intro j u hj
  subst hg
  match j, hj with
  | 0, hj => simp at hj; subst hj; simp [Addr.add]
  | (j + 1), hj => simp at hj
theorem one_slice (A : Option Addr) (n c : Nat) : ∀ u ∈ [Value.slice A n c], u.oneCell' = true := by
  intro u hu
  simp at hu
  subst hu
  rfl
/-- What lies below was so before. -/
theorem HasI.back {w w' : World} {C n c : Nat} {A : Option Addr} {l : List Int} (h : HasI w' C A n c l) (hb : Below C w w') : HasI w C A n c l :=
  h.keep fun b o hp => (hb.cell (p := ⟨b, o, none⟩) hp).symm
/-- The first m of them, of each the first five. -/
def fewL (L : List (List Int)) (m : Nat) : List (List Int) := (L.take m).map fun l => l.take 5
theorem fewL_snoc {L : List (List Int)} {k : Nat} (h : k < L.length) : fewL L k ++ [(L.getD k []).take 5] = fewL L (k + 1) := by
  unfold fewL
  rw [List.take_add_one (i := k), List.map_append, List.getD_eq_getElem?_getD, List.getElem?_eq_getElem h]
  rfl
theorem fewL_length {L : List (List Int)} {k : Nat} (h : k ≤ L.length) : (fewL L k).length = k := by simp [fewL]; omega
set_option maxRecDepth 100000 in
set_option maxHeartbeats 2000000 in
theorem fewL_any {A : Option Addr} {n c : Nat} {L : List (List Int)} {w : World} (h : HasL w w.heap.size A n c L) (m : Nat) (hm : m ≤ 1000) :
    Calls Try.prog 10 #[.slice A n c, .int .i64 (m : Int)] w fun e w' => (∃ A' n' c', e = .returned (.slice A' n' c') ∧ HasL w' w'.heap.size A' n' c' (fewL L m) ∧ n' ≤ m) ∧ Below w.heap.size w w' := by
  have hcap := h.cap
  have hcm := h.capMax
  have hll := Lib.hid h.len
  go_enter Try.func10, Try.ntmps10
  go_upto_if 11 with fail
  go_cut [0] (fun s0 wx => ∃ p : Nat, s0 = .slice A p c ∧ p ≤ m ∧ p ≤ n ∧ Hid (fewL L p = fewL L m) ∧ wx = w)
  case first =>
    by_cases hc : (m : Int) < (n : Int)
    · have h2 : (m : Int) ≤ (c : Int) := by omega
      have h3 : (0 : Int) ≤ (m : Int) := by omega
      go_wp2_with fail
      go_meet
      exact ⟨m, rfl, Nat.le_refl _, by omega, Lib.hid rfl, rfl⟩
    · go_wp2_with fail
      go_meet
      exact ⟨n, rfl, by omega, Nat.le_refl _, Lib.hid (by unfold fewL; rw [List.take_of_length_le (by rw [hll.out]; exact Nat.le_refl _), List.take_of_length_le (by rw [hll.out]; omega)]), rfl⟩
  case rest =>
    obtain ⟨p, rfl, hpm, hpn, hF, rfl⟩ := hcut
    obtain ⟨w0, rfl⟩ : ∃ w0, w0 = wc := ⟨_, rfl⟩
    go_wp2_with fail
    go_loopw [5, 6] (fun v i wr => ∃ (k : Nat) (v' : Value), k ≤ p ∧ i = .int .i64 k ∧ v = v' ∧ OwnL wr w0.heap.size w0.heap.size 24 v' (fewL L k) ∧ Below w0.heap.size w0 wr) (fun _ i _ => p - (intOf i).toNat)
    case atStart => exact ⟨0, _, Nat.zero_le _, rfl, rfl, OwnL.nil_ _ _ _ _, Below.refl _ _⟩
    case round =>
      obtain ⟨k, v', hk, rfl, rfl, hO, hbe⟩ := hrel
      by_cases hlt : k < p
      · obtain ⟨b, o, A', n', c', l, rfl, hb, g0, hl, he⟩ := (h.below hbe (Nat.le_refl _)).at_ (show k < n by omega)
        have i0 : (0 : Int) ≤ (k : Int) := by omega
        have i1 : (k : Int) < (p : Int) := by omega
        have hz := hbe.size
        obtain ⟨xs, hown, hxs⟩ := hO
        obtain ⟨i9, hi9, hz0, hz1, hz2⟩ := info_parts info_ints
        have hcl := hl.cap
        have hcml := hl.capMax
        obtain ⟨N, hN, hNk⟩ : ∃ N, Hid ((fewL L k).length = N) ∧ N ≤ 1000 := ⟨_, Lib.hid rfl, by rw [fewL_length (by rw [hll.out]; omega)]; omega⟩
        rw [hN.out] at hown
        have hfl : Hid (fewL L k ++ [l.take 5] = fewL L (k + 1)) := Lib.hid (by rw [he.out]; exact fewL_snoc (by rw [hll.out]; omega))
        have hlo := fun q e => (hown.lt q e).1
        by_cases h5 : (5 : Int) < (n' : Int)
        · have h6 : (5 : Int) ≤ (c' : Int) := by omega
          go_wp2_with (at_builtin; refine wpList_append_own _ rfl _ _ 22 rfl w0.heap.size 24 i9 _ 1 24 Try.underlying22 hi9 hz0 hz1 hz2 rfl (by decide) _ N xs rfl (hown.alloc _) _ 1 1 [.slice A' 5 c'] rfl rfl (cell_one_at5 _ _ _ _ rfl) (one_slice _ _ _) (by unfold maxLen; omega) (by omega) (by rw [World.size_alloc]; omega) ?_)
          intro u wj hown6 hgrow6 _
          have hbj : Below w0.heap.size w0 wj := (hbe.alloc hz _).grown hgrow6 (by rw [World.size_alloc]; omega) (fun q e => hlo q e)
          rw [← hN.out] at hown6 hown
          have hst := Lib.hid (OwnL.snoc (w := w0) (w' := wj) (C := w0.heap.size) (l := l.take 5) (fun i l' hi => by
            obtain ⟨A2, n2, c2, e2, h2⟩ := hxs i l' hi
            exact ⟨A2, n2, c2, e2, h2.back hbe⟩) (by rw [hown.1, Nat.mul_one]) ((hl.back hbe).take_ 5 (by omega)) hown6 (fun b o hb => hbj.cell (p := ⟨b, o, none⟩) hb))
          rw [hfl.out] at hst
          have hBj := Lib.hid hbj
          clear hown6 hgrow6 hown hxs hl hbj hfl g0 hlo
          go_wp2_with fail
          go_roundw
          case rel => exact ⟨k + 1, _, by omega, by go_num, rfl, hst.out, hBj.out⟩
          case measure => simp [intOf]; omega
        · have ht : Hid (l.take 5 = l) := Lib.hid (List.take_of_length_le (by have := hl.len; omega))
          rw [ht.out] at hfl
          go_wp2_with (at_builtin; refine wpList_append_own _ rfl _ _ 22 rfl w0.heap.size 24 i9 _ 1 24 Try.underlying22 hi9 hz0 hz1 hz2 rfl (by decide) _ N xs rfl (hown.alloc _) _ 1 1 [.slice A' n' c'] rfl rfl (cell_one_at5 _ _ _ _ rfl) (one_slice _ _ _) (by unfold maxLen; omega) (by omega) (by rw [World.size_alloc]; omega) ?_)
          intro u wj hown6 hgrow6 _
          have hbj : Below w0.heap.size w0 wj := (hbe.alloc hz _).grown hgrow6 (by rw [World.size_alloc]; omega) (fun q e => hlo q e)
          rw [← hN.out] at hown6 hown
          have hst := Lib.hid (OwnL.snoc (w := w0) (w' := wj) (C := w0.heap.size) (l := l) (fun i l' hi => by
            obtain ⟨A2, n2, c2, e2, h2⟩ := hxs i l' hi
            exact ⟨A2, n2, c2, e2, h2.back hbe⟩) (by rw [hown.1, Nat.mul_one]) (hl.back hbe) hown6 (fun b o hb => hbj.cell (p := ⟨b, o, none⟩) hb))
          rw [hfl.out] at hst
          have hBj := Lib.hid hbj
          clear hown6 hgrow6 hown hxs hl hbj hfl ht g0 hlo
          go_wp2_with fail
          go_roundw
          case rel => exact ⟨k + 1, _, by omega, by go_num, rfl, hst.out, hBj.out⟩
          case measure => simp [intOf]; omega
      · obtain rfl : k = p := by omega
        obtain ⟨A', c', rfl, hH⟩ := hO.read hbe.size
        have hle : (fewL L k).length ≤ m := by rw [fewL_length (by rw [hll.out]; omega)]; exact hpm
        obtain ⟨N, hN⟩ : ∃ N, Hid ((fewL L k).length = N) := ⟨_, Lib.hid rfl⟩
        rw [hN.out] at hH hle ⊢
        rw [hF.out] at hH
        have hH := Lib.hid hH
        clear hO
        go_wp2_with fail
        go_ret
        exact ⟨⟨_, _, _, rfl, hH.out, hle⟩, hbe⟩

/-! ### The document's examples -/
theorem lit1 (W : World) (y : Int) (g : Nat) (hg : g = W.heap.size) : HasI (W.alloc (.cells #[.int .i64 y] 3)) (W.alloc (.cells #[.int .i64 y] 3)).heap.size (some ⟨g, 0, none⟩) 1 1 [y] :=
  (HasI.litAt W [y] #[.int .i64 y] rfl 3 (0, 0) 1 rfl (by decide) g hg).more (by subst hg; simp)
theorem HasL.lit2 {w : World} {A0 : Option Addr} {n0 c0 : Nat} {l0 : List Int} {A1 : Option Addr} {n1 c1 : Nat} {l1 : List Int} (h0 : HasI w w.heap.size A0 n0 c0 l0) (h1 : HasI w w.heap.size A1 n1 c1 l1) (T : TypeId) (g : Nat) (hg : g = w.heap.size) :
    HasL (w.alloc (.cells #[.slice A0 n0 c0, .slice A1 n1 c1] T)) (w.alloc (.cells #[.slice A0 n0 c0, .slice A1 n1 c1] T)).heap.size (some ⟨g, 0, none⟩) 2 2 [l0, l1] := by
  subst hg
  refine ⟨rfl, Nat.le_refl _, by decide, (fun h => by cases h), fun i hi => ?_⟩
  match i, hi with
  | 0, _ => exact ⟨w.heap.size, 0, _, _, _, rfl, by simp, by rw [cell_new]; rfl, h0.allocS _⟩
  | 1, _ => exact ⟨w.heap.size, 0, _, _, _, rfl, by simp, by rw [cell_new]; rfl, h1.allocS _⟩
  | (j + 2), h => exact absurd h (by omega)
theorem HasL.lit3 {w : World} {A0 : Option Addr} {n0 c0 : Nat} {l0 : List Int} {A1 : Option Addr} {n1 c1 : Nat} {l1 : List Int} {A2 : Option Addr} {n2 c2 : Nat} {l2 : List Int} (h0 : HasI w w.heap.size A0 n0 c0 l0) (h1 : HasI w w.heap.size A1 n1 c1 l1) (h2 : HasI w w.heap.size A2 n2 c2 l2) (T : TypeId) (g : Nat) (hg : g = w.heap.size) :
    HasL (w.alloc (.cells #[.slice A0 n0 c0, .slice A1 n1 c1, .slice A2 n2 c2] T)) (w.alloc (.cells #[.slice A0 n0 c0, .slice A1 n1 c1, .slice A2 n2 c2] T)).heap.size (some ⟨g, 0, none⟩) 3 3 [l0, l1, l2] := by
  subst hg
  refine ⟨rfl, Nat.le_refl _, by decide, (fun h => by cases h), fun i hi => ?_⟩
  match i, hi with
  | 0, _ => exact ⟨w.heap.size, 0, _, _, _, rfl, by simp, by rw [cell_new]; rfl, h0.allocS _⟩
  | 1, _ => exact ⟨w.heap.size, 0, _, _, _, rfl, by simp, by rw [cell_new]; rfl, h1.allocS _⟩
  | 2, _ => exact ⟨w.heap.size, 0, _, _, _, rfl, by simp, by rw [cell_new]; rfl, h2.allocS _⟩
  | (j + 3), h => exact absurd h (by omega)
theorem HasL.lit4 {w : World} {A0 : Option Addr} {n0 c0 : Nat} {l0 : List Int} {A1 : Option Addr} {n1 c1 : Nat} {l1 : List Int} {A2 : Option Addr} {n2 c2 : Nat} {l2 : List Int} {A3 : Option Addr} {n3 c3 : Nat} {l3 : List Int} (h0 : HasI w w.heap.size A0 n0 c0 l0) (h1 : HasI w w.heap.size A1 n1 c1 l1) (h2 : HasI w w.heap.size A2 n2 c2 l2) (h3 : HasI w w.heap.size A3 n3 c3 l3) (T : TypeId) (g : Nat) (hg : g = w.heap.size) :
    HasL (w.alloc (.cells #[.slice A0 n0 c0, .slice A1 n1 c1, .slice A2 n2 c2, .slice A3 n3 c3] T)) (w.alloc (.cells #[.slice A0 n0 c0, .slice A1 n1 c1, .slice A2 n2 c2, .slice A3 n3 c3] T)).heap.size (some ⟨g, 0, none⟩) 4 4 [l0, l1, l2, l3] := by
  subst hg
  refine ⟨rfl, Nat.le_refl _, by decide, (fun h => by cases h), fun i hi => ?_⟩
  match i, hi with
  | 0, _ => exact ⟨w.heap.size, 0, _, _, _, rfl, by simp, by rw [cell_new]; rfl, h0.allocS _⟩
  | 1, _ => exact ⟨w.heap.size, 0, _, _, _, rfl, by simp, by rw [cell_new]; rfl, h1.allocS _⟩
  | 2, _ => exact ⟨w.heap.size, 0, _, _, _, rfl, by simp, by rw [cell_new]; rfl, h2.allocS _⟩
  | 3, _ => exact ⟨w.heap.size, 0, _, _, _, rfl, by simp, by rw [cell_new]; rfl, h3.allocS _⟩
  | (j + 4), h => exact absurd h (by omega)
set_option maxRecDepth 100000 in
set_option maxHeartbeats 2000000 in
theorem cellLives_any (w : World) : Calls Try.prog 14 #[] w fun e w' => e = .returned (.bool true) ∧ Below w.heap.size w w' := by
  have r1 : Hid (cFold 1 [[3], [-5]] = ((2, [-2], [-5], [3]), 0)) := Lib.hid (by decide +kernel)
  have r2 : Hid (cFold 1 [[2305843009213693952], [2305843009213693952], [2305843009213693952], [-2305843009213693952]] = ((4, [4611686018427387904], [-2305843009213693952], [2305843009213693952]), 0)) := Lib.hid (by decide +kernel)
  have r3 : Hid (cFold 1 [[2305843009213693952], [2305843009213693952], [2305843009213693952]] = ((0, [], [], []), 14)) := Lib.hid (by decide +kernel)
  have r4 : Hid (cMerge (0, [0], [0], [0]) (0, [0, 0], [0, 0], [0, 0]) = ((0, [], [], []), 1)) := Lib.hid (by decide +kernel)
  have r5 : Hid (cMay (2, [-2], [-5], [3])) := Lib.hid (by decide +kernel)
  go_enter Try.func14, Try.ntmps14
  go_wp2_with fail
  have i0 := lit1 (w) (3) (w.heap.size) (by simp)
  have i1 := lit1 ((w).alloc (.cells #[.int .i64 (3)] 3)) (-5) (w.heap.size + 1) (by simp)
  have i0 := i0.allocS (.cells #[.int .i64 (-5)] 3)
  have hL := HasL.lit2 i0 i1 24 (w.heap.size + 1 + 1) (by simp)
  have hbl := below_then (below_then (below_a1 (w) (.cells #[.int .i64 (3)] 3)) (below_a1 ((w).alloc (.cells #[.int .i64 (3)] 3)) (.cells #[.int .i64 (-5)] 3))) (below_a1 (((w).alloc (.cells #[.int .i64 (3)] 3)).alloc (.cells #[.int .i64 (-5)] 3)) (.cells #[.slice (some ⟨w.heap.size, 0, none⟩) 1 1, .slice (some ⟨w.heap.size + 1, 0, none⟩) 1 1] 24))
  clear i0 i1
  generalize (((w).alloc (.cells #[.int .i64 (3)] 3)).alloc (.cells #[.int .i64 (-5)] 3)).alloc (.cells #[.slice (some ⟨w.heap.size, 0, none⟩) 1 1, .slice (some ⟨w.heap.size + 1, 0, none⟩) 1 1] 24) = w0 at hL hbl ⊢
  refine (fold_any 1 hL (by decide)).mono ?_
  rintro e w1 he
  obtain ⟨P1, Pn1, Pc1, P2, Pn2, Pc2, P3, Pn3, Pc3, rfl, hP, hb1⟩ := (TellC.toH he).of r1.out
  have HB := below_then (below_then hbl hb1) (below_a1 w1 (.cells #[.int .i64 2, .slice P1 Pn1 Pc1, .slice P2 Pn2 Pc2, .slice P3 Pn3 Pc3] 26))
  have hB1 := Block.new w1 26 #[.int .i64 2, .slice P1 Pn1 Pc1, .slice P2 Pn2 Pc2, .slice P3 Pn3 Pc3]
  have hP := hP.allocS (.cells #[.int .i64 2, .slice P1 Pn1 Pc1, .slice P2 Pn2 Pc2, .slice P3 Pn3 Pc3] 26)
  clear he hL hbl hb1
  go_wp2_with fail
  have i0 := lit1 (w1.alloc (.cells #[.int .i64 2, .slice P1 Pn1 Pc1, .slice P2 Pn2 Pc2, .slice P3 Pn3 Pc3] 26)) (2305843009213693952) (w1.heap.size + 1) (by simp)
  have i1 := lit1 ((w1.alloc (.cells #[.int .i64 2, .slice P1 Pn1 Pc1, .slice P2 Pn2 Pc2, .slice P3 Pn3 Pc3] 26)).alloc (.cells #[.int .i64 (2305843009213693952)] 3)) (2305843009213693952) (w1.heap.size + 1 + 1) (by simp)
  have i0 := i0.allocS (.cells #[.int .i64 (2305843009213693952)] 3)
  have i2 := lit1 (((w1.alloc (.cells #[.int .i64 2, .slice P1 Pn1 Pc1, .slice P2 Pn2 Pc2, .slice P3 Pn3 Pc3] 26)).alloc (.cells #[.int .i64 (2305843009213693952)] 3)).alloc (.cells #[.int .i64 (2305843009213693952)] 3)) (2305843009213693952) (w1.heap.size + 1 + 1 + 1) (by simp)
  have i0 := i0.allocS (.cells #[.int .i64 (2305843009213693952)] 3)
  have i1 := i1.allocS (.cells #[.int .i64 (2305843009213693952)] 3)
  have i3 := lit1 ((((w1.alloc (.cells #[.int .i64 2, .slice P1 Pn1 Pc1, .slice P2 Pn2 Pc2, .slice P3 Pn3 Pc3] 26)).alloc (.cells #[.int .i64 (2305843009213693952)] 3)).alloc (.cells #[.int .i64 (2305843009213693952)] 3)).alloc (.cells #[.int .i64 (2305843009213693952)] 3)) (-2305843009213693952) (w1.heap.size + 1 + 1 + 1 + 1) (by simp)
  have i0 := i0.allocS (.cells #[.int .i64 (-2305843009213693952)] 3)
  have i1 := i1.allocS (.cells #[.int .i64 (-2305843009213693952)] 3)
  have i2 := i2.allocS (.cells #[.int .i64 (-2305843009213693952)] 3)
  have hL := HasL.lit4 i0 i1 i2 i3 24 (w1.heap.size + 1 + 1 + 1 + 1 + 1) (by simp)
  have hbl := below_then (below_then (below_then (below_then (below_a1 (w1.alloc (.cells #[.int .i64 2, .slice P1 Pn1 Pc1, .slice P2 Pn2 Pc2, .slice P3 Pn3 Pc3] 26)) (.cells #[.int .i64 (2305843009213693952)] 3)) (below_a1 ((w1.alloc (.cells #[.int .i64 2, .slice P1 Pn1 Pc1, .slice P2 Pn2 Pc2, .slice P3 Pn3 Pc3] 26)).alloc (.cells #[.int .i64 (2305843009213693952)] 3)) (.cells #[.int .i64 (2305843009213693952)] 3))) (below_a1 (((w1.alloc (.cells #[.int .i64 2, .slice P1 Pn1 Pc1, .slice P2 Pn2 Pc2, .slice P3 Pn3 Pc3] 26)).alloc (.cells #[.int .i64 (2305843009213693952)] 3)).alloc (.cells #[.int .i64 (2305843009213693952)] 3)) (.cells #[.int .i64 (2305843009213693952)] 3))) (below_a1 ((((w1.alloc (.cells #[.int .i64 2, .slice P1 Pn1 Pc1, .slice P2 Pn2 Pc2, .slice P3 Pn3 Pc3] 26)).alloc (.cells #[.int .i64 (2305843009213693952)] 3)).alloc (.cells #[.int .i64 (2305843009213693952)] 3)).alloc (.cells #[.int .i64 (2305843009213693952)] 3)) (.cells #[.int .i64 (-2305843009213693952)] 3))) (below_a1 (((((w1.alloc (.cells #[.int .i64 2, .slice P1 Pn1 Pc1, .slice P2 Pn2 Pc2, .slice P3 Pn3 Pc3] 26)).alloc (.cells #[.int .i64 (2305843009213693952)] 3)).alloc (.cells #[.int .i64 (2305843009213693952)] 3)).alloc (.cells #[.int .i64 (2305843009213693952)] 3)).alloc (.cells #[.int .i64 (-2305843009213693952)] 3)) (.cells #[.slice (some ⟨w1.heap.size + 1, 0, none⟩) 1 1, .slice (some ⟨w1.heap.size + 1 + 1, 0, none⟩) 1 1, .slice (some ⟨w1.heap.size + 1 + 1 + 1, 0, none⟩) 1 1, .slice (some ⟨w1.heap.size + 1 + 1 + 1 + 1, 0, none⟩) 1 1] 24))
  clear i0 i1 i2 i3
  have HB := below_then HB hbl
  have hB1 := hB1.below hbl hB1.lt
  have hP := hP.belowS hbl
  generalize hw2 : (((((w1.alloc (.cells #[.int .i64 2, .slice P1 Pn1 Pc1, .slice P2 Pn2 Pc2, .slice P3 Pn3 Pc3] 26)).alloc (.cells #[.int .i64 (2305843009213693952)] 3)).alloc (.cells #[.int .i64 (2305843009213693952)] 3)).alloc (.cells #[.int .i64 (2305843009213693952)] 3)).alloc (.cells #[.int .i64 (-2305843009213693952)] 3)).alloc (.cells #[.slice (some ⟨w1.heap.size + 1, 0, none⟩) 1 1, .slice (some ⟨w1.heap.size + 1 + 1, 0, none⟩) 1 1, .slice (some ⟨w1.heap.size + 1 + 1 + 1, 0, none⟩) 1 1, .slice (some ⟨w1.heap.size + 1 + 1 + 1 + 1, 0, none⟩) 1 1] 24) = w2 at hL HB hB1 hP ⊢
  have hw2 := Lib.hid hw2
  clear hbl
  refine (fold_any 1 hL (by decide)).mono ?_
  rintro e w3 he
  obtain ⟨Q1, Qn1, Qc1, Q2, Qn2, Qc2, Q3, Qn3, Qc3, rfl, hQ, hb1⟩ := (TellC.toH he).of r2.out
  have HB := below_then (below_then HB hb1) (below_a1 w3 (.cells #[.int .i64 4, .slice Q1 Qn1 Qc1, .slice Q2 Qn2 Qc2, .slice Q3 Qn3 Qc3] 26))
  have hB1 := (hB1.below hb1 hB1.lt).alloc (.cells #[.int .i64 4, .slice Q1 Qn1 Qc1, .slice Q2 Qn2 Qc2, .slice Q3 Qn3 Qc3] 26)
  have hP := (hP.belowS hb1).allocS (.cells #[.int .i64 4, .slice Q1 Qn1 Qc1, .slice Q2 Qn2 Qc2, .slice Q3 Qn3 Qc3] 26)
  have hB3 := Block.new w3 26 #[.int .i64 4, .slice Q1 Qn1 Qc1, .slice Q2 Qn2 Qc2, .slice Q3 Qn3 Qc3]
  have hQ := hQ.allocS (.cells #[.int .i64 4, .slice Q1 Qn1 Qc1, .slice Q2 Qn2 Qc2, .slice Q3 Qn3 Qc3] 26)
  clear he hL hb1 hw2
  go_wp2_with fail
  have i0 := lit1 (w3.alloc (.cells #[.int .i64 4, .slice Q1 Qn1 Qc1, .slice Q2 Qn2 Qc2, .slice Q3 Qn3 Qc3] 26)) (2305843009213693952) (w3.heap.size + 1) (by simp)
  have i1 := lit1 ((w3.alloc (.cells #[.int .i64 4, .slice Q1 Qn1 Qc1, .slice Q2 Qn2 Qc2, .slice Q3 Qn3 Qc3] 26)).alloc (.cells #[.int .i64 (2305843009213693952)] 3)) (2305843009213693952) (w3.heap.size + 1 + 1) (by simp)
  have i0 := i0.allocS (.cells #[.int .i64 (2305843009213693952)] 3)
  have i2 := lit1 (((w3.alloc (.cells #[.int .i64 4, .slice Q1 Qn1 Qc1, .slice Q2 Qn2 Qc2, .slice Q3 Qn3 Qc3] 26)).alloc (.cells #[.int .i64 (2305843009213693952)] 3)).alloc (.cells #[.int .i64 (2305843009213693952)] 3)) (2305843009213693952) (w3.heap.size + 1 + 1 + 1) (by simp)
  have i0 := i0.allocS (.cells #[.int .i64 (2305843009213693952)] 3)
  have i1 := i1.allocS (.cells #[.int .i64 (2305843009213693952)] 3)
  have hL := HasL.lit3 i0 i1 i2 24 (w3.heap.size + 1 + 1 + 1 + 1) (by simp)
  have hbl := below_then (below_then (below_then (below_a1 (w3.alloc (.cells #[.int .i64 4, .slice Q1 Qn1 Qc1, .slice Q2 Qn2 Qc2, .slice Q3 Qn3 Qc3] 26)) (.cells #[.int .i64 (2305843009213693952)] 3)) (below_a1 ((w3.alloc (.cells #[.int .i64 4, .slice Q1 Qn1 Qc1, .slice Q2 Qn2 Qc2, .slice Q3 Qn3 Qc3] 26)).alloc (.cells #[.int .i64 (2305843009213693952)] 3)) (.cells #[.int .i64 (2305843009213693952)] 3))) (below_a1 (((w3.alloc (.cells #[.int .i64 4, .slice Q1 Qn1 Qc1, .slice Q2 Qn2 Qc2, .slice Q3 Qn3 Qc3] 26)).alloc (.cells #[.int .i64 (2305843009213693952)] 3)).alloc (.cells #[.int .i64 (2305843009213693952)] 3)) (.cells #[.int .i64 (2305843009213693952)] 3))) (below_a1 ((((w3.alloc (.cells #[.int .i64 4, .slice Q1 Qn1 Qc1, .slice Q2 Qn2 Qc2, .slice Q3 Qn3 Qc3] 26)).alloc (.cells #[.int .i64 (2305843009213693952)] 3)).alloc (.cells #[.int .i64 (2305843009213693952)] 3)).alloc (.cells #[.int .i64 (2305843009213693952)] 3)) (.cells #[.slice (some ⟨w3.heap.size + 1, 0, none⟩) 1 1, .slice (some ⟨w3.heap.size + 1 + 1, 0, none⟩) 1 1, .slice (some ⟨w3.heap.size + 1 + 1 + 1, 0, none⟩) 1 1] 24))
  clear i0 i1 i2
  have HB := below_then HB hbl
  have hB1 := hB1.below hbl hB1.lt
  have hP := hP.belowS hbl
  have hB3 := hB3.below hbl hB3.lt
  have hQ := hQ.belowS hbl
  generalize hw2 : ((((w3.alloc (.cells #[.int .i64 4, .slice Q1 Qn1 Qc1, .slice Q2 Qn2 Qc2, .slice Q3 Qn3 Qc3] 26)).alloc (.cells #[.int .i64 (2305843009213693952)] 3)).alloc (.cells #[.int .i64 (2305843009213693952)] 3)).alloc (.cells #[.int .i64 (2305843009213693952)] 3)).alloc (.cells #[.slice (some ⟨w3.heap.size + 1, 0, none⟩) 1 1, .slice (some ⟨w3.heap.size + 1 + 1, 0, none⟩) 1 1, .slice (some ⟨w3.heap.size + 1 + 1 + 1, 0, none⟩) 1 1] 24) = w4 at hL HB hB1 hP hB3 hQ ⊢
  have hw2 := Lib.hid hw2
  clear hbl
  refine (fold_any 1 hL (by decide)).mono ?_
  rintro e w5 he
  obtain ⟨R1, Rn1, Rc1, R2, Rn2, Rc2, R3, Rn3, Rc3, rfl, hR, hb1⟩ := (TellC.toH he).of r3.out
  have HB := below_then (below_then HB hb1) (below_a1 w5 (.cells #[.int .i64 0, .slice R1 Rn1 Rc1, .slice R2 Rn2 Rc2, .slice R3 Rn3 Rc3] 26))
  have hB1 := (hB1.below hb1 hB1.lt).alloc (.cells #[.int .i64 0, .slice R1 Rn1 Rc1, .slice R2 Rn2 Rc2, .slice R3 Rn3 Rc3] 26)
  have hP := (hP.belowS hb1).allocS (.cells #[.int .i64 0, .slice R1 Rn1 Rc1, .slice R2 Rn2 Rc2, .slice R3 Rn3 Rc3] 26)
  have hB3 := (hB3.below hb1 hB3.lt).alloc (.cells #[.int .i64 0, .slice R1 Rn1 Rc1, .slice R2 Rn2 Rc2, .slice R3 Rn3 Rc3] 26)
  have hQ := (hQ.belowS hb1).allocS (.cells #[.int .i64 0, .slice R1 Rn1 Rc1, .slice R2 Rn2 Rc2, .slice R3 Rn3 Rc3] 26)
  clear he hL hb1 hw2 hR
  go_wp2_with fail
  generalize w5.alloc (.cells #[.int .i64 0, .slice R1 Rn1 Rc1, .slice R2 Rn2 Rc2, .slice R3 Rn3 Rc3] 26) = w6 at HB hB1 hP hB3 hQ ⊢
  refine (empty_any 1 _ (m := 1) (by decide)).mono ?_
  rintro e w7 ⟨⟨e1, e2, e3, rfl, ho, _⟩, hb1⟩
  have HB := below_then HB hb1
  have hB1 := hB1.below hb1 hB1.lt
  have hP := hP.belowS hb1
  have hB3 := hB3.below hb1 hB3.lt
  have hQ := hQ.belowS hb1
  have hE : HasC w7 w7.heap.size _ _ _ _ _ _ _ _ _ [0] [0] [0] := ⟨ho.s.has, ho.m.has, ho.x.has⟩
  clear ho hb1
  go_wp2_with fail
  refine (empty_any 2 _ (m := 2) (by decide)).mono ?_
  rintro e w8 ⟨⟨d1, d2, d3, rfl, ho, _⟩, hb1⟩
  have HB := below_then HB hb1
  have hB1 := hB1.below hb1 hB1.lt
  have hP := hP.belowS hb1
  have hB3 := hB3.below hb1 hB3.lt
  have hQ := hQ.belowS hb1
  have hE := hE.belowS hb1
  have hD : HasC w8 w8.heap.size _ _ _ _ _ _ _ _ _ [0, 0] [0, 0] [0, 0] := ⟨ho.s.has, ho.m.has, ho.x.has⟩
  clear ho hb1
  go_wp2_with fail
  refine (merge_any (q := 0) (q' := 0) hE hD).mono ?_
  rintro e w9 he
  obtain ⟨S1, Sn1, Sc1, S2, Sn2, Sc2, S3, Sn3, Sc3, rfl, hS, hb1⟩ := (TellC.toH he).of r4.out
  have HB := below_then (below_then HB hb1) (below_a1 w9 (.cells #[.int .i64 0, .slice S1 Sn1 Sc1, .slice S2 Sn2 Sc2, .slice S3 Sn3 Sc3] 26))
  have hB1 := (hB1.below hb1 hB1.lt).alloc (.cells #[.int .i64 0, .slice S1 Sn1 Sc1, .slice S2 Sn2 Sc2, .slice S3 Sn3 Sc3] 26)
  have hP := (hP.belowS hb1).allocS (.cells #[.int .i64 0, .slice S1 Sn1 Sc1, .slice S2 Sn2 Sc2, .slice S3 Sn3 Sc3] 26)
  have hB3 := (hB3.below hb1 hB3.lt).alloc (.cells #[.int .i64 0, .slice S1 Sn1 Sc1, .slice S2 Sn2 Sc2, .slice S3 Sn3 Sc3] 26)
  have hQ := (hQ.belowS hb1).allocS (.cells #[.int .i64 0, .slice S1 Sn1 Sc1, .slice S2 Sn2 Sc2, .slice S3 Sn3 Sc3] 26)
  clear he hE hD hb1 hS
  have g0 : (w9.alloc (.cells #[.int .i64 0, .slice S1 Sn1 Sc1, .slice S2 Sn2 Sc2, .slice S3 Sn3 Sc3] 26)).cell? ⟨w1.heap.size, 0, none⟩ = some (.int .i64 2) := hB1.cell 0
  have g1 : (w9.alloc (.cells #[.int .i64 0, .slice S1 Sn1 Sc1, .slice S2 Sn2 Sc2, .slice S3 Sn3 Sc3] 26)).cell? ⟨w1.heap.size, 1, none⟩ = some (.slice P1 Pn1 Pc1) := hB1.cell 1
  have g2 : (w9.alloc (.cells #[.int .i64 0, .slice S1 Sn1 Sc1, .slice S2 Sn2 Sc2, .slice S3 Sn3 Sc3] 26)).cell? ⟨w1.heap.size, 2, none⟩ = some (.slice P2 Pn2 Pc2) := hB1.cell 2
  have g3 : (w9.alloc (.cells #[.int .i64 0, .slice S1 Sn1 Sc1, .slice S2 Sn2 Sc2, .slice S3 Sn3 Sc3] 26)).cell? ⟨w1.heap.size, 3, none⟩ = some (.slice P3 Pn3 Pc3) := hB1.cell 3
  go_wp2_with fail
  have i0 := lit1 (w9.alloc (.cells #[.int .i64 0, .slice S1 Sn1 Sc1, .slice S2 Sn2 Sc2, .slice S3 Sn3 Sc3] 26)) (-2) (w9.heap.size + 1) (by simp)
  have i0 := i0.allocS (.cells #[.int .i64 (-5)] 3)
  have i0 := i0.allocS (.cells #[.int .i64 3] 3)
  have i1 := lit1 ((w9.alloc (.cells #[.int .i64 0, .slice S1 Sn1 Sc1, .slice S2 Sn2 Sc2, .slice S3 Sn3 Sc3] 26)).alloc (.cells #[.int .i64 (-2)] 3)) (-5) (w9.heap.size + 1 + 1) (by simp)
  have i1 := i1.allocS (.cells #[.int .i64 3] 3)
  have i2 := lit1 (((w9.alloc (.cells #[.int .i64 0, .slice S1 Sn1 Sc1, .slice S2 Sn2 Sc2, .slice S3 Sn3 Sc3] 26)).alloc (.cells #[.int .i64 (-2)] 3)).alloc (.cells #[.int .i64 (-5)] 3)) 3 (w9.heap.size + 1 + 1 + 1) (by simp)
  have hbl := below_a3 (w9.alloc (.cells #[.int .i64 0, .slice S1 Sn1 Sc1, .slice S2 Sn2 Sc2, .slice S3 Sn3 Sc3] 26)) (.cells #[.int .i64 (-2)] 3) (.cells #[.int .i64 (-5)] 3) (.cells #[.int .i64 3] 3)
  have HB := below_then HB hbl
  have hB1 := hB1.below hbl hB1.lt
  have hP := hP.belowS hbl
  have hB3 := hB3.below hbl hB3.lt
  have hQ := hQ.belowS hbl
  clear hbl g0 g1 g2 g3
  generalize hw2 : ((((w9.alloc (.cells #[.int .i64 0, .slice S1 Sn1 Sc1, .slice S2 Sn2 Sc2, .slice S3 Sn3 Sc3] 26)).alloc (.cells #[.int .i64 (-2)] 3)).alloc (.cells #[.int .i64 (-5)] 3)).alloc (.cells #[.int .i64 3] 3)) = wb at HB hB1 hP hB3 hQ i0 i1 i2 ⊢
  have hw2 := Lib.hid hw2
  refine (refSame_any (n := 2) (n' := 2) hP ⟨i0, i1, i2⟩ (r := true) (by simp)).mono ?_
  rintro e wc ⟨rfl, hb1⟩
  have HB := below_then HB hb1
  have hB1 := hB1.below hb1 hB1.lt
  have hP := hP.belowS hb1
  have hB3 := hB3.below hb1 hB3.lt
  have hQ := hQ.belowS hb1
  clear hb1 i0 i1 i2 hw2
  have hB1c := hB1
  have hB3c := hB3
  have hPc := hP
  have hQc := hQ
  have HBc := HB
  have hq1 : Qn1 = 1 := by have := hQc.s.len; simpa using this.symm
  subst hq1
  obtain ⟨b, o, y, rfl, _, cy, ey⟩ := hQc.s.at_ (k := 0) (by decide)
  obtain rfl : y = 4611686018427387904 := ey.out
  rw [Nat.add_zero] at cy
  have g0 : wc.cell? ⟨w1.heap.size, 0, none⟩ = some (.int .i64 2) := hB1c.cell 0
  have g1 : wc.cell? ⟨w1.heap.size, 1, none⟩ = some (.slice P1 Pn1 Pc1) := hB1c.cell 1
  have g2 : wc.cell? ⟨w1.heap.size, 2, none⟩ = some (.slice P2 Pn2 Pc2) := hB1c.cell 2
  have g3 : wc.cell? ⟨w1.heap.size, 3, none⟩ = some (.slice P3 Pn3 Pc3) := hB1c.cell 3
  have k1 : wc.cell? ⟨w3.heap.size, 1, none⟩ = some (.slice (some ⟨b, o, none⟩) 1 Qc1) := hB3c.cell 1
  have HM := Lib.hid (may_any (n := 2) hPc (r := true) (by simpa using r5.out))
  clear hB1c hB3c hPc hQc ey
  go_wp2_with fail
  refine HM.out.mono ?_
  rintro e wd ⟨rfl, hb1c⟩
  have HBc := below_then HBc hb1c
  go_wp2_with fail
  go_ret
  exact ⟨rfl, HBc⟩
end Go.Proofs.Ytbgbchbnidejhaa
